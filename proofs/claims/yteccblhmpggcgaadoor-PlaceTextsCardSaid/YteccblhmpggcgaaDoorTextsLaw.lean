/- What PlaceTexts asks beside both readings: the text of a place is read back; bytes that are written. -/
import Derived.Test.YteccblhmpggcgaaDoorParseTwo
import Derived.Test.YteccblhmpggcgaaDoorSome
import Derived.Deep.CutRange
import Derived.Laws.BytesArg
import Derived.Laws.IdiomStrings
namespace Go.Proofs.YteccblhmpggcgaaDoor
open Go.RowKit

theorem b10_toNat {x : Int} (h0 : 0 ≤ x) (h1 : x ≤ 9) : (b10 x).toNat = 48 + x.toNat := by
  unfold b10; rw [UInt8.toNat_ofNat']; omega
theorem numv_dig2 {n : Int} (h1 : 0 ≤ n) (h2 : n ≤ 99) : numv (dig2 n) = n ∧ digs (dig2 n) = true := by
  have a := b10_toNat (x := n / 10) (by omega) (by omega)
  have b := b10_toNat (x := n % 10) (by omega) (by omega)
  unfold dig2
  refine ⟨by simp only [numv, List.foldl]; omega, ?_⟩
  simp only [digs_cons]
  exact ⟨⟨by omega, by omega⟩, ⟨by omega, by omega⟩, rfl⟩
theorem numv_dig3 {n : Int} (h1 : 0 ≤ n) (h2 : n ≤ 999) : numv (dig3 n) = n ∧ digs (dig3 n) = true := by
  have a := b10_toNat (x := n / 100) (by omega) (by omega)
  have b := b10_toNat (x := n / 10 % 10) (by omega) (by omega)
  have c := b10_toNat (x := n % 10) (by omega) (by omega)
  unfold dig3
  refine ⟨by simp only [numv, List.foldl]; omega, ?_⟩
  simp only [digs_cons]
  exact ⟨⟨by omega, by omega⟩, ⟨by omega, by omega⟩, ⟨by omega, by omega⟩, rfl⟩
theorem digs_append (a b : List UInt8) : digs (a ++ b) = (digs a && digs b) := by unfold digs; rw [List.all_append]
theorem fld_S (l : List UInt8) (a b : Nat) : fld (S l) a b = numv ((l.drop a).take (b - a)) := by unfold fld; rw [extract_list, S_list]
/-- The text of a valid place is read back. -/
theorem parse_txt (f : Nat) (x y z : Int) (w : World) (h : Ico.Vld f x y z) :
    Calls Tryd.prog 29 #[.string (S (txt f x y))] w fun e w' => e = .returned (.tuple #[.agg #[.int .i64 f, .int .i64 x, .int .i64 y, .int .i64 z], .int .i64 0]) ∧ Below w.heap.size w w' := by
  have hv := vb_of h
  obtain ⟨h0, h1, h2, h3, h4, h5, h6, h7⟩ := h
  obtain ⟨a1, a2⟩ := numv_dig2 (n := (f : Int)) (by omega) (by omega)
  obtain ⟨b1, b2⟩ := numv_dig3 (n := x) (by omega) (by omega)
  obtain ⟨c1, c2⟩ := numv_dig3 (n := y) (by omega) (by omega)
  have hd : digs (S (txt f x y)).data.toList = true := by rw [S_list]; unfold txt; rw [digs_append, digs_append, a2, b2, c2]; rfl
  have f1 : fld (S (txt f x y)) 0 2 = f := by rw [fld_S]; exact a1
  have f2 : fld (S (txt f x y)) 2 5 = x := by rw [fld_S]; exact b1
  have f3 : fld (S (txt f x y)) 5 8 = y := by rw [fld_S]; exact c1
  have e : 840 - x - y = z := by omega
  have k := parse_val (S (txt f x y)) w rfl hd (by rw [f1, f2, f3, e]; exact hv)
  rw [f1, f2, f3, e] at k
  exact k
/-- Block g holds eight bytes that may be written. -/
def Bys (w : World) (g : Nat) : Prop := ∃ (C : Array Value) (fr : Nat × Nat), w.heap[g]? = some (.cells C 5 fr) ∧ 8 ≤ fr.1 ∧ ∀ j, j < 8 → ∃ z : Int, C[j]? = some (.int .u8 z)
theorem Bys.at {w : World} {g : Nat} (h : Bys w g) (j : Nat) (hj : j < 8) : ∃ z : Int, w.cell? ⟨g, j, none⟩ = some (.int .u8 z) ∧ w.frozen? ⟨g, j, none⟩ = false := by
  obtain ⟨C, fr, h1, h2, h3⟩ := h
  obtain ⟨z, e⟩ := h3 j hj
  refine ⟨z, ?_, ?_⟩
  · unfold World.cell?; rw [h1]; exact e
  · unfold World.frozen?; rw [h1]; simp; omega
theorem Bys.set {w : World} {g : Nat} (h : Bys w g) (k : Nat) (z : Int) : Bys (w.setCell ⟨g, k, none⟩ (.int .u8 z)) g := by
  obtain ⟨C, fr, h1, h2, h3⟩ := h
  refine ⟨C.setIfInBounds k (.int .u8 z), fr, by simp [World.setCell, Array.getElem?_modify, h1], h2, fun j hj => ?_⟩
  obtain ⟨x, e⟩ := h3 j hj
  by_cases hk : k = j
  · subst hk
    refine ⟨z, ?_⟩
    have hlt := (Array.getElem?_eq_some_iff.1 e).1
    rw [Array.getElem?_setIfInBounds]; simp [hlt]
  · exact ⟨x, by rw [Array.getElem?_setIfInBounds]; simp [hk, e]⟩
theorem Bys.drew {w : World} {g : Nat} (h : Bys w g) : Bys w.drew g := h
/-- What '[]byte(t)' lays. -/
theorem Bys.new (w : World) (l : List UInt8) (hl : l.length = 8) (cap : Nat) : Bys (w.alloc (.cells (bytesRow (S l) cap) 5 ((bytesRow (S l) cap).size, (bytesRow (S l) cap).size + 1))) w.heap.size := by
  have hs : (S l).size = 8 := by rw [S_size, hl]
  refine ⟨_, _, heap_alloc_new w _, ?_, fun j hj => ?_⟩
  · show 8 ≤ (bytesRow (S l) cap).size
    unfold bytesRow; simp only [Array.size_append, Array.size_map]; have : (S l).data.size = 8 := hs; omega
  · have hj' : j < (S l).data.size := by have : (S l).data.size = 8 := hs; omega
    exact ⟨_, bytesRow_at (S l) cap j hj'⟩
/-- 'string(b)' of them is some text of eight bytes. -/
theorem Bys.text {w : World} {g : Nat} (h : Bys w g) (cap : Nat) : ∃ s : ByteArray, s.size = 8 ∧
    (convert 51 9 (.slice (some ⟨g, 0, none⟩) 8 cap)).run Tryd.prog w = .ok (.string s) w := by
  have hx : ∃ xs : List Int, xs.length = 8 ∧ ∀ i, i < 8 → w.cell? ⟨g, 0 + i, none⟩ = some (.int .u8 (xs.getD i 0)) := by
    refine ⟨(List.range 8).map fun j => match w.cell? ⟨g, j, none⟩ with | some (.int .u8 z) => z | _ => 0, by simp, fun i hi => ?_⟩
    obtain ⟨z, e, -⟩ := h.at i hi
    rw [Nat.zero_add, e, List.getD_eq_getElem?_getD, List.getElem?_map, List.getElem?_range hi]
    simp [e]
  obtain ⟨xs, hl, hc⟩ := hx
  exact ⟨strOfNums xs, by rw [strOfNums_size, hl], run_convert_bytes_arg (P := Tryd.prog) w 51 5 Tryd.underlying51 Tryd.underlying5 g 0 8 cap xs hl hc 9 Tryd.underlying9⟩
/-- A row of four texts. -/
def Four (w : World) (g : Nat) (a b c d : ByteArray) : Prop := Row w g 9 #[.string a, .string b, .string c, .string d]
end Go.Proofs.YteccblhmpggcgaaDoor
