/- The walk of ClockTexts: for every minute, text, list, place and byte the law returns true, and what lay in memory is as it was. -/
import Derived.Test.YtaohndjlaamdaaaDoorAwake
import Derived.Test.YtaohndjlaamdaaaDoorBothParse
import Derived.Test.YtaohndjlaamdaaaDoorRefForm
import Derived.Deep.CutRange
import Derived.Laws.IdiomStrings
namespace Go.Proofs.YtaohndjlaamdaaaDoor
open Go.RowKit

/-- Whatever the number: both functions answer the same text. -/
theorem both_format (m : Int) : ∃ (t : ByteArray) (b : Int), t.size ≤ 16 ∧
    (∀ w, Env w → Calls Tryd.prog 22 #[.int .i64 m] w fun e w' => e = .returned (.tuple #[.string t, .int .i64 b]) ∧ Below w.heap.size w w') ∧
    (∀ w, Calls Tryd.prog 29 #[.int .i64 m] w fun e w' => e = .returned (.tuple #[.string t, .int .i64 b]) ∧ Below w.heap.size w w') := by
  by_cases h : 0 ≤ m ∧ m ≤ 52595999
  · obtain ⟨y, mo, d, ho, i, hv, hn, -⟩ := Cal.num_of m h.1 h.2
    exact ⟨S (txt y mo d ho i), 0, by rw [S_size]; exact Nat.le_refl 16, fun w hE => format_yes _ _ _ _ _ _ w hE hn hv, fun w => refFormat_yes _ _ _ _ _ _ w hn hv⟩
  · have hr : Cal.rng m = false := Cal.rng_no (by omega)
    exact ⟨⟨#[]⟩, 1, by decide, fun w _ => format_no m w hr, fun w => refFormat_no m w hr⟩
/-- Block g holds sixteen bytes that may be written. -/
def Bys (w : World) (g : Nat) : Prop := ∃ (C : Array Value) (fr : Nat × Nat), w.heap[g]? = some (.cells C 5 fr) ∧ 16 ≤ fr.1 ∧ ∀ j, j < 16 → ∃ z : Int, C[j]? = some (.int .u8 z)
theorem Bys.at {w : World} {g : Nat} (h : Bys w g) (j : Nat) (hj : j < 16) : ∃ z : Int, w.cell? ⟨g, j, none⟩ = some (.int .u8 z) ∧ w.frozen? ⟨g, j, none⟩ = false := by
  obtain ⟨C, fr, h1, h2, h3⟩ := h
  obtain ⟨z, e⟩ := h3 j hj
  refine ⟨z, ?_, ?_⟩
  · unfold World.cell?; rw [h1]; exact e
  · unfold World.frozen?; rw [h1]; simp; omega
theorem Bys.set {w : World} {g : Nat} (h : Bys w g) (k : Nat) (z : Int) : Bys (w.setCell ⟨g, k, none⟩ (.int .u8 z)) g := by
  obtain ⟨C, fr, h1, h2, h3⟩ := h
  refine ⟨C.setIfInBounds k (.int .u8 z), fr, by simp [World.setCell, Array.getElem?_modify, h1], h2, fun j hj => ?_⟩
  obtain ⟨x, e⟩ := h3 j hj
  by_cases hk : k = j
  · subst hk
    refine ⟨z, ?_⟩
    have hlt := (Array.getElem?_eq_some_iff.1 e).1
    rw [Array.getElem?_setIfInBounds]; simp [hlt]
  · exact ⟨x, by rw [Array.getElem?_setIfInBounds]; simp [hk, e]⟩
theorem Bys.lt {w : World} {g : Nat} (h : Bys w g) : g < w.heap.size := by
  obtain ⟨C, fr, h1, h2, h3⟩ := h
  exact (Array.getElem?_eq_some_iff.1 h1).1
theorem Bys.under {w w' : World} {g : Nat} (h : Bys w g) (hb : Below w.heap.size w w') : Bys w' g := by
  obtain ⟨C, fr, h1, h2, h3⟩ := h
  exact ⟨C, fr, (hb.block g (Bys.lt ⟨C, fr, h1, h2, h3⟩)).trans h1, h2, h3⟩
/-- What '[]byte(t)' lays. -/
theorem Bys.new (w : World) (l : List UInt8) (hl : l.length = 16) (cap : Nat) : Bys (w.alloc (.cells (bytesRow (S l) cap) 5 ((bytesRow (S l) cap).size, (bytesRow (S l) cap).size + 1))) w.heap.size := by
  have hs : (S l).size = 16 := by rw [S_size, hl]
  refine ⟨_, _, heap_alloc_new w _, ?_, fun j hj => ?_⟩
  · show 16 ≤ (bytesRow (S l) cap).size
    unfold bytesRow; simp only [Array.size_append, Array.size_map]; have : (S l).data.size = 16 := hs; omega
  · have hj' : j < (S l).data.size := by have : (S l).data.size = 16 := hs; omega
    exact ⟨_, bytesRow_at (S l) cap j hj'⟩
/-- 'string(b)' of them is some text of sixteen bytes. -/
theorem Bys.text {w : World} {g : Nat} (h : Bys w g) (cap : Nat) : ∃ s : ByteArray, s.size = 16 ∧
    (convert 48 9 (.slice (some ⟨g, 0, none⟩) 16 cap)).run Tryd.prog w = .ok (.string s) w := by
  have hx : ∃ xs : List Int, xs.length = 16 ∧ ∀ i, i < 16 → w.cell? ⟨g, 0 + i, none⟩ = some (.int .u8 (xs.getD i 0)) := by
    refine ⟨(List.range 16).map fun j => match w.cell? ⟨g, j, none⟩ with | some (.int .u8 z) => z | _ => 0, by simp, fun i hi => ?_⟩
    obtain ⟨z, e, -⟩ := h.at i hi
    rw [Nat.zero_add, e, List.getD_eq_getElem?_getD, List.getElem?_map, List.getElem?_range hi]
    simp [e]
  obtain ⟨xs, hl, hc⟩ := hx
  exact ⟨strOfNums xs, by rw [strOfNums_size, hl], run_convert_bytes_arg (P := Tryd.prog) w 48 5 Tryd.underlying48 Tryd.underlying5 g 0 16 cap xs hl hc 9 Tryd.underlying9⟩
end Go.Proofs.YtaohndjlaamdaaaDoor
