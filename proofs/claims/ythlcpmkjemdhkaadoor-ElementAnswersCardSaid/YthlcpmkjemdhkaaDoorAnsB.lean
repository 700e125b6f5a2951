/- Whatever the input, Describe and ByLetter of the program and of the reference answer the same; the reader's Text; what the walk of ElementAnswers keeps. -/
import Derived.Test.YthlcpmkjemdhkaaDoorRSame
import Derived.Test.YthlcpmkjemdhkaaDoorRFnd
import Derived.Test.YthlcpmkjemdhkaaDoorRWth
import Derived.Test.YthlcpmkjemdhkaaDoorRVal
import Derived.Test.YthlcpmkjemdhkaaDoorBent
namespace Go.Proofs.YthlcpmkjemdhkaaDoor
open Go.RowKit
theorem eq_info (s : ByteArray) (a b d : Int) (w : World) :
    (Op.equalIn 10000 30 (.agg #[.string s, .int .i64 a, .int .i64 b, .int .i64 d]) (.agg #[.string s, .int .i64 a, .int .i64 b, .int .i64 d])).run Tryd.prog w = .ok true w := by
  have u3 := Tryd.underlying3
  have a3 := Tryd.isAgg3
  have z3 := Tryd.sizeOf3
  have u9 := Tryd.underlying9
  have a9 := Tryd.isAgg9
  have z9 := Tryd.sizeOf9
  have hS : Tryd.prog.underlying 30 = some (.struct (Tryd.prog.fieldsOf 30)) := by kernel_rfl
  rw [show (10000 : Nat) = 9999 + 1 from rfl, run_equalIn_agg w 9999 30 _ _ hS (by kernel_rfl)]
  simp only [Program.fieldsOf, Tryd.underlying30]
  go_simp
theorem both_describe (c : Int) : ∃ (s : ByteArray) (a b d e : Int),
    (∀ w, Tab w → Calls Tryd.prog 12 #[.int .i64 c] w fun r w' => r = .returned (.tuple #[.agg #[.string s, .int .i64 a, .int .i64 b, .int .i64 d], .int .i64 e]) ∧ Below w.heap.size w w') ∧
    ∀ w, Calls Tryd.prog 13 #[.int .i64 c] w fun r w' => r = .returned (.tuple #[.agg #[.string s, .int .i64 a, .int .i64 b, .int .i64 d], .int .i64 e]) ∧ Below w.heap.size w w' := by
  by_cases h : Elt.Ex c
  · exact ⟨_, _, _, _, _, fun w hT => describe_yes c w h hT, fun w => refDescribe_yes c w h⟩
  · exact ⟨_, _, _, _, _, fun w _ => describe_no c w h, fun w => refDescribe_no c w h⟩
theorem both_byLetter (s : ByteArray) : ∃ a e : Int,
    (∀ w, Calls Tryd.prog 23 #[.string s] w fun r w' => r = .returned (.tuple #[.int .i64 a, .int .i64 e]) ∧ w = w') ∧
    ∀ w, Calls Tryd.prog 24 #[.string s] w fun r w' => r = .returned (.tuple #[.int .i64 a, .int .i64 e]) ∧ Below w.heap.size w w' := by
  by_cases h : ∃ c, Elt.Ex c ∧ s = S [Elt.lt c]
  · obtain ⟨c, h1, rfl⟩ := h
    exact ⟨_, _, fun w => byLetter_yes c w h1, fun w => refByLetter_yes c w h1⟩
  · have h' : ∀ c, Elt.Ex c → s ≠ S [Elt.lt c] := fun c h1 h2 => h ⟨c, h1, h2⟩
    exact ⟨_, _, fun w => byLetter_no s w h', fun w => refByLetter_no s w h'⟩
/-- What Text leaves. -/
def Txd (W : World) (b : Nat) (w : World) (e : Ending) (w' : World) : Prop := ∃ x : ByteArray, e = .returned (.string x) ∧ Src W b w' ∧ w.grownBy w' (some b)
set_option maxHeartbeats 400000 in
theorem text_any (W : World) (b : Nat) (w : World) (g n c : Nat) (h : Src W b w) (n1 : 1 ≤ n) (n2 : n ≤ 1000) (hgb : g ≠ b) (hgl : g < w.heap.size)
    (hp : ∀ i, i < n → ∃ x, w.cell? ⟨g, i, none⟩ = some (.string x)) :
    Calls Tryd.prog 22 #[.pointer (some ⟨b, 0, none⟩), .slice (some ⟨g, 0, none⟩) n c] w (Txd W b w) := by
  have HP := Lib.hid hp; clear hp
  go_enter Tryd.func22, Tryd.ntmps22
  go_wp2_with fail
  refine (n_any W b _ _ h (by omega) (by omega)).mono ?_
  rintro e w1 ⟨x, ⟨x1, x2⟩, rfl, hs, hg⟩
  obtain ⟨k, rfl⟩ := Int.eq_ofNat_of_zero_le x1
  obtain ⟨v, hv⟩ := HP.out k (by omega)
  have hc : w1.cell? ⟨g, k, none⟩ = some (.string v) := (World.cell?_of_block (hg.block g hgl (by simpa using hgb))).trans hv
  clear hv
  go_wp2_with fail
  go_ret
  exact ⟨v, rfl, hs, hg⟩
/-- What is known in the loops: the reader, the good list, the two codes. -/
structure Sa (W w0 : World) (b : Nat) (M : List Elt.R) (u : Value) (base : Nat) (va : Value) (A : List Int) (w : World) : Prop where
  gl : Gl W b w0 M u w
  arr : w.ownsRow base 3 1 va A.length (nmc A)
theorem Sa.step {W w0 w w' : World} {b base : Nat} {M : List Elt.R} {u va : Value} {A : List Int} (h : Sa W w0 b M u base va A w) (hs : Src W b w') (hg : w.grownBy w' (some b)) : Sa W w0 b M u base va A w' := by
  obtain ⟨cs, hr⟩ := src_row h.gl.src
  exact ⟨h.gl.step hs hg, h.arr.kept hg (.inr (fun e => own_ne h.arr hr (by decide) e.symm))⟩
theorem Sa.under {W w0 w w' : World} {b base : Nat} {M : List Elt.R} {u va : Value} {A : List Int} (h : Sa W w0 b M u base va A w) (hb : Below w.heap.size w w') : Sa W w0 b M u base va A w' := h.step (h.gl.src.under hb) (grown_below hb)
theorem NmIn.single {w : World} {g : Nat} {a : Int} (r : Row w g 3 #[.int .i64 a]) : NmIn w (.slice (some ⟨g, 0, none⟩) 1 1) [a] :=
  ⟨_, 1, rfl, Nat.le_refl _, by omega, fun i hi => ⟨g, 0, rfl, r.lt, by
    have hi' : i < 1 := hi
    obtain rfl : i = 0 := by omega
    exact (r.cell 0).trans rfl⟩⟩
end Go.Proofs.YthlcpmkjemdhkaaDoor
