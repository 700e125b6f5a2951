/- The chapter's examples hold: the contract of the sanity check that every statement of the layer calls. -/
import Derived.Test.YteccblhmpggcgaaDoorText
namespace Go.Proofs.YteccblhmpggcgaaDoor
open Go.RowKit

theorem ex1 : Ico.Vld 1 0 840 0 := by unfold Ico.Vld; omega
theorem ex2 : Ico.Vld 5 420 420 0 := by unfold Ico.Vld; omega
def t54 : ByteArray := ⟨#[48, 53, 52, 50, 48, 52, 50, 48]⟩
theorem t54_eq : S (txt 5 420 420) = t54 := by decide +kernel
theorem t54_same : (t54.toList == [48, 53, 52, 50, 48, 52, 50, 48]) = true := by rw [ByteArray.toList_eq]; rfl
theorem normal_ex (w : World) :
    Calls Tryd.prog 13 #[.agg #[.int .i64 1, .int .i64 0, .int .i64 840, .int .i64 0]] w fun e w' => e = .returned (.tuple #[.agg #[.int .i64 0, .int .i64 0, .int .i64 0, .int .i64 840], .int .i64 0]) ∧ Below w.heap.size w w' := by
  have h := normal_yes 1 0 840 0 w ex1
  rw [show Ico.nf 1 0 840 0 = 0 by decide +kernel, show nw 1 0 840 0 0 = 0 by decide +kernel, show nw 1 0 840 0 1 = 0 by decide +kernel, show nw 1 0 840 0 2 = 840 by decide +kernel] at h
  exact h
theorem format_ex (w : World) (hE : Env w) :
    Calls Tryd.prog 17 #[.agg #[.int .i64 5, .int .i64 420, .int .i64 420, .int .i64 0]] w fun e w' => e = .returned (.tuple #[.string t54, .int .i64 0]) ∧ Below w.heap.size w w' := by
  have h := format_yes 5 420 420 0 w hE ex2
  rw [t54_eq] at h
  exact h
theorem fcs_ex : Ico.fcs 5 420 420 0 20 = [5, 14] := by decide +kernel
theorem addresses_ex (w : World) :
    Calls Tryd.prog 15 #[.agg #[.int .i64 5, .int .i64 420, .int .i64 420, .int .i64 0]] w fun e w' => ∃ g cap, e = .returned (.tuple #[.slice (some ⟨g, 0, none⟩) 2 cap, .int .i64 0]) ∧ Below w.heap.size w w' ∧
      w.heap.size ≤ g ∧ g < w'.heap.size ∧ 2 ≤ cap ∧ cap ≤ 9223372036854775807 ∧ w'.cell? ⟨g, 4, none⟩ = some (.int .i64 14) ∧ w'.cell? ⟨g, 5, none⟩ = some (.int .i64 0) ∧ w'.cell? ⟨g, 6, none⟩ = some (.int .i64 420) ∧ w'.cell? ⟨g, 7, none⟩ = some (.int .i64 420) :=
  (addresses_open 5 420 420 0 w ex2).mono fun e w' ⟨g, cap, he, hb, h1, h2, h3, h4, hH⟩ => by
    have hl : (Ico.fcs 5 420 420 0 20).length = 2 := by rw [fcs_ex]; rfl
    have hx := hH 1 (by rw [hl]; omega)
    have e1 : (Ico.fcs 5 420 420 0 20)[1]'(by rw [hl]; omega) = 14 := by simp [fcs_ex]
    rw [e1] at hx
    rw [hl] at he h3
    rw [show Ico.wt 5 420 420 0 (Ico.cor 14 0) = 0 by decide +kernel, show Ico.wt 5 420 420 0 (Ico.cor 14 1) = 420 by decide +kernel, show Ico.wt 5 420 420 0 (Ico.cor 14 2) = 420 by decide +kernel] at hx
    exact ⟨g, cap, he, hb, h1, h2, h3, h4, hx⟩
attribute [local go_sem] eq_place
set_option maxHeartbeats 1000000 in
theorem awake_any (w : World) (hE : Env w) :
    Calls Tryd.prog 28 #[] w fun e w' => e = .returned (.bool true) ∧ Below w.heap.size w w' := by
  have q1 := t54_same
  go_enter Tryd.func28, Tryd.ntmps28
  go_wp2_with fail
  refine (normal_ex _).mono ?_
  rintro e w1 ⟨rfl, hb1⟩
  go_wp2_with fail
  have hE1 := (hE.under hb1).alloc (.cells #[.int .i64 0, .int .i64 0, .int .i64 0, .int .i64 840] 23)
  refine (format_ex _ hE1).mono ?_
  rintro e w2 ⟨rfl, hb2⟩
  have r2 := (Row.new w1 #[.int .i64 0, .int .i64 0, .int .i64 0, .int .i64 840] 23).under hb2
  have b2 := (hb1.alloc hb1.size _).trans (hb2.mono (by have := hb1.size; simp; omega))
  clear hb2
  generalize w1.heap.size = g1 at *
  go_wp2_with fail
  refine (addresses_ex _).mono ?_
  rintro e w3 ⟨g, cap, rfl, hb3, -, -, c1, c2, k4, k5, k6, k7⟩
  obtain ⟨r0, r1, r2, r3⟩ := row4 (r2.under hb3)
  have b3 := b2.trans (hb3.mono b2.size)
  clear hb3 b2
  go_wp2_with fail
  go_ret
  exact ⟨rfl, b3⟩
/-- The same, counted from an earlier world. -/
theorem awake_from {w0 : World} (X : World) (hE : Env w0) (hb : Below w0.heap.size w0 X) :
    Calls Tryd.prog 28 #[] X fun e w' => e = .returned (.bool true) ∧ Below w0.heap.size w0 w' :=
  (awake_any X (hE.under hb)).mono fun _ _ ⟨he, hg⟩ => ⟨he, hb.trans (hg.mono hb.size)⟩
end Go.Proofs.YteccblhmpggcgaaDoor
