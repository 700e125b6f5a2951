/- The chapter's examples hold: the contract of the sanity check that every statement of the layer calls. -/
import Derived.Test.YtaohndjlaamdaaaDoorParse
import Derived.Test.YtaohndjlaamdaaaDoorResolve
namespace Go.Proofs.YtaohndjlaamdaaaDoor
open Go.RowKit

def day20 : ByteArray := ⟨#[50, 48, 48, 48, 45, 48, 50, 45, 50, 48, 32, 48, 48, 58, 48, 48]⟩
def day29 : ByteArray := ⟨#[50, 48, 48, 48, 45, 48, 50, 45, 50, 57, 32, 48, 48, 58, 48, 48]⟩
def day31 : ByteArray := ⟨#[50, 48, 48, 48, 45, 48, 49, 45, 51, 49, 32, 49, 50, 58, 48, 48]⟩
theorem day29_eq : S (txt 2000 2 29 0 0) = day29 := by decide +kernel
theorem day31_eq : S (txt 2000 1 31 12 0) = day31 := by decide +kernel
theorem day20_eq : S (txt 2000 2 20 0 0) = day20 := by decide +kernel
theorem day20_fld : fld day20 0 4 = 2000 ∧ fld day20 5 7 = 2 ∧ fld day20 8 10 = 20 ∧ fld day20 11 13 = 0 ∧ fld day20 14 16 = 0 := by decide +kernel
theorem parse20 (w : World) (hE : Env w) :
    Calls Tryd.prog 23 #[.string ⟨#[50, 48, 48, 48, 45, 48, 50, 45, 50, 48, 32, 48, 48, 58, 48, 48]⟩] w fun e w' => e = .returned (.tuple #[.int .i64 72000, .int .i64 0]) ∧ Below w.heap.size w w' := by
  obtain ⟨e1, e2, e3, e4, e5⟩ := day20_fld
  have h := parse_yes day20 w hE (by decide) (by rw [e1, e2, e3, e4, e5]; decide) (by rw [e1, e2, e3, e4, e5]; exact day20_eq)
  rw [e1, e2, e3, e4, e5, show Cal.num 2000 2 20 0 0 = 72000 by decide] at h
  exact h
theorem nearest31 : Nearest 31 12 0 72000 43920 := by
  have h0 : okM 31 12 0 24000 = true := by decide
  have v0 : valM 31 12 0 24000 = 43920 := by decide
  refine ⟨⟨24000, h0, v0.symm⟩, fun M hM => ?_⟩
  have h2 : okM 31 12 0 24002 = true := by decide
  have v2 : valM 31 12 0 24002 = 130320 := by decide
  have hr := (okM_iff.1 hM).1
  by_cases c : M = 24000
  · rw [c, v0]; exact .inr ⟨rfl, Int.le_refl _⟩
  · left
    have c1 : M ≠ 24001 := fun e => by rw [e] at hM; exact absurd hM (by decide)
    have : 130320 ≤ valM 31 12 0 M := by
      by_cases c2 : M = 24002
      · rw [c2, v2]; exact Int.le_refl _
      · have := valM_lt h2 hM (by omega)
        omega
    unfold dist; omega
theorem resolve31 (w : World) (hE : Env w) :
    Calls Tryd.prog 27 #[.int .i64 31, .int .i64 12, .int .i64 0, .int .i64 72000] w fun e w' => e = .returned (.tuple #[.int .i64 43920, .int .i64 0]) ∧ Below w.heap.size w w' :=
  (resolve_yes 31 12 0 72000 w hE.1 (by decide) (by decide) (by decide) (by decide)).mono fun _ _ ⟨a, ha, he, hb⟩ => ⟨by rw [he, ha.unique nearest31], hb⟩
theorem format29 (w : World) (hE : Env w) :
    Calls Tryd.prog 22 #[.int .i64 84960] w fun e w' => e = .returned (.tuple #[.string day29, .int .i64 0]) ∧ Below w.heap.size w w' := by
  have h := format_yes 84960 2000 2 29 0 0 w hE (by decide) (by decide)
  rw [day29_eq] at h
  exact h
theorem format31 (w : World) (hE : Env w) :
    Calls Tryd.prog 22 #[.int .i64 43920] w fun e w' => e = .returned (.tuple #[.string day31, .int .i64 0]) ∧ Below w.heap.size w w' := by
  have h := format_yes 43920 2000 1 31 12 0 w hE (by decide) (by decide)
  rw [day31_eq] at h
  exact h
theorem day29_same : (day29.toList == [50, 48, 48, 48, 45, 48, 50, 45, 50, 57, 32, 48, 48, 58, 48, 48]) = true := by rw [ByteArray.toList_eq]; rfl
theorem day31_same : (day31.toList == [50, 48, 48, 48, 45, 48, 49, 45, 51, 49, 32, 49, 50, 58, 48, 48]) = true := by rw [ByteArray.toList_eq]; rfl

set_option maxHeartbeats 400000 in
theorem awake_any (w : World) (hE : Env w) :
    Calls Tryd.prog 21 #[] w fun e w' => e = .returned (.bool true) ∧ Below w.heap.size w w' := by
  have q1 := day29_same
  have q2 := day31_same
  go_enter Tryd.func21, Tryd.ntmps21
  go_wp2_with fail
  refine (format29 _ hE).mono ?_
  rintro e w1 ⟨rfl, hb1⟩
  have hE1 := hE.under hb1
  go_wp2_with fail
  refine (parse20 _ hE1).mono ?_
  rintro e w2 ⟨rfl, hb2⟩
  have hE2 := hE1.under hb2
  go_wp2_with fail
  refine (resolve31 _ hE2).mono ?_
  rintro e w3 ⟨rfl, hb3⟩
  have hE3 := hE2.under hb3
  go_wp2_with fail
  refine (format31 _ hE3).mono ?_
  rintro e w4 ⟨rfl, hb4⟩
  go_wp2_with fail
  go_ret
  have hb12 := hb1.trans (hb2.mono hb1.size)
  have hb13 := hb12.trans (hb3.mono hb12.size)
  exact ⟨rfl, hb13.trans (hb4.mono hb13.size)⟩
/-- The same, counted from an earlier world. -/
theorem awake_from {w0 : World} (X : World) (hE : Env w0) (hb : Below w0.heap.size w0 X) :
    Calls Tryd.prog 21 #[] X fun e w' => e = .returned (.bool true) ∧ Below w0.heap.size w0 w' :=
  (awake_any X (hE.under hb)).mono fun _ _ ⟨he, hg⟩ => ⟨he, hb.trans (hg.mono hb.size)⟩
end Go.Proofs.YtaohndjlaamdaaaDoor
