/- The contract of the reference's Gross. -/
import Derived.Test.YtngbjccfmglbaaaDoorLmG
import Derived.Test.YtngbjccfmglbaaaDoorLmH
import Derived.Test.YtngbjccfmglbaaaDoorLmI
namespace Go.Proofs.YtngbjccfmglbaaaDoor
open Go.RowKit

set_option maxHeartbeats 1000000 in
theorem refGross_any (c v : Int) (w : World) :
    Calls Tryd.prog 10 #[rdV c v] w fun e w' => e = .returned (.bool (Lm.gr c v)) ∧ Below w.heap.size w w' := by
  by_cases h : Elt.Ex c
  · have hd : ∀ a b : Int, Lm.gl c = a → Lm.gm c = b → decide (a ≤ v ∧ v ≤ b) = Lm.gr c v := fun a b h1 h2 => by
      subst h1; subst h2
      unfold Lm.gr
      exact decide_eq_decide.2 ⟨fun q => ⟨h, q⟩, fun q => q.2⟩
    rcases eleven h with rfl | rfl | rfl | rfl | rfl | rfl | rfl | rfl | rfl | rfl | rfl
    · have hx := refGross1 v w
      rw [hd _ _ (by decide +kernel) (by decide +kernel)] at hx
      exact hx
    · have hx := refGross2 v w
      rw [hd _ _ (by decide +kernel) (by decide +kernel)] at hx
      exact hx
    · have hx := refGross3 v w
      rw [hd _ _ (by decide +kernel) (by decide +kernel)] at hx
      exact hx
    · have hx := refGross4 v w
      rw [hd _ _ (by decide +kernel) (by decide +kernel)] at hx
      exact hx
    · have hx := refGross5 v w
      rw [hd _ _ (by decide +kernel) (by decide +kernel)] at hx
      exact hx
    · have hx := refGross6 v w
      rw [hd _ _ (by decide +kernel) (by decide +kernel)] at hx
      exact hx
    · have hx := refGross7 v w
      rw [hd _ _ (by decide +kernel) (by decide +kernel)] at hx
      exact hx
    · have hx := refGross8 v w
      rw [hd _ _ (by decide +kernel) (by decide +kernel)] at hx
      exact hx
    · have hx := refGross9 v w
      rw [hd _ _ (by decide +kernel) (by decide +kernel)] at hx
      exact hx
    · have hx := refGross10 v w
      rw [hd _ _ (by decide +kernel) (by decide +kernel)] at hx
      exact hx
    · have hx := refGross11 v w
      rw [hd _ _ (by decide +kernel) (by decide +kernel)] at hx
      exact hx
  · have HD : Hid (Lm.gr c v = false) := Lib.hid (Lm.gr_no fun q => h q.1)
    have b0 : Below w.heap.size w (w.alloc (.cells #[.int .i64 c, .int .i64 v] 30)) := (Below.refl _ _).alloc (Nat.le_refl _) _
    by_cases h1 : c < 1
    · clear h
      go_enter Tryd.func10, Tryd.ntmps10
      go_wp2_with fail
      go_ret
      exact ⟨ret_bool HD.out.symm, b0⟩
    · have h2 : 11 < c := by unfold Elt.Ex at h; omega
      clear h
      go_enter Tryd.func10, Tryd.ntmps10
      go_wp2_with fail
      go_ret
      exact ⟨ret_bool HD.out.symm, b0⟩
end Go.Proofs.YtngbjccfmglbaaaDoor

