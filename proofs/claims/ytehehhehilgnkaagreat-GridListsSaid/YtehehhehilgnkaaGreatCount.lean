/- Contracts of Count, isFrequency; the beginning of newLattice. -/
import Derived.Test.YtehehhehilgnkaaGreatBord
namespace Go.Proofs.YtehehhehilgnkaaGreat
open Go.RowKit Go.Maps

theorem isFrequency_any (n : Int) (w : World) :
    Calls Tryz.prog 16 #[.int .i64 n] w fun e w' => e = .returned (.bool (decide (1 ≤ n ∧ n ≤ 8))) ∧ w = w' := by
  by_cases h1 : 1 ≤ n
  · by_cases h2 : n ≤ 8
    · have hd : decide (1 ≤ n ∧ n ≤ 8) = true := decide_eq_true ⟨h1, h2⟩
      rw [hd]; clear hd
      go_enter Tryz.func16, Tryz.ntmps16
      go_wp2
      go_ret
      exact ⟨rfl, rfl⟩
    · have hd : decide (1 ≤ n ∧ n ≤ 8) = false := decide_eq_false (fun h => h2 h.2)
      rw [hd]; clear hd
      go_enter Tryz.func16, Tryz.ntmps16
      go_wp2
      go_ret
      exact ⟨rfl, rfl⟩
  · have hd : decide (1 ≤ n ∧ n ≤ 8) = false := decide_eq_false (fun h => h1 h.1)
    rw [hd]; clear hd
    go_enter Tryz.func16, Tryz.ntmps16
    go_wp2
    go_ret
    exact ⟨rfl, rfl⟩
theorem isFrequency_yes (n : Nat) (w : World) (h : Lat.frq n) :
    Calls Tryz.prog 16 #[.int .i64 n] w fun e w' => e = .returned (.bool true) ∧ w = w' := by
  have := isFrequency_any n w
  rwa [decide_eq_true (by unfold Lat.frq at h; omega)] at this
theorem isFrequency_no (n : Int) (w : World) (h : ¬ (1 ≤ n ∧ n ≤ 8)) :
    Calls Tryz.prog 16 #[.int .i64 n] w fun e w' => e = .returned (.bool false) ∧ w = w' := by
  have := isFrequency_any n w
  rwa [decide_eq_false h] at this
/-- How many nodes. -/
def cn (n : Nat) : Nat := 10 * n * n + 2
theorem cn_le {n : Nat} (h : Lat.frq n) : cn n ≤ 642 := by
  rcases Lat.eight h with rfl | rfl | rfl | rfl | rfl | rfl | rfl | rfl <;> decide
theorem count_no (n : Int) (w : World) (h : ¬ (1 ≤ n ∧ n ≤ 8)) :
    Calls Tryz.prog 33 #[.int .i64 n] w fun e w' => e = .returned (.int .i64 0) ∧ w = w' := by
  go_enter Tryz.func33, Tryz.ntmps33
  go_wp2_with (go_at_call 16; refine (isFrequency_no _ _ h).mono ?_; rintro e w' ⟨rfl, rfl⟩)
  go_ret
  exact ⟨rfl, rfl⟩
theorem count_yes (n : Nat) (w : World) (h : Lat.frq n) :
    Calls Tryz.prog 33 #[.int .i64 n] w fun e w' => e = .returned (.int .i64 (cn n)) ∧ w = w' := by
  rcases Lat.eight h with rfl | rfl | rfl | rfl | rfl | rfl | rfl | rfl <;>
  (go_enter Tryz.func33, Tryz.ntmps33
   go_wp2_with (go_at_call 16; refine (isFrequency_yes _ _ h).mono ?_; rintro e w' ⟨rfl, rfl⟩)
   go_ret
   exact ⟨rfl, rfl⟩)
end Go.Proofs.YtehehhehilgnkaaGreat

