/- Contracts of the reference's Describe at single codes. -/
import Derived.Test.YtlakgkoohdfiaaaDoorQah
namespace Go.Proofs.YtlakgkoohdfiaaaDoor.El
open Go.RowKit

theorem refInfo7 : Ending.returned (.tuple #[.agg #[.string ⟨#[66]⟩, .int .i64 2000, .int .i64 3200, .int .i64 4], .int .i64 0]) = .returned (.tuple #[infoV 7, .int .i64 0]) := by kernel_rfl
set_option maxHeartbeats 1000000 in
theorem refDescribe7 (w : World) :
    Calls Tryd.prog 59 #[.int .i64 7] w fun e w' => e = .returned (.tuple #[infoV 7, .int .i64 0]) ∧ Below w.heap.size w w' := by
  rw [← refInfo7]
  go_enter Tryd.func59, Tryd.ntmps59
  go_wp2_with fail
  exact bodyPost_ret (v := .tuple #[.agg #[.string ⟨#[66]⟩, .int .i64 2000, .int .i64 3200, .int .i64 4], .int .i64 0]) (by simp [results, Tryd.results59, go_sem]) rfl ⟨rfl, ((Below.refl _ _).alloc (Nat.le_refl _) _).alloc (by simp) _⟩
theorem refInfo8 : Ending.returned (.tuple #[.agg #[.string ⟨#[70]⟩, .int .i64 2400, .int .i64 3400, .int .i64 4], .int .i64 0]) = .returned (.tuple #[infoV 8, .int .i64 0]) := by kernel_rfl
set_option maxHeartbeats 1000000 in
theorem refDescribe8 (w : World) :
    Calls Tryd.prog 59 #[.int .i64 8] w fun e w' => e = .returned (.tuple #[infoV 8, .int .i64 0]) ∧ Below w.heap.size w w' := by
  rw [← refInfo8]
  go_enter Tryd.func59, Tryd.ntmps59
  go_wp2_with fail
  exact bodyPost_ret (v := .tuple #[.agg #[.string ⟨#[70]⟩, .int .i64 2400, .int .i64 3400, .int .i64 4], .int .i64 0]) (by simp [results, Tryd.results59, go_sem]) rfl ⟨rfl, ((Below.refl _ _).alloc (Nat.le_refl _) _).alloc (by simp) _⟩
theorem refInfo9 : Ending.returned (.tuple #[.agg #[.string ⟨#[71]⟩, .int .i64 2000, .int .i64 3000, .int .i64 4], .int .i64 0]) = .returned (.tuple #[infoV 9, .int .i64 0]) := by kernel_rfl
set_option maxHeartbeats 1000000 in
theorem refDescribe9 (w : World) :
    Calls Tryd.prog 59 #[.int .i64 9] w fun e w' => e = .returned (.tuple #[infoV 9, .int .i64 0]) ∧ Below w.heap.size w w' := by
  rw [← refInfo9]
  go_enter Tryd.func59, Tryd.ntmps59
  go_wp2_with fail
  exact bodyPost_ret (v := .tuple #[.agg #[.string ⟨#[71]⟩, .int .i64 2000, .int .i64 3000, .int .i64 4], .int .i64 0]) (by simp [results, Tryd.results59, go_sem]) rfl ⟨rfl, ((Below.refl _ _).alloc (Nat.le_refl _) _).alloc (by simp) _⟩
end Go.Proofs.YtlakgkoohdfiaaaDoor.El

