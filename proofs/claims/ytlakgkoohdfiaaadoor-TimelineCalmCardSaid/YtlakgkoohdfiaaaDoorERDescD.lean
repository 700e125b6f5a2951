/- Contracts of the reference's Describe at single codes. -/
import Derived.Test.YtlakgkoohdfiaaaDoorQah
namespace Go.Proofs.YtlakgkoohdfiaaaDoor.El
open Go.RowKit

theorem refInfo10 : Ending.returned (.tuple #[.agg #[.string ⟨#[74]⟩, .int .i64 4400, .int .i64 6200, .int .i64 4], .int .i64 0]) = .returned (.tuple #[infoV 10, .int .i64 0]) := by kernel_rfl
set_option maxHeartbeats 1000000 in
theorem refDescribe10 (w : World) :
    Calls Tryd.prog 59 #[.int .i64 10] w fun e w' => e = .returned (.tuple #[infoV 10, .int .i64 0]) ∧ Below w.heap.size w w' := by
  rw [← refInfo10]
  go_enter Tryd.func59, Tryd.ntmps59
  go_wp2_with fail
  exact bodyPost_ret (v := .tuple #[.agg #[.string ⟨#[74]⟩, .int .i64 4400, .int .i64 6200, .int .i64 4], .int .i64 0]) (by simp [results, Tryd.results59, go_sem]) rfl ⟨rfl, ((Below.refl _ _).alloc (Nat.le_refl _) _).alloc (by simp) _⟩
theorem refInfo11 : Ending.returned (.tuple #[.agg #[.string ⟨#[75]⟩, .int .i64 2000, .int .i64 2900, .int .i64 4], .int .i64 0]) = .returned (.tuple #[infoV 11, .int .i64 0]) := by kernel_rfl
set_option maxHeartbeats 1000000 in
theorem refDescribe11 (w : World) :
    Calls Tryd.prog 59 #[.int .i64 11] w fun e w' => e = .returned (.tuple #[infoV 11, .int .i64 0]) ∧ Below w.heap.size w w' := by
  rw [← refInfo11]
  go_enter Tryd.func59, Tryd.ntmps59
  go_wp2_with fail
  exact bodyPost_ret (v := .tuple #[.agg #[.string ⟨#[75]⟩, .int .i64 2000, .int .i64 2900, .int .i64 4], .int .i64 0]) (by simp [results, Tryd.results59, go_sem]) rfl ⟨rfl, ((Below.refl _ _).alloc (Nat.le_refl _) _).alloc (by simp) _⟩
end Go.Proofs.YtlakgkoohdfiaaaDoor.El

