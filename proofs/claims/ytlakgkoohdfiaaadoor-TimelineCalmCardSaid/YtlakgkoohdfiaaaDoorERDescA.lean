/- Contracts of the reference's Describe at single codes. -/
import Derived.Test.YtlakgkoohdfiaaaDoorQah
namespace Go.Proofs.YtlakgkoohdfiaaaDoor.El
open Go.RowKit

theorem refInfo1 : Ending.returned (.tuple #[.agg #[.string ⟨#[80]⟩, .int .i64 8000, .int .i64 11000, .int .i64 5], .int .i64 0]) = .returned (.tuple #[infoV 1, .int .i64 0]) := by kernel_rfl
set_option maxHeartbeats 1000000 in
theorem refDescribe1 (w : World) :
    Calls Tryd.prog 59 #[.int .i64 1] w fun e w' => e = .returned (.tuple #[infoV 1, .int .i64 0]) ∧ Below w.heap.size w w' := by
  rw [← refInfo1]
  go_enter Tryd.func59, Tryd.ntmps59
  go_wp2_with fail
  exact bodyPost_ret (v := .tuple #[.agg #[.string ⟨#[80]⟩, .int .i64 8000, .int .i64 11000, .int .i64 5], .int .i64 0]) (by simp [results, Tryd.results59, go_sem]) rfl ⟨rfl, ((Below.refl _ _).alloc (Nat.le_refl _) _).alloc (by simp) _⟩
theorem refInfo2 : Ending.returned (.tuple #[.agg #[.string ⟨#[84]⟩, .int .i64 1800, .int .i64 3300, .int .i64 4], .int .i64 0]) = .returned (.tuple #[infoV 2, .int .i64 0]) := by kernel_rfl
set_option maxHeartbeats 1000000 in
theorem refDescribe2 (w : World) :
    Calls Tryd.prog 59 #[.int .i64 2] w fun e w' => e = .returned (.tuple #[infoV 2, .int .i64 0]) ∧ Below w.heap.size w w' := by
  rw [← refInfo2]
  go_enter Tryd.func59, Tryd.ntmps59
  go_wp2_with fail
  exact bodyPost_ret (v := .tuple #[.agg #[.string ⟨#[84]⟩, .int .i64 1800, .int .i64 3300, .int .i64 4], .int .i64 0]) (by simp [results, Tryd.results59, go_sem]) rfl ⟨rfl, ((Below.refl _ _).alloc (Nat.le_refl _) _).alloc (by simp) _⟩
theorem refInfo3 : Ending.returned (.tuple #[.agg #[.string ⟨#[68]⟩, .int .i64 1800, .int .i64 3300, .int .i64 4], .int .i64 0]) = .returned (.tuple #[infoV 3, .int .i64 0]) := by kernel_rfl
set_option maxHeartbeats 1000000 in
theorem refDescribe3 (w : World) :
    Calls Tryd.prog 59 #[.int .i64 3] w fun e w' => e = .returned (.tuple #[infoV 3, .int .i64 0]) ∧ Below w.heap.size w w' := by
  rw [← refInfo3]
  go_enter Tryd.func59, Tryd.ntmps59
  go_wp2_with fail
  exact bodyPost_ret (v := .tuple #[.agg #[.string ⟨#[68]⟩, .int .i64 1800, .int .i64 3300, .int .i64 4], .int .i64 0]) (by simp [results, Tryd.results59, go_sem]) rfl ⟨rfl, ((Below.refl _ _).alloc (Nat.le_refl _) _).alloc (by simp) _⟩
end Go.Proofs.YtlakgkoohdfiaaaDoor.El

