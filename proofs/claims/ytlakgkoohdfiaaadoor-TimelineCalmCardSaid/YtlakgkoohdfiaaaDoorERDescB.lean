/- Contracts of the reference's Describe at single codes. -/
import Derived.Test.YtlakgkoohdfiaaaDoorQah
namespace Go.Proofs.YtlakgkoohdfiaaaDoor.El
open Go.RowKit

theorem refInfo4 : Ending.returned (.tuple #[.agg #[.string ⟨#[69]⟩, .int .i64 (-1000), .int .i64 1000, .int .i64 4], .int .i64 0]) = .returned (.tuple #[infoV 4, .int .i64 0]) := by kernel_rfl
set_option maxHeartbeats 1000000 in
theorem refDescribe4 (w : World) :
    Calls Tryd.prog 59 #[.int .i64 4] w fun e w' => e = .returned (.tuple #[infoV 4, .int .i64 0]) ∧ Below w.heap.size w w' := by
  rw [← refInfo4]
  go_enter Tryd.func59, Tryd.ntmps59
  go_wp2_with fail
  exact bodyPost_ret (v := .tuple #[.agg #[.string ⟨#[69]⟩, .int .i64 (-1000), .int .i64 1000, .int .i64 4], .int .i64 0]) (by simp [results, Tryd.results59, go_sem]) rfl ⟨rfl, ((Below.refl _ _).alloc (Nat.le_refl _) _).alloc (by simp) _⟩
theorem refInfo5 : Ending.returned (.tuple #[.agg #[.string ⟨#[78]⟩, .int .i64 (-1000), .int .i64 1000, .int .i64 4], .int .i64 0]) = .returned (.tuple #[infoV 5, .int .i64 0]) := by kernel_rfl
set_option maxHeartbeats 1000000 in
theorem refDescribe5 (w : World) :
    Calls Tryd.prog 59 #[.int .i64 5] w fun e w' => e = .returned (.tuple #[infoV 5, .int .i64 0]) ∧ Below w.heap.size w w' := by
  rw [← refInfo5]
  go_enter Tryd.func59, Tryd.ntmps59
  go_wp2_with fail
  exact bodyPost_ret (v := .tuple #[.agg #[.string ⟨#[78]⟩, .int .i64 (-1000), .int .i64 1000, .int .i64 4], .int .i64 0]) (by simp [results, Tryd.results59, go_sem]) rfl ⟨rfl, ((Below.refl _ _).alloc (Nat.le_refl _) _).alloc (by simp) _⟩
theorem refInfo6 : Ending.returned (.tuple #[.agg #[.string ⟨#[65]⟩, .int .i64 900, .int .i64 1700, .int .i64 4], .int .i64 0]) = .returned (.tuple #[infoV 6, .int .i64 0]) := by kernel_rfl
set_option maxHeartbeats 1000000 in
theorem refDescribe6 (w : World) :
    Calls Tryd.prog 59 #[.int .i64 6] w fun e w' => e = .returned (.tuple #[infoV 6, .int .i64 0]) ∧ Below w.heap.size w w' := by
  rw [← refInfo6]
  go_enter Tryd.func59, Tryd.ntmps59
  go_wp2_with fail
  exact bodyPost_ret (v := .tuple #[.agg #[.string ⟨#[65]⟩, .int .i64 900, .int .i64 1700, .int .i64 4], .int .i64 0]) (by simp [results, Tryd.results59, go_sem]) rfl ⟨rfl, ((Below.refl _ _).alloc (Nat.le_refl _) _).alloc (by simp) _⟩
end Go.Proofs.YtlakgkoohdfiaaaDoor.El

