/- Contracts of the reference's Describe, in, ByLetter, Digits, Format. -/
import Derived.Test.YtngbjccfmglbaaaDoorRDescA
import Derived.Test.YtngbjccfmglbaaaDoorRDescB
import Derived.Test.YtngbjccfmglbaaaDoorRDescC
import Derived.Test.YtngbjccfmglbaaaDoorRDescD
namespace Go.Proofs.YtngbjccfmglbaaaDoor
open Go.RowKit

set_option maxHeartbeats 1000000 in
theorem refDescribe_no (c : Int) (w : World) (h : ¬ Elt.Ex c) :
    Calls Tryd.prog 15 #[.int .i64 c] w fun e w' => e = .returned (.tuple #[.agg #[.string ⟨#[]⟩, .int .i64 0, .int .i64 0, .int .i64 0], .int .i64 4]) ∧ Below w.heap.size w w' := by
  by_cases h1 : c < 1
  · clear h
    go_enter Tryd.func15, Tryd.ntmps15
    go_wp2
    exact bodyPost_ret (v := .tuple #[.agg #[.string ⟨#[]⟩, .int .i64 0, .int .i64 0, .int .i64 0], .int .i64 4]) (by simp [results, Tryd.results15, go_sem]) rfl ⟨rfl, (Below.refl _ _).alloc (Nat.le_refl _) _⟩
  · have h2 : 11 < c := by unfold Elt.Ex at h; omega
    clear h
    go_enter Tryd.func15, Tryd.ntmps15
    go_wp2
    exact bodyPost_ret (v := .tuple #[.agg #[.string ⟨#[]⟩, .int .i64 0, .int .i64 0, .int .i64 0], .int .i64 4]) (by simp [results, Tryd.results15, go_sem]) rfl ⟨rfl, (Below.refl _ _).alloc (Nat.le_refl _) _⟩
theorem refDescribe_yes (c : Int) (w : World) (h : Elt.Ex c) :
    Calls Tryd.prog 15 #[.int .i64 c] w fun e w' => e = .returned (.tuple #[infoV c, .int .i64 0]) ∧ Below w.heap.size w w' := by
  rcases eleven h with rfl | rfl | rfl | rfl | rfl | rfl | rfl | rfl | rfl | rfl | rfl
  · exact refDescribe1 w
  · exact refDescribe2 w
  · exact refDescribe3 w
  · exact refDescribe4 w
  · exact refDescribe5 w
  · exact refDescribe6 w
  · exact refDescribe7 w
  · exact refDescribe8 w
  · exact refDescribe9 w
  · exact refDescribe10 w
  · exact refDescribe11 w
end Go.Proofs.YtngbjccfmglbaaaDoor


