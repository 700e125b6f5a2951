/- What Learn answers, by cases. -/
import Derived.Test.YtcheadbhkbbegaaDoorQao
namespace Go.Proofs.YtcheadbhkbbegaaDoor
open Go.RowKit

theorem lrn_ok {R : List Rp} (h1 : errC R = 0) (h2 : ¬ 200 < (outC R 2640).length) : lrn R = (outC R 2640, 0) := by
  unfold lrn
  generalize outC R 2640 = X at *
  rw [if_pos h1, if_neg h2]
theorem lrn_big {R : List Rp} (h1 : errC R = 0) (h2 : 200 < (outC R 2640).length) : lrn R = ([], 2) := by
  unfold lrn
  generalize outC R 2640 = X at *
  rw [if_pos h1, if_pos h2]
theorem lrn_err {R : List Rp} (h1 : errC R ≠ 0) : lrn R = ([], errC R) := by
  unfold lrn
  generalize outC R 2640 = X at *
  rw [if_neg h1]
end Go.Proofs.YtcheadbhkbbegaaDoor
