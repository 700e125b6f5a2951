/- TrackAnswers, for every list of reports. -/
import Derived.Test.YtejoabaanclcbaaGreatTkAn
import Derived.Test.YtejoabaanclcbaaGreatTkSb
import Derived.Test.YtejoabaanclcbaaGreatTkDo
namespace Go.Proofs.YtejoabaanclcbaaGreat.Tk
open Go.RowKit

theorem trackAnswers_all (u v : Value) (h : Int) (w : World) (hr : ∃ R, RqIn w u R) (hl : ListIn w v) :
    Calls Tryz.prog 3 #[u, v, .int .i64 h] w fun e w' => e = .returned (.bool true) ∧ Below w.heap.size w w' := by
  obtain ⟨R0, hr⟩ := hr
  exact trackAnswers_any (Lib.hid (fun v R x w a b => refSuspects_any v R x w a b)) u v h R0 w hr hl
end Go.Proofs.YtejoabaanclcbaaGreat.Tk

