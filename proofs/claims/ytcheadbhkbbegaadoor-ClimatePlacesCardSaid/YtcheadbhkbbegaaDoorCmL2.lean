/- ClimatePlaces, whole. -/
import Derived.Test.YtcheadbhkbbegaaDoorCmR
import Derived.Test.YtcheadbhkbbegaaDoorCmK
namespace Go.Proofs.YtcheadbhkbbegaaDoor
open Go.RowKit

theorem climatePlaces_any (l : Value) (w : World) (hE : Env w) (hI : ListIn w l) : Calls Tryd.prog 5 #[l] w fun e w' => e = .returned (.bool true) ∧ Below w.heap.size w w' :=
  climatePlaces_of l w hE hI (fun w' h => awake13 w' h)
end Go.Proofs.YtcheadbhkbbegaaDoor
