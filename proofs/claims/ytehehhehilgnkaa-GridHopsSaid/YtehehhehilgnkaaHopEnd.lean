/- GridHops returns true. -/
import Derived.Test.YtehehhehilgnkaaHopLaw
import Derived.Test.YtehehhehilgnkaaRAr
namespace Go.Proofs.Ytehehhehilgnkaa
open Go.RowKit Go.Maps Go.Shelf

theorem gridHops_any (v : Value) (n x y : Int) (w : World) (hl : ListIn w v) :
    Calls Try.prog 6 #[v, .int .i64 n, .int .i64 x, .int .i64 y] w fun e w' => e = .returned (.bool true) ∧ Below w.heap.size w w' := gridHops_of around_any v n x y w hl
end Go.Proofs.Ytehehhehilgnkaa
