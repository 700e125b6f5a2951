/- Contracts of check and ByLetter of the program. -/
import Derived.Test.YtngbjccfmglbaaaDoorDesc
namespace Go.Proofs.YtngbjccfmglbaaaDoor
open Go.RowKit

/-- A reading as a value. -/
abbrev rdV (c v : Int) : Value := .agg #[.int .i64 c, .int .i64 v]
end Go.Proofs.YtngbjccfmglbaaaDoor


