/-
  No cell of these rows narrows 'for every input' (looked for: loops, veiled, ifaces, maps, wideKeys, modest, calm, conditions, laid).
  DERIVED. THE GIVEN ROWS OF THIS SEAT. 6 by the template 'for every input the law returns true; each argument reads behind the call as it read before'; 0 by the template 'total and deterministic' (their statements: YtehehhehilgnkaaTotals.lean).
  GIVEN WITH THE SEED: the statements are not yours to turn. If you find one false, say at which input.
  Laid BY PROGRAM, IN A SANDBOX (cutbox-rows.mjs): the forced cells as the released guide's own fill.sh prints them over the translation e03984b24e10aeeb… (all of the seat's roots in one cut). By AI agents, Wed Nov 11 2026. No macro, syntax, notation, axiom, sorry.
-/
import Derived.Test.YtehehhehilgnkaaChecked
import GoSem.Claim
import GoSem.ClaimJoined
import GoSem.ClaimMapViews
import Derived.JoinedTies
import Derived.KernelRfl
namespace Go.Proofs.Ytehehhehilgnkaa
/- THE CELL 'sum', in the pinned program and in every row, IS THE sha256 OF THE DUMP (.gsa) THAT YtehehhehilgnkaaProg.lean LOADS. Nothing in Lean hashes anything: it is a label: what it is worth is what the hold of that sum in a sandbox is worth. -/
noncomputable def Try.pinned : Pinned := { name := "ytehehhehilgnkaa", sum := "e03984b24e10aeebd389ce1c6c2e28ddf4561996036bdf535ac2e2fef4b2b2bc", checked := Try.checked }
namespace Rows
def none {H : Type} : Left H := { results := [], args := [] }

/-- 'synopticlaw03.GridAnswers': WHATEVER THE INPUT: true; the input reads as it did. -/
def gridAnswersSpec : ChangeSpec := { name := "gridAnswers", fn := fun _ => fun
  | [d1, d2, d3] => { results := [.lit (.bool true)], args := [d1, d2, d3] }
  | _ => none }
def gridAnswersRow : OpenClaim := { program := "ytehehhehilgnkaa", sum := "e03984b24e10aeebd389ce1c6c2e28ddf4561996036bdf535ac2e2fef4b2b2bc", func := "synoptic/synopticlaw03.GridAnswers", spec := "gridAnswers", unfollowed := true, recurses := true, plainKeys := false, apart := false }
def GridAnswersSaid : Prop := gridAnswersRow.holds Try.pinned (OpenSpec.ofChange gridAnswersSpec)

/-- ITS FALSE NEIGHBOUR: 'it returns false'. Refute it at one input. -/
def gridAnswersWrong : ChangeSpec := { name := "gridAnswers", fn := fun _ => fun
  | [d1, d2, d3] => { results := [.lit (.bool false)], args := [d1, d2, d3] }
  | _ => none }
def GridAnswersWrongFalsely : Prop := gridAnswersRow.holds Try.pinned (OpenSpec.ofChange gridAnswersWrong)

/-- 'synopticlaw03.GridSurface': WHATEVER THE INPUT: true; the input reads as it did. -/
def gridSurfaceSpec : ChangeSpec := { name := "gridSurface", fn := fun _ => fun
  | [d] => { results := [.lit (.bool true)], args := [d] }
  | _ => none }
def gridSurfaceRow : OpenClaim := { program := "ytehehhehilgnkaa", sum := "e03984b24e10aeebd389ce1c6c2e28ddf4561996036bdf535ac2e2fef4b2b2bc", func := "synoptic/synopticlaw03.GridSurface", spec := "gridSurface", unfollowed := true, recurses := true, plainKeys := false, apart := false }
def GridSurfaceSaid : Prop := gridSurfaceRow.holds Try.pinned (OpenSpec.ofChange gridSurfaceSpec)

/-- ITS FALSE NEIGHBOUR: 'it returns false'. Refute it at one input. -/
def gridSurfaceWrong : ChangeSpec := { name := "gridSurface", fn := fun _ => fun
  | [d] => { results := [.lit (.bool false)], args := [d] }
  | _ => none }
def GridSurfaceWrongFalsely : Prop := gridSurfaceRow.holds Try.pinned (OpenSpec.ofChange gridSurfaceWrong)

/-- 'synopticlaw03.GridLocates': WHATEVER THE INPUT: true; the input reads as it did. -/
def gridLocatesSpec : ChangeSpec := { name := "gridLocates", fn := fun _ => fun
  | [d] => { results := [.lit (.bool true)], args := [d] }
  | _ => none }
def gridLocatesRow : OpenClaim := { program := "ytehehhehilgnkaa", sum := "e03984b24e10aeebd389ce1c6c2e28ddf4561996036bdf535ac2e2fef4b2b2bc", func := "synoptic/synopticlaw03.GridLocates", spec := "gridLocates", unfollowed := true, recurses := true, plainKeys := false, apart := false }
def GridLocatesSaid : Prop := gridLocatesRow.holds Try.pinned (OpenSpec.ofChange gridLocatesSpec)

/-- ITS FALSE NEIGHBOUR: 'it returns false'. Refute it at one input. -/
def gridLocatesWrong : ChangeSpec := { name := "gridLocates", fn := fun _ => fun
  | [d] => { results := [.lit (.bool false)], args := [d] }
  | _ => none }
def GridLocatesWrongFalsely : Prop := gridLocatesRow.holds Try.pinned (OpenSpec.ofChange gridLocatesWrong)

/-- 'synopticlaw03.GridHops': WHATEVER THE INPUT: true; the input reads as it did. -/
def gridHopsSpec : ChangeSpec := { name := "gridHops", fn := fun _ => fun
  | [d1, d2, d3, d4] => { results := [.lit (.bool true)], args := [d1, d2, d3, d4] }
  | _ => none }
def gridHopsRow : OpenClaim := { program := "ytehehhehilgnkaa", sum := "e03984b24e10aeebd389ce1c6c2e28ddf4561996036bdf535ac2e2fef4b2b2bc", func := "synoptic/synopticlaw03.GridHops", spec := "gridHops", unfollowed := true, recurses := true, plainKeys := false, apart := false }
def GridHopsSaid : Prop := gridHopsRow.holds Try.pinned (OpenSpec.ofChange gridHopsSpec)

/-- ITS FALSE NEIGHBOUR: 'it returns false'. Refute it at one input. -/
def gridHopsWrong : ChangeSpec := { name := "gridHops", fn := fun _ => fun
  | [d1, d2, d3, d4] => { results := [.lit (.bool false)], args := [d1, d2, d3, d4] }
  | _ => none }
def GridHopsWrongFalsely : Prop := gridHopsRow.holds Try.pinned (OpenSpec.ofChange gridHopsWrong)

/-- 'synopticlaw03.GridNested': WHATEVER THE INPUT: true; the input reads as it did. -/
def gridNestedSpec : ChangeSpec := { name := "gridNested", fn := fun _ => fun
  | [d] => { results := [.lit (.bool true)], args := [d] }
  | _ => none }
def gridNestedRow : OpenClaim := { program := "ytehehhehilgnkaa", sum := "e03984b24e10aeebd389ce1c6c2e28ddf4561996036bdf535ac2e2fef4b2b2bc", func := "synoptic/synopticlaw03.GridNested", spec := "gridNested", unfollowed := true, recurses := true, plainKeys := false, apart := false }
def GridNestedSaid : Prop := gridNestedRow.holds Try.pinned (OpenSpec.ofChange gridNestedSpec)

/-- ITS FALSE NEIGHBOUR: 'it returns false'. Refute it at one input. -/
def gridNestedWrong : ChangeSpec := { name := "gridNested", fn := fun _ => fun
  | [d] => { results := [.lit (.bool false)], args := [d] }
  | _ => none }
def GridNestedWrongFalsely : Prop := gridNestedRow.holds Try.pinned (OpenSpec.ofChange gridNestedWrong)

/-- 'synopticlaw03.GridNearest': WHATEVER THE INPUT: true; the input reads as it did. -/
def gridNearestSpec : ChangeSpec := { name := "gridNearest", fn := fun _ => fun
  | [d] => { results := [.lit (.bool true)], args := [d] }
  | _ => none }
def gridNearestRow : OpenClaim := { program := "ytehehhehilgnkaa", sum := "e03984b24e10aeebd389ce1c6c2e28ddf4561996036bdf535ac2e2fef4b2b2bc", func := "synoptic/synopticlaw03.GridNearest", spec := "gridNearest", unfollowed := true, recurses := true, plainKeys := false, apart := false }
def GridNearestSaid : Prop := gridNearestRow.holds Try.pinned (OpenSpec.ofChange gridNearestSpec)

/-- ITS FALSE NEIGHBOUR: 'it returns false'. Refute it at one input. -/
def gridNearestWrong : ChangeSpec := { name := "gridNearest", fn := fun _ => fun
  | [d] => { results := [.lit (.bool false)], args := [d] }
  | _ => none }
def GridNearestWrongFalsely : Prop := gridNearestRow.holds Try.pinned (OpenSpec.ofChange gridNearestWrong)

/- THE SECOND FORM. 'bulk': how many values and letters a reading holds, each counted each time it is reached (what is shared counts as often as it is met; a slice's spare places count too). A statement '..UptoSaid' is the law's where the arguments, and the package variables that the reading takes, are together of bulk at most 1048576: NARROWER than '..Said'. Prove '..Said' where nothing that the law and all that it calls make is longer than what came in: it says more and counts as full. Else prove '..UptoSaid'. A law counts once. -/
mutual
def uptoBulk {H : Type} : DataW H → Nat
  | .lit (.string bytes) => bytes.length + 1
  | .lit _ => 1
  | .nil => 1
  | .ptr d => uptoBulk d + 1
  | .slice elems spare => uptoBulkAll elems + uptoBulkAll spare + 1
  | .agg parts => uptoBulkAll parts + 1
  | .iface _ d => uptoBulk d + 1
  | .map entries => uptoBulkEntries entries + 1
  | .held _ => 1
def uptoBulkAll {H : Type} : List (DataW H) → Nat
  | [] => 0
  | d :: r => uptoBulk d + uptoBulkAll r
def uptoBulkEntries {H : Type} : List (Lit × DataW H) → Nat
  | [] => 0
  | x :: r => uptoBulkEntry x + uptoBulkEntries r
def uptoBulkEntry {H : Type} : Lit × DataW H → Nat
  | (.string bytes, d) => bytes.length + uptoBulk d + 1
  | (_, d) => uptoBulk d + 1
 end
def uptoSmall : (H : Type) → List (DataW H) → Bool := fun _ ds => decide (uptoBulkAll ds ≤ 1048576)
def OpenSpec.upto (s : _root_.Go.ChangeSpec) : _root_.Go.OpenSpec := { _root_.Go.OpenSpec.ofChange s with cond := some uptoSmall }

/-- 'synopticlaw03.GridAnswers', WHERE WHAT IT READS IS OF BULK AT MOST 1048576: true; the input reads as it did. -/
def gridAnswersUptoRow : OpenClaim := { program := "ytehehhehilgnkaa", sum := "e03984b24e10aeebd389ce1c6c2e28ddf4561996036bdf535ac2e2fef4b2b2bc", func := "synoptic/synopticlaw03.GridAnswers", spec := "gridAnswers", unfollowed := true, recurses := true, plainKeys := false, apart := false, narrowed := true }
def GridAnswersUptoSaid : Prop := gridAnswersUptoRow.holds Try.pinned (OpenSpec.upto gridAnswersSpec)

/-- 'synopticlaw03.GridSurface', WHERE WHAT IT READS IS OF BULK AT MOST 1048576: true; the input reads as it did. -/
def gridSurfaceUptoRow : OpenClaim := { program := "ytehehhehilgnkaa", sum := "e03984b24e10aeebd389ce1c6c2e28ddf4561996036bdf535ac2e2fef4b2b2bc", func := "synoptic/synopticlaw03.GridSurface", spec := "gridSurface", unfollowed := true, recurses := true, plainKeys := false, apart := false, narrowed := true }
def GridSurfaceUptoSaid : Prop := gridSurfaceUptoRow.holds Try.pinned (OpenSpec.upto gridSurfaceSpec)

/-- 'synopticlaw03.GridLocates', WHERE WHAT IT READS IS OF BULK AT MOST 1048576: true; the input reads as it did. -/
def gridLocatesUptoRow : OpenClaim := { program := "ytehehhehilgnkaa", sum := "e03984b24e10aeebd389ce1c6c2e28ddf4561996036bdf535ac2e2fef4b2b2bc", func := "synoptic/synopticlaw03.GridLocates", spec := "gridLocates", unfollowed := true, recurses := true, plainKeys := false, apart := false, narrowed := true }
def GridLocatesUptoSaid : Prop := gridLocatesUptoRow.holds Try.pinned (OpenSpec.upto gridLocatesSpec)

/-- 'synopticlaw03.GridHops', WHERE WHAT IT READS IS OF BULK AT MOST 1048576: true; the input reads as it did. -/
def gridHopsUptoRow : OpenClaim := { program := "ytehehhehilgnkaa", sum := "e03984b24e10aeebd389ce1c6c2e28ddf4561996036bdf535ac2e2fef4b2b2bc", func := "synoptic/synopticlaw03.GridHops", spec := "gridHops", unfollowed := true, recurses := true, plainKeys := false, apart := false, narrowed := true }
def GridHopsUptoSaid : Prop := gridHopsUptoRow.holds Try.pinned (OpenSpec.upto gridHopsSpec)

/-- 'synopticlaw03.GridNested', WHERE WHAT IT READS IS OF BULK AT MOST 1048576: true; the input reads as it did. -/
def gridNestedUptoRow : OpenClaim := { program := "ytehehhehilgnkaa", sum := "e03984b24e10aeebd389ce1c6c2e28ddf4561996036bdf535ac2e2fef4b2b2bc", func := "synoptic/synopticlaw03.GridNested", spec := "gridNested", unfollowed := true, recurses := true, plainKeys := false, apart := false, narrowed := true }
def GridNestedUptoSaid : Prop := gridNestedUptoRow.holds Try.pinned (OpenSpec.upto gridNestedSpec)

/-- 'synopticlaw03.GridNearest', WHERE WHAT IT READS IS OF BULK AT MOST 1048576: true; the input reads as it did. -/
def gridNearestUptoRow : OpenClaim := { program := "ytehehhehilgnkaa", sum := "e03984b24e10aeebd389ce1c6c2e28ddf4561996036bdf535ac2e2fef4b2b2bc", func := "synoptic/synopticlaw03.GridNearest", spec := "gridNearest", unfollowed := true, recurses := true, plainKeys := false, apart := false, narrowed := true }
def GridNearestUptoSaid : Prop := gridNearestUptoRow.holds Try.pinned (OpenSpec.upto gridNearestSpec)

end Rows
end Go.Proofs.Ytehehhehilgnkaa
