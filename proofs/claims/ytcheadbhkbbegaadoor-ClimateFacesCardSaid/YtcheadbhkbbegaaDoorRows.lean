/-
  NARROWER THAN 'FOR EVERY INPUT', by the rows' own cells (each row's printed sentence says how): ClimateAnswers: laid · ClimateLearns: laid · ClimatePlaces: laid · ClimateFaces: laid · SeasonAnswers: laid · SeasonLearned: laid · SeasonWider: laid · SeasonNone: laid.
  DERIVED. THE GIVEN ROWS OF THIS SEAT. 8 by the template 'for every input the law returns true; each argument reads behind the call as it read before'; 0 by the template 'total and deterministic' (their statements: YtcheadbhkbbegaaDoorTotals.lean).
  GIVEN WITH THE SEED: the statements are not yours to turn. If you find one false, say at which input.
  Laid BY PROGRAM, IN A SANDBOX (cutbox-rows.mjs): the forced cells as the released guide's own fill.sh prints them over the translation 0563ce3148666fb7… (all of the seat's roots in one cut). By AI agents, Wed Nov 11 2026. No macro, syntax, notation, axiom, sorry.
-/
import Derived.Test.YtcheadbhkbbegaaDoorChecked
import GoSem.Claim
import GoSem.ClaimJoined
import GoSem.ClaimMapViews
import Derived.JoinedTies
import Derived.KernelRfl
namespace Go.Proofs.YtcheadbhkbbegaaDoor
/- THE CELL 'sum', in the pinned program and in every row, IS THE sha256 OF THE DUMP (.gsa) THAT YtcheadbhkbbegaaDoorProg.lean LOADS. Nothing in Lean hashes anything: it is a label: what it is worth is what the hold of that sum in a sandbox is worth. -/
noncomputable def Tryd.pinned : Pinned := { name := "ytcheadbhkbbegaadoor", sum := "0563ce3148666fb7c12106a53d434589dafe79c1ad66000659f236073e892dd3", checked := Tryd.checked }
namespace Rows
def none {H : Type} : Left H := { results := [], args := [] }

/- WHAT THE LISTED PACKAGE-LEVEL VARIABLES READ AS WHEN THE CALL BEGINS. Each datum BY PROGRAM (the guide's laid-datum.mjs) off the statement by which the dump's own 'gosem.cut.vars' lays the variable. In a bare row this is a premise. The card (YtcheadbhkbbegaaDoorCards.lean) ties it to the program's text. -/
def laid_synoptic_clock_lengths {H : Type} : DataW H := .agg [.lit (.int .i64 31), .lit (.int .i64 28), .lit (.int .i64 31), .lit (.int .i64 30), .lit (.int .i64 31), .lit (.int .i64 30), .lit (.int .i64 31), .lit (.int .i64 31), .lit (.int .i64 30), .lit (.int .i64 31), .lit (.int .i64 30), .lit (.int .i64 31)]
def laid_synoptic_element_rows {H : Type} : DataW H := .agg [.agg [.lit (.int .i64 8000), .lit (.int .i64 11000), .lit (.int .i64 5)], .agg [.lit (.int .i64 1800), .lit (.int .i64 3300), .lit (.int .i64 4)], .agg [.lit (.int .i64 1800), .lit (.int .i64 3300), .lit (.int .i64 4)], .agg [.lit (.int .i64 (-1000)), .lit (.int .i64 1000), .lit (.int .i64 4)], .agg [.lit (.int .i64 (-1000)), .lit (.int .i64 1000), .lit (.int .i64 4)], .agg [.lit (.int .i64 900), .lit (.int .i64 1700), .lit (.int .i64 4)], .agg [.lit (.int .i64 2000), .lit (.int .i64 3200), .lit (.int .i64 4)], .agg [.lit (.int .i64 2400), .lit (.int .i64 3400), .lit (.int .i64 4)], .agg [.lit (.int .i64 2000), .lit (.int .i64 3000), .lit (.int .i64 4)], .agg [.lit (.int .i64 4400), .lit (.int .i64 6200), .lit (.int .i64 4)], .agg [.lit (.int .i64 2000), .lit (.int .i64 2900), .lit (.int .i64 4)]]

/-- 'synopticlaw13.ClimateAnswers': WHATEVER THE INPUT: true; the input reads as it did. -/
def climateAnswersSpec : ChangeSpec := { name := "climateAnswers", fn := fun _ => fun
  | [d1, d2, d3, d4, d5, d6] => { results := [.lit (.bool true)], args := [d1, d2, d3, d4, d5, d6] }
  | _ => none }
def climateAnswersRow : OpenClaim := { program := "ytcheadbhkbbegaadoor", sum := "0563ce3148666fb7c12106a53d434589dafe79c1ad66000659f236073e892dd3", func := "synoptic/synopticlaw13.ClimateAnswers", spec := "climateAnswers", unfollowed := true, recurses := true, named := ["synoptic/clock.lengths", "synoptic/element.rows"], plainKeys := false, apart := false, laid := [("synoptic/clock.lengths", laid_synoptic_clock_lengths), ("synoptic/element.rows", laid_synoptic_element_rows)] }
def ClimateAnswersSaid : Prop := climateAnswersRow.holds Tryd.pinned (OpenSpec.ofChange climateAnswersSpec)

/-- ITS FALSE NEIGHBOUR: 'it returns false'. Refute it at one input. -/
def climateAnswersWrong : ChangeSpec := { name := "climateAnswers", fn := fun _ => fun
  | [d1, d2, d3, d4, d5, d6] => { results := [.lit (.bool false)], args := [d1, d2, d3, d4, d5, d6] }
  | _ => none }
def ClimateAnswersWrongFalsely : Prop := climateAnswersRow.holds Tryd.pinned (OpenSpec.ofChange climateAnswersWrong)

/-- 'synopticlaw13.ClimateLearns': WHATEVER THE INPUT: true; the input reads as it did. -/
def climateLearnsSpec : ChangeSpec := { name := "climateLearns", fn := fun _ => fun
  | [d] => { results := [.lit (.bool true)], args := [d] }
  | _ => none }
def climateLearnsRow : OpenClaim := { program := "ytcheadbhkbbegaadoor", sum := "0563ce3148666fb7c12106a53d434589dafe79c1ad66000659f236073e892dd3", func := "synoptic/synopticlaw13.ClimateLearns", spec := "climateLearns", unfollowed := true, recurses := true, named := ["synoptic/clock.lengths", "synoptic/element.rows"], plainKeys := false, apart := false, laid := [("synoptic/clock.lengths", laid_synoptic_clock_lengths), ("synoptic/element.rows", laid_synoptic_element_rows)] }
def ClimateLearnsSaid : Prop := climateLearnsRow.holds Tryd.pinned (OpenSpec.ofChange climateLearnsSpec)

/-- ITS FALSE NEIGHBOUR: 'it returns false'. Refute it at one input. -/
def climateLearnsWrong : ChangeSpec := { name := "climateLearns", fn := fun _ => fun
  | [d] => { results := [.lit (.bool false)], args := [d] }
  | _ => none }
def ClimateLearnsWrongFalsely : Prop := climateLearnsRow.holds Tryd.pinned (OpenSpec.ofChange climateLearnsWrong)

/-- 'synopticlaw13.ClimatePlaces': WHATEVER THE INPUT: true; the input reads as it did. -/
def climatePlacesSpec : ChangeSpec := { name := "climatePlaces", fn := fun _ => fun
  | [d] => { results := [.lit (.bool true)], args := [d] }
  | _ => none }
def climatePlacesRow : OpenClaim := { program := "ytcheadbhkbbegaadoor", sum := "0563ce3148666fb7c12106a53d434589dafe79c1ad66000659f236073e892dd3", func := "synoptic/synopticlaw13.ClimatePlaces", spec := "climatePlaces", unfollowed := true, recurses := true, named := ["synoptic/element.rows", "synoptic/clock.lengths"], plainKeys := false, apart := false, laid := [("synoptic/clock.lengths", laid_synoptic_clock_lengths), ("synoptic/element.rows", laid_synoptic_element_rows)] }
def ClimatePlacesSaid : Prop := climatePlacesRow.holds Tryd.pinned (OpenSpec.ofChange climatePlacesSpec)

/-- ITS FALSE NEIGHBOUR: 'it returns false'. Refute it at one input. -/
def climatePlacesWrong : ChangeSpec := { name := "climatePlaces", fn := fun _ => fun
  | [d] => { results := [.lit (.bool false)], args := [d] }
  | _ => none }
def ClimatePlacesWrongFalsely : Prop := climatePlacesRow.holds Tryd.pinned (OpenSpec.ofChange climatePlacesWrong)

/-- 'synopticlaw13.ClimateFaces': WHATEVER THE INPUT: true; the input reads as it did. -/
def climateFacesSpec : ChangeSpec := { name := "climateFaces", fn := fun _ => fun
  | [d] => { results := [.lit (.bool true)], args := [d] }
  | _ => none }
def climateFacesRow : OpenClaim := { program := "ytcheadbhkbbegaadoor", sum := "0563ce3148666fb7c12106a53d434589dafe79c1ad66000659f236073e892dd3", func := "synoptic/synopticlaw13.ClimateFaces", spec := "climateFaces", unfollowed := true, recurses := true, named := ["synoptic/clock.lengths", "synoptic/element.rows"], plainKeys := false, apart := false, laid := [("synoptic/clock.lengths", laid_synoptic_clock_lengths), ("synoptic/element.rows", laid_synoptic_element_rows)] }
def ClimateFacesSaid : Prop := climateFacesRow.holds Tryd.pinned (OpenSpec.ofChange climateFacesSpec)

/-- ITS FALSE NEIGHBOUR: 'it returns false'. Refute it at one input. -/
def climateFacesWrong : ChangeSpec := { name := "climateFaces", fn := fun _ => fun
  | [d] => { results := [.lit (.bool false)], args := [d] }
  | _ => none }
def ClimateFacesWrongFalsely : Prop := climateFacesRow.holds Tryd.pinned (OpenSpec.ofChange climateFacesWrong)

/-- 'synopticlaw15.SeasonAnswers': WHATEVER THE INPUT: true; the input reads as it did. -/
def seasonAnswersSpec : ChangeSpec := { name := "seasonAnswers", fn := fun _ => fun
  | [d1, d2, d3, d4] => { results := [.lit (.bool true)], args := [d1, d2, d3, d4] }
  | _ => none }
def seasonAnswersRow : OpenClaim := { program := "ytcheadbhkbbegaadoor", sum := "0563ce3148666fb7c12106a53d434589dafe79c1ad66000659f236073e892dd3", func := "synoptic/synopticlaw15.SeasonAnswers", spec := "seasonAnswers", unfollowed := true, recurses := true, named := ["synoptic/element.rows", "synoptic/clock.lengths"], plainKeys := false, apart := false, laid := [("synoptic/clock.lengths", laid_synoptic_clock_lengths), ("synoptic/element.rows", laid_synoptic_element_rows)] }
def SeasonAnswersSaid : Prop := seasonAnswersRow.holds Tryd.pinned (OpenSpec.ofChange seasonAnswersSpec)

/-- ITS FALSE NEIGHBOUR: 'it returns false'. Refute it at one input. -/
def seasonAnswersWrong : ChangeSpec := { name := "seasonAnswers", fn := fun _ => fun
  | [d1, d2, d3, d4] => { results := [.lit (.bool false)], args := [d1, d2, d3, d4] }
  | _ => none }
def SeasonAnswersWrongFalsely : Prop := seasonAnswersRow.holds Tryd.pinned (OpenSpec.ofChange seasonAnswersWrong)

/-- 'synopticlaw15.SeasonLearned': WHATEVER THE INPUT: true; the input reads as it did. -/
def seasonLearnedSpec : ChangeSpec := { name := "seasonLearned", fn := fun _ => fun
  | [d] => { results := [.lit (.bool true)], args := [d] }
  | _ => none }
def seasonLearnedRow : OpenClaim := { program := "ytcheadbhkbbegaadoor", sum := "0563ce3148666fb7c12106a53d434589dafe79c1ad66000659f236073e892dd3", func := "synoptic/synopticlaw15.SeasonLearned", spec := "seasonLearned", unfollowed := true, recurses := true, named := ["synoptic/element.rows", "synoptic/clock.lengths"], plainKeys := false, apart := false, laid := [("synoptic/clock.lengths", laid_synoptic_clock_lengths), ("synoptic/element.rows", laid_synoptic_element_rows)] }
def SeasonLearnedSaid : Prop := seasonLearnedRow.holds Tryd.pinned (OpenSpec.ofChange seasonLearnedSpec)

/-- ITS FALSE NEIGHBOUR: 'it returns false'. Refute it at one input. -/
def seasonLearnedWrong : ChangeSpec := { name := "seasonLearned", fn := fun _ => fun
  | [d] => { results := [.lit (.bool false)], args := [d] }
  | _ => none }
def SeasonLearnedWrongFalsely : Prop := seasonLearnedRow.holds Tryd.pinned (OpenSpec.ofChange seasonLearnedWrong)

/-- 'synopticlaw15.SeasonWider': WHATEVER THE INPUT: true; the input reads as it did. -/
def seasonWiderSpec : ChangeSpec := { name := "seasonWider", fn := fun _ => fun
  | [d] => { results := [.lit (.bool true)], args := [d] }
  | _ => none }
def seasonWiderRow : OpenClaim := { program := "ytcheadbhkbbegaadoor", sum := "0563ce3148666fb7c12106a53d434589dafe79c1ad66000659f236073e892dd3", func := "synoptic/synopticlaw15.SeasonWider", spec := "seasonWider", unfollowed := true, recurses := true, named := ["synoptic/element.rows", "synoptic/clock.lengths"], plainKeys := false, apart := false, laid := [("synoptic/clock.lengths", laid_synoptic_clock_lengths), ("synoptic/element.rows", laid_synoptic_element_rows)] }
def SeasonWiderSaid : Prop := seasonWiderRow.holds Tryd.pinned (OpenSpec.ofChange seasonWiderSpec)

/-- ITS FALSE NEIGHBOUR: 'it returns false'. Refute it at one input. -/
def seasonWiderWrong : ChangeSpec := { name := "seasonWider", fn := fun _ => fun
  | [d] => { results := [.lit (.bool false)], args := [d] }
  | _ => none }
def SeasonWiderWrongFalsely : Prop := seasonWiderRow.holds Tryd.pinned (OpenSpec.ofChange seasonWiderWrong)

/-- 'synopticlaw15.SeasonNone': WHATEVER THE INPUT: true; the input reads as it did. -/
def seasonNoneSpec : ChangeSpec := { name := "seasonNone", fn := fun _ => fun
  | [d] => { results := [.lit (.bool true)], args := [d] }
  | _ => none }
def seasonNoneRow : OpenClaim := { program := "ytcheadbhkbbegaadoor", sum := "0563ce3148666fb7c12106a53d434589dafe79c1ad66000659f236073e892dd3", func := "synoptic/synopticlaw15.SeasonNone", spec := "seasonNone", unfollowed := true, recurses := true, named := ["synoptic/element.rows", "synoptic/clock.lengths"], plainKeys := false, apart := false, laid := [("synoptic/clock.lengths", laid_synoptic_clock_lengths), ("synoptic/element.rows", laid_synoptic_element_rows)] }
def SeasonNoneSaid : Prop := seasonNoneRow.holds Tryd.pinned (OpenSpec.ofChange seasonNoneSpec)

/-- ITS FALSE NEIGHBOUR: 'it returns false'. Refute it at one input. -/
def seasonNoneWrong : ChangeSpec := { name := "seasonNone", fn := fun _ => fun
  | [d] => { results := [.lit (.bool false)], args := [d] }
  | _ => none }
def SeasonNoneWrongFalsely : Prop := seasonNoneRow.holds Tryd.pinned (OpenSpec.ofChange seasonNoneWrong)

/- THE SECOND FORM. 'bulk': how many values and letters a reading holds, each counted each time it is reached (what is shared counts as often as it is met; a slice's spare places count too). A statement '..UptoSaid' is the law's where the arguments, and the package variables that the reading takes, are together of bulk at most 1048576: NARROWER than '..Said'. Prove '..Said' where nothing that the law and all that it calls make is longer than what came in: it says more and counts as full. Else prove '..UptoSaid'. A law counts once. -/
mutual
def uptoBulk {H : Type} : DataW H → Nat
  | .lit (.string bytes) => bytes.length + 1
  | .lit _ => 1
  | .nil => 1
  | .ptr d => uptoBulk d + 1
  | .slice elems spare => uptoBulkAll elems + uptoBulkAll spare + 1
  | .agg parts => uptoBulkAll parts + 1
  | .iface _ d => uptoBulk d + 1
  | .map entries => uptoBulkEntries entries + 1
  | .held _ => 1
def uptoBulkAll {H : Type} : List (DataW H) → Nat
  | [] => 0
  | d :: r => uptoBulk d + uptoBulkAll r
def uptoBulkEntries {H : Type} : List (Lit × DataW H) → Nat
  | [] => 0
  | x :: r => uptoBulkEntry x + uptoBulkEntries r
def uptoBulkEntry {H : Type} : Lit × DataW H → Nat
  | (.string bytes, d) => bytes.length + uptoBulk d + 1
  | (_, d) => uptoBulk d + 1
 end
def uptoSmall : (H : Type) → List (DataW H) → Bool := fun _ ds => decide (uptoBulkAll ds ≤ 1048576)
def OpenSpec.upto (s : _root_.Go.ChangeSpec) : _root_.Go.OpenSpec := { _root_.Go.OpenSpec.ofChange s with cond := some uptoSmall }

/-- 'synopticlaw13.ClimateAnswers', WHERE WHAT IT READS IS OF BULK AT MOST 1048576: true; the input reads as it did. -/
def climateAnswersUptoRow : OpenClaim := { program := "ytcheadbhkbbegaadoor", sum := "0563ce3148666fb7c12106a53d434589dafe79c1ad66000659f236073e892dd3", func := "synoptic/synopticlaw13.ClimateAnswers", spec := "climateAnswers", unfollowed := true, recurses := true, named := ["synoptic/clock.lengths", "synoptic/element.rows"], plainKeys := false, apart := false, laid := [("synoptic/clock.lengths", laid_synoptic_clock_lengths), ("synoptic/element.rows", laid_synoptic_element_rows)], narrowed := true }
def ClimateAnswersUptoSaid : Prop := climateAnswersUptoRow.holds Tryd.pinned (OpenSpec.upto climateAnswersSpec)

/-- 'synopticlaw13.ClimateLearns', WHERE WHAT IT READS IS OF BULK AT MOST 1048576: true; the input reads as it did. -/
def climateLearnsUptoRow : OpenClaim := { program := "ytcheadbhkbbegaadoor", sum := "0563ce3148666fb7c12106a53d434589dafe79c1ad66000659f236073e892dd3", func := "synoptic/synopticlaw13.ClimateLearns", spec := "climateLearns", unfollowed := true, recurses := true, named := ["synoptic/clock.lengths", "synoptic/element.rows"], plainKeys := false, apart := false, laid := [("synoptic/clock.lengths", laid_synoptic_clock_lengths), ("synoptic/element.rows", laid_synoptic_element_rows)], narrowed := true }
def ClimateLearnsUptoSaid : Prop := climateLearnsUptoRow.holds Tryd.pinned (OpenSpec.upto climateLearnsSpec)

/-- 'synopticlaw13.ClimatePlaces', WHERE WHAT IT READS IS OF BULK AT MOST 1048576: true; the input reads as it did. -/
def climatePlacesUptoRow : OpenClaim := { program := "ytcheadbhkbbegaadoor", sum := "0563ce3148666fb7c12106a53d434589dafe79c1ad66000659f236073e892dd3", func := "synoptic/synopticlaw13.ClimatePlaces", spec := "climatePlaces", unfollowed := true, recurses := true, named := ["synoptic/element.rows", "synoptic/clock.lengths"], plainKeys := false, apart := false, laid := [("synoptic/clock.lengths", laid_synoptic_clock_lengths), ("synoptic/element.rows", laid_synoptic_element_rows)], narrowed := true }
def ClimatePlacesUptoSaid : Prop := climatePlacesUptoRow.holds Tryd.pinned (OpenSpec.upto climatePlacesSpec)

/-- 'synopticlaw13.ClimateFaces', WHERE WHAT IT READS IS OF BULK AT MOST 1048576: true; the input reads as it did. -/
def climateFacesUptoRow : OpenClaim := { program := "ytcheadbhkbbegaadoor", sum := "0563ce3148666fb7c12106a53d434589dafe79c1ad66000659f236073e892dd3", func := "synoptic/synopticlaw13.ClimateFaces", spec := "climateFaces", unfollowed := true, recurses := true, named := ["synoptic/clock.lengths", "synoptic/element.rows"], plainKeys := false, apart := false, laid := [("synoptic/clock.lengths", laid_synoptic_clock_lengths), ("synoptic/element.rows", laid_synoptic_element_rows)], narrowed := true }
def ClimateFacesUptoSaid : Prop := climateFacesUptoRow.holds Tryd.pinned (OpenSpec.upto climateFacesSpec)

/-- 'synopticlaw15.SeasonAnswers', WHERE WHAT IT READS IS OF BULK AT MOST 1048576: true; the input reads as it did. -/
def seasonAnswersUptoRow : OpenClaim := { program := "ytcheadbhkbbegaadoor", sum := "0563ce3148666fb7c12106a53d434589dafe79c1ad66000659f236073e892dd3", func := "synoptic/synopticlaw15.SeasonAnswers", spec := "seasonAnswers", unfollowed := true, recurses := true, named := ["synoptic/element.rows", "synoptic/clock.lengths"], plainKeys := false, apart := false, laid := [("synoptic/clock.lengths", laid_synoptic_clock_lengths), ("synoptic/element.rows", laid_synoptic_element_rows)], narrowed := true }
def SeasonAnswersUptoSaid : Prop := seasonAnswersUptoRow.holds Tryd.pinned (OpenSpec.upto seasonAnswersSpec)

/-- 'synopticlaw15.SeasonLearned', WHERE WHAT IT READS IS OF BULK AT MOST 1048576: true; the input reads as it did. -/
def seasonLearnedUptoRow : OpenClaim := { program := "ytcheadbhkbbegaadoor", sum := "0563ce3148666fb7c12106a53d434589dafe79c1ad66000659f236073e892dd3", func := "synoptic/synopticlaw15.SeasonLearned", spec := "seasonLearned", unfollowed := true, recurses := true, named := ["synoptic/element.rows", "synoptic/clock.lengths"], plainKeys := false, apart := false, laid := [("synoptic/clock.lengths", laid_synoptic_clock_lengths), ("synoptic/element.rows", laid_synoptic_element_rows)], narrowed := true }
def SeasonLearnedUptoSaid : Prop := seasonLearnedUptoRow.holds Tryd.pinned (OpenSpec.upto seasonLearnedSpec)

/-- 'synopticlaw15.SeasonWider', WHERE WHAT IT READS IS OF BULK AT MOST 1048576: true; the input reads as it did. -/
def seasonWiderUptoRow : OpenClaim := { program := "ytcheadbhkbbegaadoor", sum := "0563ce3148666fb7c12106a53d434589dafe79c1ad66000659f236073e892dd3", func := "synoptic/synopticlaw15.SeasonWider", spec := "seasonWider", unfollowed := true, recurses := true, named := ["synoptic/element.rows", "synoptic/clock.lengths"], plainKeys := false, apart := false, laid := [("synoptic/clock.lengths", laid_synoptic_clock_lengths), ("synoptic/element.rows", laid_synoptic_element_rows)], narrowed := true }
def SeasonWiderUptoSaid : Prop := seasonWiderUptoRow.holds Tryd.pinned (OpenSpec.upto seasonWiderSpec)

/-- 'synopticlaw15.SeasonNone', WHERE WHAT IT READS IS OF BULK AT MOST 1048576: true; the input reads as it did. -/
def seasonNoneUptoRow : OpenClaim := { program := "ytcheadbhkbbegaadoor", sum := "0563ce3148666fb7c12106a53d434589dafe79c1ad66000659f236073e892dd3", func := "synoptic/synopticlaw15.SeasonNone", spec := "seasonNone", unfollowed := true, recurses := true, named := ["synoptic/element.rows", "synoptic/clock.lengths"], plainKeys := false, apart := false, laid := [("synoptic/clock.lengths", laid_synoptic_clock_lengths), ("synoptic/element.rows", laid_synoptic_element_rows)], narrowed := true }
def SeasonNoneUptoSaid : Prop := seasonNoneUptoRow.holds Tryd.pinned (OpenSpec.upto seasonNoneSpec)

end Rows
end Go.Proofs.YtcheadbhkbbegaaDoor
