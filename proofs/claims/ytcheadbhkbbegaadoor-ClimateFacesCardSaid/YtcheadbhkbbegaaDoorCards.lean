/-
  DERIVED. GIVEN WITH THE SEED: THE CARDS: each row of YtcheadbhkbbegaaDoorRows.lean that lists a variable, with what it lists TIED to the program's text (the seventh form; the later family's looks); each row that meets fmt, with fmt's text TOLD by the authors' own Lean function (tested against real Go, not proved from fmt's source: count such statements apart). THE CARD IS WHAT COUNTS. Prove the row's statement (the work); the ties are given (YtcheadbhkbbegaaDoorTie.lean); close each card by the builder's one call (the guide's Derived/Test/ToyasCard.lean, 'card_holds'). Laid BY PROGRAM, IN A SANDBOX (cutbox-door.mjs). By AI agents, Wed Nov 11 2026. No macro, syntax, notation, axiom, sorry.
-/
import Derived.Test.YtcheadbhkbbegaaDoorRows
import GoSem.ClaimSeven
namespace Go.Proofs.YtcheadbhkbbegaaDoor
namespace Rows

/-- THE TIED CARD OF 'synopticlaw13.ClimateAnswers'. -/
def climateAnswersCard : Claim7 := { stood := { row := climateAnswersRow, standIns := [], harness := (true, "955fb4d9be9fd07fabfaba58b228ee8d4099736b7c4e97d4b4fe39f8d8c41cba"), looks := false }, kinds := [], alts := [], laidByText := true, laidKinds := [.data, .data], laidTests := true, laidLooks := .later }
def ClimateAnswersCardSaid : Prop := Claim7.holds Tryd.pinned (.plain (OpenSpec.ofChange climateAnswersSpec)) climateAnswersCard

/-- THE TIED CARD OF 'synopticlaw13.ClimateLearns'. -/
def climateLearnsCard : Claim7 := { stood := { row := climateLearnsRow, standIns := [], harness := (true, "955fb4d9be9fd07fabfaba58b228ee8d4099736b7c4e97d4b4fe39f8d8c41cba"), looks := false }, kinds := [], alts := [], laidByText := true, laidKinds := [.data, .data], laidTests := true, laidLooks := .later }
def ClimateLearnsCardSaid : Prop := Claim7.holds Tryd.pinned (.plain (OpenSpec.ofChange climateLearnsSpec)) climateLearnsCard

/-- THE TIED CARD OF 'synopticlaw13.ClimatePlaces'. -/
def climatePlacesCard : Claim7 := { stood := { row := climatePlacesRow, standIns := [], harness := (true, "955fb4d9be9fd07fabfaba58b228ee8d4099736b7c4e97d4b4fe39f8d8c41cba"), looks := false }, kinds := [], alts := [], laidByText := true, laidKinds := [.data, .data], laidTests := true, laidLooks := .later }
def ClimatePlacesCardSaid : Prop := Claim7.holds Tryd.pinned (.plain (OpenSpec.ofChange climatePlacesSpec)) climatePlacesCard

/-- THE TIED CARD OF 'synopticlaw13.ClimateFaces'. -/
def climateFacesCard : Claim7 := { stood := { row := climateFacesRow, standIns := [], harness := (true, "955fb4d9be9fd07fabfaba58b228ee8d4099736b7c4e97d4b4fe39f8d8c41cba"), looks := false }, kinds := [], alts := [], laidByText := true, laidKinds := [.data, .data], laidTests := true, laidLooks := .later }
def ClimateFacesCardSaid : Prop := Claim7.holds Tryd.pinned (.plain (OpenSpec.ofChange climateFacesSpec)) climateFacesCard

/-- THE TIED CARD OF 'synopticlaw15.SeasonAnswers'. -/
def seasonAnswersCard : Claim7 := { stood := { row := seasonAnswersRow, standIns := [], harness := (true, "955fb4d9be9fd07fabfaba58b228ee8d4099736b7c4e97d4b4fe39f8d8c41cba"), looks := false }, kinds := [], alts := [], laidByText := true, laidKinds := [.data, .data], laidTests := true, laidLooks := .later }
def SeasonAnswersCardSaid : Prop := Claim7.holds Tryd.pinned (.plain (OpenSpec.ofChange seasonAnswersSpec)) seasonAnswersCard

/-- THE TIED CARD OF 'synopticlaw15.SeasonLearned'. -/
def seasonLearnedCard : Claim7 := { stood := { row := seasonLearnedRow, standIns := [], harness := (true, "955fb4d9be9fd07fabfaba58b228ee8d4099736b7c4e97d4b4fe39f8d8c41cba"), looks := false }, kinds := [], alts := [], laidByText := true, laidKinds := [.data, .data], laidTests := true, laidLooks := .later }
def SeasonLearnedCardSaid : Prop := Claim7.holds Tryd.pinned (.plain (OpenSpec.ofChange seasonLearnedSpec)) seasonLearnedCard

/-- THE TIED CARD OF 'synopticlaw15.SeasonWider'. -/
def seasonWiderCard : Claim7 := { stood := { row := seasonWiderRow, standIns := [], harness := (true, "955fb4d9be9fd07fabfaba58b228ee8d4099736b7c4e97d4b4fe39f8d8c41cba"), looks := false }, kinds := [], alts := [], laidByText := true, laidKinds := [.data, .data], laidTests := true, laidLooks := .later }
def SeasonWiderCardSaid : Prop := Claim7.holds Tryd.pinned (.plain (OpenSpec.ofChange seasonWiderSpec)) seasonWiderCard

/-- THE TIED CARD OF 'synopticlaw15.SeasonNone'. -/
def seasonNoneCard : Claim7 := { stood := { row := seasonNoneRow, standIns := [], harness := (true, "955fb4d9be9fd07fabfaba58b228ee8d4099736b7c4e97d4b4fe39f8d8c41cba"), looks := false }, kinds := [], alts := [], laidByText := true, laidKinds := [.data, .data], laidTests := true, laidLooks := .later }
def SeasonNoneCardSaid : Prop := Claim7.holds Tryd.pinned (.plain (OpenSpec.ofChange seasonNoneSpec)) seasonNoneCard

/-- THE SECOND FORM's CARD OF 'synopticlaw13.ClimateAnswers'. -/
def climateAnswersUptoCard : Claim7 := { stood := { row := climateAnswersUptoRow, standIns := [], harness := (true, "955fb4d9be9fd07fabfaba58b228ee8d4099736b7c4e97d4b4fe39f8d8c41cba"), looks := false }, kinds := [], alts := [], laidByText := true, laidKinds := [.data, .data], laidTests := true, laidLooks := .later }
def ClimateAnswersUptoCardSaid : Prop := Claim7.holds Tryd.pinned (.plain (OpenSpec.upto climateAnswersSpec)) climateAnswersUptoCard

/-- THE SECOND FORM's CARD OF 'synopticlaw13.ClimateLearns'. -/
def climateLearnsUptoCard : Claim7 := { stood := { row := climateLearnsUptoRow, standIns := [], harness := (true, "955fb4d9be9fd07fabfaba58b228ee8d4099736b7c4e97d4b4fe39f8d8c41cba"), looks := false }, kinds := [], alts := [], laidByText := true, laidKinds := [.data, .data], laidTests := true, laidLooks := .later }
def ClimateLearnsUptoCardSaid : Prop := Claim7.holds Tryd.pinned (.plain (OpenSpec.upto climateLearnsSpec)) climateLearnsUptoCard

/-- THE SECOND FORM's CARD OF 'synopticlaw13.ClimatePlaces'. -/
def climatePlacesUptoCard : Claim7 := { stood := { row := climatePlacesUptoRow, standIns := [], harness := (true, "955fb4d9be9fd07fabfaba58b228ee8d4099736b7c4e97d4b4fe39f8d8c41cba"), looks := false }, kinds := [], alts := [], laidByText := true, laidKinds := [.data, .data], laidTests := true, laidLooks := .later }
def ClimatePlacesUptoCardSaid : Prop := Claim7.holds Tryd.pinned (.plain (OpenSpec.upto climatePlacesSpec)) climatePlacesUptoCard

/-- THE SECOND FORM's CARD OF 'synopticlaw13.ClimateFaces'. -/
def climateFacesUptoCard : Claim7 := { stood := { row := climateFacesUptoRow, standIns := [], harness := (true, "955fb4d9be9fd07fabfaba58b228ee8d4099736b7c4e97d4b4fe39f8d8c41cba"), looks := false }, kinds := [], alts := [], laidByText := true, laidKinds := [.data, .data], laidTests := true, laidLooks := .later }
def ClimateFacesUptoCardSaid : Prop := Claim7.holds Tryd.pinned (.plain (OpenSpec.upto climateFacesSpec)) climateFacesUptoCard

/-- THE SECOND FORM's CARD OF 'synopticlaw15.SeasonAnswers'. -/
def seasonAnswersUptoCard : Claim7 := { stood := { row := seasonAnswersUptoRow, standIns := [], harness := (true, "955fb4d9be9fd07fabfaba58b228ee8d4099736b7c4e97d4b4fe39f8d8c41cba"), looks := false }, kinds := [], alts := [], laidByText := true, laidKinds := [.data, .data], laidTests := true, laidLooks := .later }
def SeasonAnswersUptoCardSaid : Prop := Claim7.holds Tryd.pinned (.plain (OpenSpec.upto seasonAnswersSpec)) seasonAnswersUptoCard

/-- THE SECOND FORM's CARD OF 'synopticlaw15.SeasonLearned'. -/
def seasonLearnedUptoCard : Claim7 := { stood := { row := seasonLearnedUptoRow, standIns := [], harness := (true, "955fb4d9be9fd07fabfaba58b228ee8d4099736b7c4e97d4b4fe39f8d8c41cba"), looks := false }, kinds := [], alts := [], laidByText := true, laidKinds := [.data, .data], laidTests := true, laidLooks := .later }
def SeasonLearnedUptoCardSaid : Prop := Claim7.holds Tryd.pinned (.plain (OpenSpec.upto seasonLearnedSpec)) seasonLearnedUptoCard

/-- THE SECOND FORM's CARD OF 'synopticlaw15.SeasonWider'. -/
def seasonWiderUptoCard : Claim7 := { stood := { row := seasonWiderUptoRow, standIns := [], harness := (true, "955fb4d9be9fd07fabfaba58b228ee8d4099736b7c4e97d4b4fe39f8d8c41cba"), looks := false }, kinds := [], alts := [], laidByText := true, laidKinds := [.data, .data], laidTests := true, laidLooks := .later }
def SeasonWiderUptoCardSaid : Prop := Claim7.holds Tryd.pinned (.plain (OpenSpec.upto seasonWiderSpec)) seasonWiderUptoCard

/-- THE SECOND FORM's CARD OF 'synopticlaw15.SeasonNone'. -/
def seasonNoneUptoCard : Claim7 := { stood := { row := seasonNoneUptoRow, standIns := [], harness := (true, "955fb4d9be9fd07fabfaba58b228ee8d4099736b7c4e97d4b4fe39f8d8c41cba"), looks := false }, kinds := [], alts := [], laidByText := true, laidKinds := [.data, .data], laidTests := true, laidLooks := .later }
def SeasonNoneUptoCardSaid : Prop := Claim7.holds Tryd.pinned (.plain (OpenSpec.upto seasonNoneSpec)) seasonNoneUptoCard
end Rows
end Go.Proofs.YtcheadbhkbbegaaDoor
