/-
  DERIVED. GIVEN WITH THE SEED: THE CARDS: each row of YtaohndjlaamdaaaDoorRows.lean that lists a variable, with what it lists TIED to the program's text (the seventh form; the later family's looks); each row that meets fmt, with fmt's text TOLD by the authors' own Lean function (tested against real Go, not proved from fmt's source: count such statements apart). THE CARD IS WHAT COUNTS. Prove the row's statement (the work); the ties are given (YtaohndjlaamdaaaDoorTie.lean); close each card by the builder's one call (the guide's Derived/Test/ToyasCard.lean, 'card_holds'). Laid BY PROGRAM, IN A SANDBOX (cutbox-door.mjs). By AI agents, Wed Nov 11 2026. No macro, syntax, notation, axiom, sorry.
-/
import Derived.Test.YtaohndjlaamdaaaDoorRows
import GoSem.ClaimSeven
namespace Go.Proofs.YtaohndjlaamdaaaDoor
namespace Rows

/-- THE TIED CARD OF 'synopticlaw01.ClockAnswers'. -/
def clockAnswersCard : Claim7 := { stood := { row := clockAnswersRow, standIns := [], harness := (true, "2304a099746fe629f5cee725954d86cc9d5ce15517a380ecfe25fea86ece82e9"), looks := false }, kinds := [], alts := [], laidByText := true, laidKinds := [.data, .data, .data, .data], laidTests := true, laidLooks := .later }
def ClockAnswersCardSaid : Prop := Claim7.holds Tryd.pinned (.plain (OpenSpec.ofChange clockAnswersSpec)) clockAnswersCard

/-- THE TIED CARD OF 'synopticlaw01.ClockBack'. -/
def clockBackCard : Claim7 := { stood := { row := clockBackRow, standIns := [], harness := (true, "2304a099746fe629f5cee725954d86cc9d5ce15517a380ecfe25fea86ece82e9"), looks := false }, kinds := [], alts := [], laidByText := true, laidKinds := [.data, .data, .data, .data], laidTests := true, laidLooks := .later }
def ClockBackCardSaid : Prop := Claim7.holds Tryd.pinned (.plain (OpenSpec.ofChange clockBackSpec)) clockBackCard

/-- THE TIED CARD OF 'synopticlaw01.ClockResolves'. -/
def clockResolvesCard : Claim7 := { stood := { row := clockResolvesRow, standIns := [], harness := (true, "2304a099746fe629f5cee725954d86cc9d5ce15517a380ecfe25fea86ece82e9"), looks := false }, kinds := [], alts := [], laidByText := true, laidKinds := [.data, .data, .data, .data], laidTests := true, laidLooks := .later }
def ClockResolvesCardSaid : Prop := Claim7.holds Tryd.pinned (.plain (OpenSpec.ofChange clockResolvesSpec)) clockResolvesCard

/-- THE TIED CARD OF 'synopticlaw01.ClockNear'. -/
def clockNearCard : Claim7 := { stood := { row := clockNearRow, standIns := [], harness := (true, "2304a099746fe629f5cee725954d86cc9d5ce15517a380ecfe25fea86ece82e9"), looks := false }, kinds := [], alts := [], laidByText := true, laidKinds := [.data, .data, .data, .data], laidTests := true, laidLooks := .later }
def ClockNearCardSaid : Prop := Claim7.holds Tryd.pinned (.plain (OpenSpec.ofChange clockNearSpec)) clockNearCard

/-- THE TIED CARD OF 'synopticlaw01.ClockTexts'. -/
def clockTextsCard : Claim7 := { stood := { row := clockTextsRow, standIns := [], harness := (true, "2304a099746fe629f5cee725954d86cc9d5ce15517a380ecfe25fea86ece82e9"), looks := false }, kinds := [], alts := [], laidByText := true, laidKinds := [.data, .data, .data, .data], laidTests := true, laidLooks := .later }
def ClockTextsCardSaid : Prop := Claim7.holds Tryd.pinned (.plain (OpenSpec.ofChange clockTextsSpec)) clockTextsCard

/-- THE TIED CARD OF 'synopticlaw01.ClockDays'. -/
def clockDaysCard : Claim7 := { stood := { row := clockDaysRow, standIns := [], harness := (true, "2304a099746fe629f5cee725954d86cc9d5ce15517a380ecfe25fea86ece82e9"), looks := false }, kinds := [], alts := [], laidByText := true, laidKinds := [.data, .data, .data, .data], laidTests := true, laidLooks := .later }
def ClockDaysCardSaid : Prop := Claim7.holds Tryd.pinned (.plain (OpenSpec.ofChange clockDaysSpec)) clockDaysCard

/-- THE TIED CARD OF 'synopticlaw01.ClockOrder'. -/
def clockOrderCard : Claim7 := { stood := { row := clockOrderRow, standIns := [], harness := (true, "2304a099746fe629f5cee725954d86cc9d5ce15517a380ecfe25fea86ece82e9"), looks := false }, kinds := [], alts := [], laidByText := true, laidKinds := [.data, .data, .data, .data], laidTests := true, laidLooks := .later }
def ClockOrderCardSaid : Prop := Claim7.holds Tryd.pinned (.plain (OpenSpec.ofChange clockOrderSpec)) clockOrderCard

/-- THE SECOND FORM's CARD OF 'synopticlaw01.ClockAnswers'. -/
def clockAnswersUptoCard : Claim7 := { stood := { row := clockAnswersUptoRow, standIns := [], harness := (true, "2304a099746fe629f5cee725954d86cc9d5ce15517a380ecfe25fea86ece82e9"), looks := false }, kinds := [], alts := [], laidByText := true, laidKinds := [.data, .data, .data, .data], laidTests := true, laidLooks := .later }
def ClockAnswersUptoCardSaid : Prop := Claim7.holds Tryd.pinned (.plain (OpenSpec.upto clockAnswersSpec)) clockAnswersUptoCard

/-- THE SECOND FORM's CARD OF 'synopticlaw01.ClockBack'. -/
def clockBackUptoCard : Claim7 := { stood := { row := clockBackUptoRow, standIns := [], harness := (true, "2304a099746fe629f5cee725954d86cc9d5ce15517a380ecfe25fea86ece82e9"), looks := false }, kinds := [], alts := [], laidByText := true, laidKinds := [.data, .data, .data, .data], laidTests := true, laidLooks := .later }
def ClockBackUptoCardSaid : Prop := Claim7.holds Tryd.pinned (.plain (OpenSpec.upto clockBackSpec)) clockBackUptoCard

/-- THE SECOND FORM's CARD OF 'synopticlaw01.ClockResolves'. -/
def clockResolvesUptoCard : Claim7 := { stood := { row := clockResolvesUptoRow, standIns := [], harness := (true, "2304a099746fe629f5cee725954d86cc9d5ce15517a380ecfe25fea86ece82e9"), looks := false }, kinds := [], alts := [], laidByText := true, laidKinds := [.data, .data, .data, .data], laidTests := true, laidLooks := .later }
def ClockResolvesUptoCardSaid : Prop := Claim7.holds Tryd.pinned (.plain (OpenSpec.upto clockResolvesSpec)) clockResolvesUptoCard

/-- THE SECOND FORM's CARD OF 'synopticlaw01.ClockNear'. -/
def clockNearUptoCard : Claim7 := { stood := { row := clockNearUptoRow, standIns := [], harness := (true, "2304a099746fe629f5cee725954d86cc9d5ce15517a380ecfe25fea86ece82e9"), looks := false }, kinds := [], alts := [], laidByText := true, laidKinds := [.data, .data, .data, .data], laidTests := true, laidLooks := .later }
def ClockNearUptoCardSaid : Prop := Claim7.holds Tryd.pinned (.plain (OpenSpec.upto clockNearSpec)) clockNearUptoCard

/-- THE SECOND FORM's CARD OF 'synopticlaw01.ClockTexts'. -/
def clockTextsUptoCard : Claim7 := { stood := { row := clockTextsUptoRow, standIns := [], harness := (true, "2304a099746fe629f5cee725954d86cc9d5ce15517a380ecfe25fea86ece82e9"), looks := false }, kinds := [], alts := [], laidByText := true, laidKinds := [.data, .data, .data, .data], laidTests := true, laidLooks := .later }
def ClockTextsUptoCardSaid : Prop := Claim7.holds Tryd.pinned (.plain (OpenSpec.upto clockTextsSpec)) clockTextsUptoCard

/-- THE SECOND FORM's CARD OF 'synopticlaw01.ClockDays'. -/
def clockDaysUptoCard : Claim7 := { stood := { row := clockDaysUptoRow, standIns := [], harness := (true, "2304a099746fe629f5cee725954d86cc9d5ce15517a380ecfe25fea86ece82e9"), looks := false }, kinds := [], alts := [], laidByText := true, laidKinds := [.data, .data, .data, .data], laidTests := true, laidLooks := .later }
def ClockDaysUptoCardSaid : Prop := Claim7.holds Tryd.pinned (.plain (OpenSpec.upto clockDaysSpec)) clockDaysUptoCard

/-- THE SECOND FORM's CARD OF 'synopticlaw01.ClockOrder'. -/
def clockOrderUptoCard : Claim7 := { stood := { row := clockOrderUptoRow, standIns := [], harness := (true, "2304a099746fe629f5cee725954d86cc9d5ce15517a380ecfe25fea86ece82e9"), looks := false }, kinds := [], alts := [], laidByText := true, laidKinds := [.data, .data, .data, .data], laidTests := true, laidLooks := .later }
def ClockOrderUptoCardSaid : Prop := Claim7.holds Tryd.pinned (.plain (OpenSpec.upto clockOrderSpec)) clockOrderUptoCard
end Rows
end Go.Proofs.YtaohndjlaamdaaaDoor
