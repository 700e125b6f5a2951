/-
  DERIVED. GIVEN WITH THE SEED: THE CARDS: each row of YthlcpmkjemdhkaaDoorRows.lean that lists a variable, with what it lists TIED to the program's text (the seventh form; the later family's looks); each row that meets fmt, with fmt's text TOLD by the authors' own Lean function (tested against real Go, not proved from fmt's source: count such statements apart). THE CARD IS WHAT COUNTS. Prove the row's statement (the work); the ties are given (YthlcpmkjemdhkaaDoorTie.lean); close each card by the builder's one call (the guide's Derived/Test/ToyasCard.lean, 'card_holds'). Laid BY PROGRAM, IN A SANDBOX (cutbox-door.mjs). By AI agents, Wed Nov 11 2026. No macro, syntax, notation, axiom, sorry.
-/
import Derived.Test.YthlcpmkjemdhkaaDoorRows
import GoSem.ClaimSeven
namespace Go.Proofs.YthlcpmkjemdhkaaDoor
namespace Rows

/-- THE TIED CARD OF 'synopticlaw04.ElementAnswers'. -/
def elementAnswersCard : Claim7 := { stood := { row := elementAnswersRow, standIns := [], harness := (true, "9aa278ab9ee5438b914ca1609a10064e687d8d4d091c8439ae49f8e8a116041d"), looks := true }, kinds := [], alts := [], laidByText := true, laidKinds := [.data, .data, .data, .sentinel, .sentinel, .data], laidTests := true, laidLooks := .later }
def ElementAnswersCardSaid : Prop := Claim7.holds Tryd.pinned (.plain (OpenSpec.ofChange elementAnswersSpec)) elementAnswersCard

/-- THE TIED CARD OF 'synopticlaw04.ElementTexts'. -/
def elementTextsCard : Claim7 := { stood := { row := elementTextsRow, standIns := [], harness := (true, "9aa278ab9ee5438b914ca1609a10064e687d8d4d091c8439ae49f8e8a116041d"), looks := true }, kinds := [], alts := [], laidByText := true, laidKinds := [.data, .data, .data, .sentinel, .sentinel, .data], laidTests := true, laidLooks := .later }
def ElementTextsCardSaid : Prop := Claim7.holds Tryd.pinned (.plain (OpenSpec.ofChange elementTextsSpec)) elementTextsCard

/-- THE TIED CARD OF 'synopticlaw04.ElementLetters'. -/
def elementLettersCard : Claim7 := { stood := { row := elementLettersRow, standIns := [], harness := (true, "9aa278ab9ee5438b914ca1609a10064e687d8d4d091c8439ae49f8e8a116041d"), looks := true }, kinds := [], alts := [], laidByText := true, laidKinds := [.data, .data, .data, .sentinel, .sentinel, .data], laidTests := true, laidLooks := .later }
def ElementLettersCardSaid : Prop := Claim7.holds Tryd.pinned (.plain (OpenSpec.ofChange elementLettersSpec)) elementLettersCard

/-- THE TIED CARD OF 'synopticlaw04.ElementParts'. -/
def elementPartsCard : Claim7 := { stood := { row := elementPartsRow, standIns := [], harness := (true, "9aa278ab9ee5438b914ca1609a10064e687d8d4d091c8439ae49f8e8a116041d"), looks := true }, kinds := [], alts := [], laidByText := true, laidKinds := [.data, .data, .data, .sentinel, .sentinel, .data], laidTests := true, laidLooks := .later }
def ElementPartsCardSaid : Prop := Claim7.holds Tryd.pinned (.plain (OpenSpec.ofChange elementPartsSpec)) elementPartsCard

/-- THE TIED CARD OF 'synopticlaw04.ElementSorted'. -/
def elementSortedCard : Claim7 := { stood := { row := elementSortedRow, standIns := [], harness := (true, "9aa278ab9ee5438b914ca1609a10064e687d8d4d091c8439ae49f8e8a116041d"), looks := true }, kinds := [], alts := [], laidByText := true, laidKinds := [.data, .data, .data, .sentinel, .sentinel, .data], laidTests := true, laidLooks := .later }
def ElementSortedCardSaid : Prop := Claim7.holds Tryd.pinned (.plain (OpenSpec.ofChange elementSortedSpec)) elementSortedCard

/-- THE SECOND FORM's CARD OF 'synopticlaw04.ElementAnswers'. -/
def elementAnswersUptoCard : Claim7 := { stood := { row := elementAnswersUptoRow, standIns := [], harness := (true, "9aa278ab9ee5438b914ca1609a10064e687d8d4d091c8439ae49f8e8a116041d"), looks := true }, kinds := [], alts := [], laidByText := true, laidKinds := [.data, .data, .data, .sentinel, .sentinel, .data], laidTests := true, laidLooks := .later }
def ElementAnswersUptoCardSaid : Prop := Claim7.holds Tryd.pinned (.plain (OpenSpec.upto elementAnswersSpec)) elementAnswersUptoCard

/-- THE SECOND FORM's CARD OF 'synopticlaw04.ElementTexts'. -/
def elementTextsUptoCard : Claim7 := { stood := { row := elementTextsUptoRow, standIns := [], harness := (true, "9aa278ab9ee5438b914ca1609a10064e687d8d4d091c8439ae49f8e8a116041d"), looks := true }, kinds := [], alts := [], laidByText := true, laidKinds := [.data, .data, .data, .sentinel, .sentinel, .data], laidTests := true, laidLooks := .later }
def ElementTextsUptoCardSaid : Prop := Claim7.holds Tryd.pinned (.plain (OpenSpec.upto elementTextsSpec)) elementTextsUptoCard

/-- THE SECOND FORM's CARD OF 'synopticlaw04.ElementLetters'. -/
def elementLettersUptoCard : Claim7 := { stood := { row := elementLettersUptoRow, standIns := [], harness := (true, "9aa278ab9ee5438b914ca1609a10064e687d8d4d091c8439ae49f8e8a116041d"), looks := true }, kinds := [], alts := [], laidByText := true, laidKinds := [.data, .data, .data, .sentinel, .sentinel, .data], laidTests := true, laidLooks := .later }
def ElementLettersUptoCardSaid : Prop := Claim7.holds Tryd.pinned (.plain (OpenSpec.upto elementLettersSpec)) elementLettersUptoCard

/-- THE SECOND FORM's CARD OF 'synopticlaw04.ElementParts'. -/
def elementPartsUptoCard : Claim7 := { stood := { row := elementPartsUptoRow, standIns := [], harness := (true, "9aa278ab9ee5438b914ca1609a10064e687d8d4d091c8439ae49f8e8a116041d"), looks := true }, kinds := [], alts := [], laidByText := true, laidKinds := [.data, .data, .data, .sentinel, .sentinel, .data], laidTests := true, laidLooks := .later }
def ElementPartsUptoCardSaid : Prop := Claim7.holds Tryd.pinned (.plain (OpenSpec.upto elementPartsSpec)) elementPartsUptoCard

/-- THE SECOND FORM's CARD OF 'synopticlaw04.ElementSorted'. -/
def elementSortedUptoCard : Claim7 := { stood := { row := elementSortedUptoRow, standIns := [], harness := (true, "9aa278ab9ee5438b914ca1609a10064e687d8d4d091c8439ae49f8e8a116041d"), looks := true }, kinds := [], alts := [], laidByText := true, laidKinds := [.data, .data, .data, .sentinel, .sentinel, .data], laidTests := true, laidLooks := .later }
def ElementSortedUptoCardSaid : Prop := Claim7.holds Tryd.pinned (.plain (OpenSpec.upto elementSortedSpec)) elementSortedUptoCard
end Rows
end Go.Proofs.YthlcpmkjemdhkaaDoor
