/-
  DERIVED. GIVEN WITH THE SEED: THE CARDS: each row of YtneglkfcelpdgaaGreatDoorRows.lean that lists a variable, with what it lists TIED to the program's text (the seventh form; the later family's looks); each row that meets fmt, with fmt's text TOLD by the authors' own Lean function (tested against real Go, not proved from fmt's source: count such statements apart). THE CARD IS WHAT COUNTS. Prove the row's statement (the work); the ties are given (YtneglkfcelpdgaaGreatDoorTie.lean); close each card by the builder's one call (the guide's Derived/Test/ToyasCard.lean, 'card_holds'). Laid BY PROGRAM, IN A SANDBOX (cutbox-door.mjs). By AI agents, Wed Nov 11 2026. No macro, syntax, notation, axiom, sorry.
-/
import Derived.Test.YtneglkfcelpdgaaGreatDoorRows
import GoSem.ClaimSeven
namespace Go.Proofs.YtneglkfcelpdgaaGreatDoor
namespace Rows

/-- THE TIED CARD OF 'synopticlaw05.GroupFormats'. -/
def groupFormatsCard : Claim7 := { stood := { row := groupFormatsRow, standIns := [], harness := (true, "e81fb85e007f4d1b0cf2faf08347a7be189b49c78d083f270580b1ff77c89d3a"), looks := true }, kinds := [], alts := [], laidByText := true, laidKinds := [.data, .data, .data, .data, .sentinel, .sentinel, .data, .data, .data, .pinned], laidTests := true, laidLooks := .later }
def GroupFormatsCardSaid : Prop := Claim7.holds Tryz.pinned (.plain (OpenSpec.ofChange groupFormatsSpec)) groupFormatsCard

/-- THE TIED CARD OF 'synopticlaw05.GroupParses'. -/
def groupParsesCard : Claim7 := { stood := { row := groupParsesRow, standIns := [], harness := (true, "e81fb85e007f4d1b0cf2faf08347a7be189b49c78d083f270580b1ff77c89d3a"), looks := true }, kinds := [], alts := [], laidByText := true, laidKinds := [.data, .data, .data, .data, .sentinel, .sentinel, .data, .data, .data, .pinned], laidTests := true, laidLooks := .later }
def GroupParsesCardSaid : Prop := Claim7.holds Tryz.pinned (.plain (OpenSpec.ofChange groupParsesSpec)) groupParsesCard

/-- THE SECOND FORM's CARD OF 'synopticlaw05.GroupFormats'. -/
def groupFormatsUptoCard : Claim7 := { stood := { row := groupFormatsUptoRow, standIns := [], harness := (true, "e81fb85e007f4d1b0cf2faf08347a7be189b49c78d083f270580b1ff77c89d3a"), looks := true }, kinds := [], alts := [], laidByText := true, laidKinds := [.data, .data, .data, .data, .sentinel, .sentinel, .data, .data, .data, .pinned], laidTests := true, laidLooks := .later }
def GroupFormatsUptoCardSaid : Prop := Claim7.holds Tryz.pinned (.plain (OpenSpec.upto groupFormatsSpec)) groupFormatsUptoCard

/-- THE SECOND FORM's CARD OF 'synopticlaw05.GroupParses'. -/
def groupParsesUptoCard : Claim7 := { stood := { row := groupParsesUptoRow, standIns := [], harness := (true, "e81fb85e007f4d1b0cf2faf08347a7be189b49c78d083f270580b1ff77c89d3a"), looks := true }, kinds := [], alts := [], laidByText := true, laidKinds := [.data, .data, .data, .data, .sentinel, .sentinel, .data, .data, .data, .pinned], laidTests := true, laidLooks := .later }
def GroupParsesUptoCardSaid : Prop := Claim7.holds Tryz.pinned (.plain (OpenSpec.upto groupParsesSpec)) groupParsesUptoCard
end Rows
end Go.Proofs.YtneglkfcelpdgaaGreatDoor
