/-
  DERIVED. GIVEN WITH THE SEED: THE CARDS: each row of YtmcckpoilhkpmaaGreatDoorRows.lean that lists a variable, with what it lists TIED to the program's text (the seventh form; the later family's looks); each row that meets fmt, with fmt's text TOLD by the authors' own Lean function (tested against real Go, not proved from fmt's source: count such statements apart). THE CARD IS WHAT COUNTS. Prove the row's statement (the work); the ties are given (YtmcckpoilhkpmaaGreatDoorTie.lean); close each card by the builder's one call (the guide's Derived/Test/ToyasCard.lean, 'card_holds'). Laid BY PROGRAM, IN A SANDBOX (cutbox-door.mjs). By AI agents, Wed Nov 11 2026. No macro, syntax, notation, axiom, sorry.
-/
import Derived.Test.YtmcckpoilhkpmaaGreatDoorRows
import GoSem.ClaimSeven
namespace Go.Proofs.YtmcckpoilhkpmaaGreatDoor
namespace Rows

/-- THE TIED CARD OF 'synopticlaw05.GroupFormats'. -/
def groupFormatsCard : Claim7 := { stood := { row := groupFormatsRow, standIns := [], harness := (true, "9a602c31947d7e0da49ce65c5dc1f63887afd480e1d0fa7b6c8fc855f1256b87"), looks := true }, kinds := [], alts := [], laidByText := true, laidKinds := [.data, .data, .data, .data, .sentinel, .sentinel, .data, .data, .data, .pinned], laidTests := true, laidLooks := .later }
def GroupFormatsCardSaid : Prop := Claim7.holds Tryz.pinned (.plain (OpenSpec.ofChange groupFormatsSpec)) groupFormatsCard

/-- THE TIED CARD OF 'synopticlaw05.GroupParses'. -/
def groupParsesCard : Claim7 := { stood := { row := groupParsesRow, standIns := [], harness := (true, "9a602c31947d7e0da49ce65c5dc1f63887afd480e1d0fa7b6c8fc855f1256b87"), looks := true }, kinds := [], alts := [], laidByText := true, laidKinds := [.data, .data, .data, .data, .sentinel, .sentinel, .data, .data, .data, .pinned], laidTests := true, laidLooks := .later }
def GroupParsesCardSaid : Prop := Claim7.holds Tryz.pinned (.plain (OpenSpec.ofChange groupParsesSpec)) groupParsesCard

/-- THE TIED CARD OF 'synopticlaw05.GroupBack'. -/
def groupBackCard : Claim7 := { stood := { row := groupBackRow, standIns := [], harness := (true, "9a602c31947d7e0da49ce65c5dc1f63887afd480e1d0fa7b6c8fc855f1256b87"), looks := true }, kinds := [], alts := [], laidByText := true, laidKinds := [.data, .data, .data, .data, .sentinel, .sentinel, .data, .data, .data, .pinned], laidTests := true, laidLooks := .later }
def GroupBackCardSaid : Prop := Claim7.holds Tryz.pinned (.plain (OpenSpec.ofChange groupBackSpec)) groupBackCard

/-- THE TIED CARD OF 'synopticlaw05.GroupFar'. -/
def groupFarCard : Claim7 := { stood := { row := groupFarRow, standIns := [], harness := (true, "9a602c31947d7e0da49ce65c5dc1f63887afd480e1d0fa7b6c8fc855f1256b87"), looks := true }, kinds := [], alts := [], laidByText := true, laidKinds := [.data, .data, .data, .data, .sentinel, .sentinel, .data, .data, .data, .pinned], laidTests := true, laidLooks := .later }
def GroupFarCardSaid : Prop := Claim7.holds Tryz.pinned (.plain (OpenSpec.ofChange groupFarSpec)) groupFarCard

/-- THE TIED CARD OF 'synopticlaw05.GroupOrder'. -/
def groupOrderCard : Claim7 := { stood := { row := groupOrderRow, standIns := [], harness := (true, "9a602c31947d7e0da49ce65c5dc1f63887afd480e1d0fa7b6c8fc855f1256b87"), looks := true }, kinds := [], alts := [], laidByText := true, laidKinds := [.data, .data, .data, .data, .sentinel, .sentinel, .data, .data, .data, .pinned], laidTests := true, laidLooks := .later }
def GroupOrderCardSaid : Prop := Claim7.holds Tryz.pinned (.plain (OpenSpec.ofChange groupOrderSpec)) groupOrderCard

/-- THE TIED CARD OF 'synopticlaw05.GroupPlaces'. -/
def groupPlacesCard : Claim7 := { stood := { row := groupPlacesRow, standIns := [], harness := (true, "9a602c31947d7e0da49ce65c5dc1f63887afd480e1d0fa7b6c8fc855f1256b87"), looks := true }, kinds := [], alts := [], laidByText := true, laidKinds := [.data, .data, .data, .data, .sentinel, .sentinel, .data, .data, .data, .pinned], laidTests := true, laidLooks := .later }
def GroupPlacesCardSaid : Prop := Claim7.holds Tryz.pinned (.plain (OpenSpec.ofChange groupPlacesSpec)) groupPlacesCard

/-- THE SECOND FORM's CARD OF 'synopticlaw05.GroupFormats'. -/
def groupFormatsUptoCard : Claim7 := { stood := { row := groupFormatsUptoRow, standIns := [], harness := (true, "9a602c31947d7e0da49ce65c5dc1f63887afd480e1d0fa7b6c8fc855f1256b87"), looks := true }, kinds := [], alts := [], laidByText := true, laidKinds := [.data, .data, .data, .data, .sentinel, .sentinel, .data, .data, .data, .pinned], laidTests := true, laidLooks := .later }
def GroupFormatsUptoCardSaid : Prop := Claim7.holds Tryz.pinned (.plain (OpenSpec.upto groupFormatsSpec)) groupFormatsUptoCard

/-- THE SECOND FORM's CARD OF 'synopticlaw05.GroupParses'. -/
def groupParsesUptoCard : Claim7 := { stood := { row := groupParsesUptoRow, standIns := [], harness := (true, "9a602c31947d7e0da49ce65c5dc1f63887afd480e1d0fa7b6c8fc855f1256b87"), looks := true }, kinds := [], alts := [], laidByText := true, laidKinds := [.data, .data, .data, .data, .sentinel, .sentinel, .data, .data, .data, .pinned], laidTests := true, laidLooks := .later }
def GroupParsesUptoCardSaid : Prop := Claim7.holds Tryz.pinned (.plain (OpenSpec.upto groupParsesSpec)) groupParsesUptoCard

/-- THE SECOND FORM's CARD OF 'synopticlaw05.GroupBack'. -/
def groupBackUptoCard : Claim7 := { stood := { row := groupBackUptoRow, standIns := [], harness := (true, "9a602c31947d7e0da49ce65c5dc1f63887afd480e1d0fa7b6c8fc855f1256b87"), looks := true }, kinds := [], alts := [], laidByText := true, laidKinds := [.data, .data, .data, .data, .sentinel, .sentinel, .data, .data, .data, .pinned], laidTests := true, laidLooks := .later }
def GroupBackUptoCardSaid : Prop := Claim7.holds Tryz.pinned (.plain (OpenSpec.upto groupBackSpec)) groupBackUptoCard

/-- THE SECOND FORM's CARD OF 'synopticlaw05.GroupFar'. -/
def groupFarUptoCard : Claim7 := { stood := { row := groupFarUptoRow, standIns := [], harness := (true, "9a602c31947d7e0da49ce65c5dc1f63887afd480e1d0fa7b6c8fc855f1256b87"), looks := true }, kinds := [], alts := [], laidByText := true, laidKinds := [.data, .data, .data, .data, .sentinel, .sentinel, .data, .data, .data, .pinned], laidTests := true, laidLooks := .later }
def GroupFarUptoCardSaid : Prop := Claim7.holds Tryz.pinned (.plain (OpenSpec.upto groupFarSpec)) groupFarUptoCard

/-- THE SECOND FORM's CARD OF 'synopticlaw05.GroupOrder'. -/
def groupOrderUptoCard : Claim7 := { stood := { row := groupOrderUptoRow, standIns := [], harness := (true, "9a602c31947d7e0da49ce65c5dc1f63887afd480e1d0fa7b6c8fc855f1256b87"), looks := true }, kinds := [], alts := [], laidByText := true, laidKinds := [.data, .data, .data, .data, .sentinel, .sentinel, .data, .data, .data, .pinned], laidTests := true, laidLooks := .later }
def GroupOrderUptoCardSaid : Prop := Claim7.holds Tryz.pinned (.plain (OpenSpec.upto groupOrderSpec)) groupOrderUptoCard

/-- THE SECOND FORM's CARD OF 'synopticlaw05.GroupPlaces'. -/
def groupPlacesUptoCard : Claim7 := { stood := { row := groupPlacesUptoRow, standIns := [], harness := (true, "9a602c31947d7e0da49ce65c5dc1f63887afd480e1d0fa7b6c8fc855f1256b87"), looks := true }, kinds := [], alts := [], laidByText := true, laidKinds := [.data, .data, .data, .data, .sentinel, .sentinel, .data, .data, .data, .pinned], laidTests := true, laidLooks := .later }
def GroupPlacesUptoCardSaid : Prop := Claim7.holds Tryz.pinned (.plain (OpenSpec.upto groupPlacesSpec)) groupPlacesUptoCard
end Rows
end Go.Proofs.YtmcckpoilhkpmaaGreatDoor
