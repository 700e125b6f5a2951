/-
  DERIVED. GIVEN WITH THE SEED: THE CARDS: each row of YtfnlgfacadmjpaaGreatDoorRows.lean that lists a variable, with what it lists TIED to the program's text (the seventh form; the later family's looks); each row that meets fmt, with fmt's text TOLD by the authors' own Lean function (tested against real Go, not proved from fmt's source: count such statements apart). THE CARD IS WHAT COUNTS. Prove the row's statement (the work); the ties are given (YtfnlgfacadmjpaaGreatDoorTie.lean); close each card by the builder's one call (the guide's Derived/Test/ToyasCard.lean, 'card_holds'). Laid BY PROGRAM, IN A SANDBOX (cutbox-door.mjs). By AI agents, Wed Nov 11 2026. No macro, syntax, notation, axiom, sorry.
-/
import Derived.Test.YtfnlgfacadmjpaaGreatDoorRows
import GoSem.ClaimSeven
namespace Go.Proofs.YtfnlgfacadmjpaaGreatDoor
namespace Rows

/-- THE TIED CARD OF 'synopticlaw06.BulletinFormats'. -/
def bulletinFormatsCard : Claim7 := { stood := { row := bulletinFormatsRow, standIns := [], harness := (true, "8b69e44524d2be578a18efe490861093c3abe3a74609f95dcdba7ddff127d602"), looks := true }, kinds := [], alts := [], laidByText := true, laidKinds := [.data, .data, .data, .data, .sentinel, .sentinel, .data, .data, .data, .pinned], laidTests := true, laidLooks := .later }
def BulletinFormatsCardSaid : Prop := Claim7.holds Tryz.pinned (.plain (OpenSpec.ofChange bulletinFormatsSpec)) bulletinFormatsCard

/-- THE TIED CARD OF 'synopticlaw06.BulletinParses'. -/
def bulletinParsesCard : Claim7 := { stood := { row := bulletinParsesRow, standIns := [], harness := (true, "8b69e44524d2be578a18efe490861093c3abe3a74609f95dcdba7ddff127d602"), looks := true }, kinds := [], alts := [], laidByText := true, laidKinds := [.data, .data, .data, .data, .sentinel, .sentinel, .data, .data, .data, .pinned], laidTests := true, laidLooks := .later }
def BulletinParsesCardSaid : Prop := Claim7.holds Tryz.pinned (.plain (OpenSpec.ofChange bulletinParsesSpec)) bulletinParsesCard

/-- THE TIED CARD OF 'synopticlaw06.BulletinBack'. -/
def bulletinBackCard : Claim7 := { stood := { row := bulletinBackRow, standIns := [], harness := (true, "8b69e44524d2be578a18efe490861093c3abe3a74609f95dcdba7ddff127d602"), looks := true }, kinds := [], alts := [], laidByText := true, laidKinds := [.data, .data, .data, .data, .sentinel, .sentinel, .data, .data, .data, .pinned], laidTests := true, laidLooks := .later }
def BulletinBackCardSaid : Prop := Claim7.holds Tryz.pinned (.plain (OpenSpec.ofChange bulletinBackSpec)) bulletinBackCard

/-- THE TIED CARD OF 'synopticlaw06.BulletinDamage'. -/
def bulletinDamageCard : Claim7 := { stood := { row := bulletinDamageRow, standIns := [], harness := (true, "8b69e44524d2be578a18efe490861093c3abe3a74609f95dcdba7ddff127d602"), looks := true }, kinds := [], alts := [], laidByText := true, laidKinds := [.data, .data, .data, .data, .sentinel, .sentinel, .data, .data, .data, .pinned], laidTests := true, laidLooks := .later }
def BulletinDamageCardSaid : Prop := Claim7.holds Tryz.pinned (.plain (OpenSpec.ofChange bulletinDamageSpec)) bulletinDamageCard

/-- THE TIED CARD OF 'synopticlaw06.BulletinTorn'. -/
def bulletinTornCard : Claim7 := { stood := { row := bulletinTornRow, standIns := [], harness := (true, "8b69e44524d2be578a18efe490861093c3abe3a74609f95dcdba7ddff127d602"), looks := true }, kinds := [], alts := [], laidByText := true, laidKinds := [.data, .data, .data, .data, .sentinel, .sentinel, .data, .data, .data, .pinned], laidTests := true, laidLooks := .later }
def BulletinTornCardSaid : Prop := Claim7.holds Tryz.pinned (.plain (OpenSpec.ofChange bulletinTornSpec)) bulletinTornCard

/-- THE TIED CARD OF 'synopticlaw06.BulletinJoins'. -/
def bulletinJoinsCard : Claim7 := { stood := { row := bulletinJoinsRow, standIns := [], harness := (true, "8b69e44524d2be578a18efe490861093c3abe3a74609f95dcdba7ddff127d602"), looks := true }, kinds := [], alts := [], laidByText := true, laidKinds := [.data, .data, .data, .data, .sentinel, .sentinel, .data, .data, .data, .pinned], laidTests := true, laidLooks := .later }
def BulletinJoinsCardSaid : Prop := Claim7.holds Tryz.pinned (.plain (OpenSpec.ofChange bulletinJoinsSpec)) bulletinJoinsCard

/-- THE TIED CARD OF 'synopticlaw06.BulletinMarks'. -/
def bulletinMarksCard : Claim7 := { stood := { row := bulletinMarksRow, standIns := [], harness := (true, "8b69e44524d2be578a18efe490861093c3abe3a74609f95dcdba7ddff127d602"), looks := true }, kinds := [], alts := [], laidByText := true, laidKinds := [.data, .data, .data, .data, .sentinel, .sentinel, .data, .data, .data, .pinned], laidTests := true, laidLooks := .later }
def BulletinMarksCardSaid : Prop := Claim7.holds Tryz.pinned (.plain (OpenSpec.ofChange bulletinMarksSpec)) bulletinMarksCard

/-- THE SECOND FORM's CARD OF 'synopticlaw06.BulletinFormats'. -/
def bulletinFormatsUptoCard : Claim7 := { stood := { row := bulletinFormatsUptoRow, standIns := [], harness := (true, "8b69e44524d2be578a18efe490861093c3abe3a74609f95dcdba7ddff127d602"), looks := true }, kinds := [], alts := [], laidByText := true, laidKinds := [.data, .data, .data, .data, .sentinel, .sentinel, .data, .data, .data, .pinned], laidTests := true, laidLooks := .later }
def BulletinFormatsUptoCardSaid : Prop := Claim7.holds Tryz.pinned (.plain (OpenSpec.upto bulletinFormatsSpec)) bulletinFormatsUptoCard

/-- THE SECOND FORM's CARD OF 'synopticlaw06.BulletinParses'. -/
def bulletinParsesUptoCard : Claim7 := { stood := { row := bulletinParsesUptoRow, standIns := [], harness := (true, "8b69e44524d2be578a18efe490861093c3abe3a74609f95dcdba7ddff127d602"), looks := true }, kinds := [], alts := [], laidByText := true, laidKinds := [.data, .data, .data, .data, .sentinel, .sentinel, .data, .data, .data, .pinned], laidTests := true, laidLooks := .later }
def BulletinParsesUptoCardSaid : Prop := Claim7.holds Tryz.pinned (.plain (OpenSpec.upto bulletinParsesSpec)) bulletinParsesUptoCard

/-- THE SECOND FORM's CARD OF 'synopticlaw06.BulletinBack'. -/
def bulletinBackUptoCard : Claim7 := { stood := { row := bulletinBackUptoRow, standIns := [], harness := (true, "8b69e44524d2be578a18efe490861093c3abe3a74609f95dcdba7ddff127d602"), looks := true }, kinds := [], alts := [], laidByText := true, laidKinds := [.data, .data, .data, .data, .sentinel, .sentinel, .data, .data, .data, .pinned], laidTests := true, laidLooks := .later }
def BulletinBackUptoCardSaid : Prop := Claim7.holds Tryz.pinned (.plain (OpenSpec.upto bulletinBackSpec)) bulletinBackUptoCard

/-- THE SECOND FORM's CARD OF 'synopticlaw06.BulletinDamage'. -/
def bulletinDamageUptoCard : Claim7 := { stood := { row := bulletinDamageUptoRow, standIns := [], harness := (true, "8b69e44524d2be578a18efe490861093c3abe3a74609f95dcdba7ddff127d602"), looks := true }, kinds := [], alts := [], laidByText := true, laidKinds := [.data, .data, .data, .data, .sentinel, .sentinel, .data, .data, .data, .pinned], laidTests := true, laidLooks := .later }
def BulletinDamageUptoCardSaid : Prop := Claim7.holds Tryz.pinned (.plain (OpenSpec.upto bulletinDamageSpec)) bulletinDamageUptoCard

/-- THE SECOND FORM's CARD OF 'synopticlaw06.BulletinTorn'. -/
def bulletinTornUptoCard : Claim7 := { stood := { row := bulletinTornUptoRow, standIns := [], harness := (true, "8b69e44524d2be578a18efe490861093c3abe3a74609f95dcdba7ddff127d602"), looks := true }, kinds := [], alts := [], laidByText := true, laidKinds := [.data, .data, .data, .data, .sentinel, .sentinel, .data, .data, .data, .pinned], laidTests := true, laidLooks := .later }
def BulletinTornUptoCardSaid : Prop := Claim7.holds Tryz.pinned (.plain (OpenSpec.upto bulletinTornSpec)) bulletinTornUptoCard

/-- THE SECOND FORM's CARD OF 'synopticlaw06.BulletinJoins'. -/
def bulletinJoinsUptoCard : Claim7 := { stood := { row := bulletinJoinsUptoRow, standIns := [], harness := (true, "8b69e44524d2be578a18efe490861093c3abe3a74609f95dcdba7ddff127d602"), looks := true }, kinds := [], alts := [], laidByText := true, laidKinds := [.data, .data, .data, .data, .sentinel, .sentinel, .data, .data, .data, .pinned], laidTests := true, laidLooks := .later }
def BulletinJoinsUptoCardSaid : Prop := Claim7.holds Tryz.pinned (.plain (OpenSpec.upto bulletinJoinsSpec)) bulletinJoinsUptoCard

/-- THE SECOND FORM's CARD OF 'synopticlaw06.BulletinMarks'. -/
def bulletinMarksUptoCard : Claim7 := { stood := { row := bulletinMarksUptoRow, standIns := [], harness := (true, "8b69e44524d2be578a18efe490861093c3abe3a74609f95dcdba7ddff127d602"), looks := true }, kinds := [], alts := [], laidByText := true, laidKinds := [.data, .data, .data, .data, .sentinel, .sentinel, .data, .data, .data, .pinned], laidTests := true, laidLooks := .later }
def BulletinMarksUptoCardSaid : Prop := Claim7.holds Tryz.pinned (.plain (OpenSpec.upto bulletinMarksSpec)) bulletinMarksUptoCard
end Rows
end Go.Proofs.YtfnlgfacadmjpaaGreatDoor
