/-
  NARROWER THAN 'FOR EVERY INPUT', by the rows' own cells (each row's printed sentence says how): BulletinFormats: laid · BulletinParses: laid · BulletinBack: laid · BulletinDamage: laid · BulletinTorn: laid · BulletinJoins: laid · BulletinMarks: laid.
  DERIVED. THE GIVEN ROWS OF THIS SEAT. 7 by the template 'for every input the law returns true; each argument reads behind the call as it read before'; 0 by the template 'total and deterministic' (their statements: YtfnlgfacadmjpaaGreatDoorTotals.lean).
  GIVEN WITH THE SEED: the statements are not yours to turn. If you find one false, say at which input.
  Laid BY PROGRAM, IN A SANDBOX (cutbox-rows.mjs): the forced cells as the released guide's own fill.sh prints them over the translation fffe02ae5ed75d43… (all of the seat's roots in one cut). By AI agents, Wed Nov 11 2026. No macro, syntax, notation, axiom, sorry.
-/
import Derived.Test.YtfnlgfacadmjpaaGreatDoorChecked
import GoSem.PinnedTables
import GoSem.Claim
import GoSem.ClaimJoined
import GoSem.ClaimMapViews
import Derived.JoinedTies
import Derived.KernelRfl
namespace Go.Proofs.YtfnlgfacadmjpaaGreatDoor
/- THE CELL 'sum', in the pinned program and in every row, IS THE sha256 OF THE DUMP (.gsa) THAT YtfnlgfacadmjpaaGreatDoorProg.lean LOADS. Nothing in Lean hashes anything: it is a label: what it is worth is what the hold of that sum in a sandbox is worth. -/
noncomputable def Tryz.pinned : Pinned := { name := "ytfnlgfacadmjpaagreatdoor", sum := "fffe02ae5ed75d43257ec8d33d1972231b375a2b4f4ba4d04caecff17765db47", checked := Tryz.checked }
namespace Rows
def none {H : Type} : Left H := { results := [], args := [] }

/- WHAT THE LISTED PACKAGE-LEVEL VARIABLES READ AS WHEN THE CALL BEGINS. Each datum BY PROGRAM (the guide's laid-datum.mjs) off the statement by which the dump's own 'gosem.cut.vars' lays the variable. In a bare row this is a premise. The card (YtfnlgfacadmjpaaGreatDoorCards.lean) ties it to the program's text. -/
def laid_math_bits_deBruijn32tab {H : Type} : DataW H := .agg [.lit (.int .u8 0), .lit (.int .u8 1), .lit (.int .u8 28), .lit (.int .u8 2), .lit (.int .u8 29), .lit (.int .u8 14), .lit (.int .u8 24), .lit (.int .u8 3), .lit (.int .u8 30), .lit (.int .u8 22), .lit (.int .u8 20), .lit (.int .u8 15), .lit (.int .u8 25), .lit (.int .u8 17), .lit (.int .u8 4), .lit (.int .u8 8), .lit (.int .u8 31), .lit (.int .u8 27), .lit (.int .u8 13), .lit (.int .u8 23), .lit (.int .u8 21), .lit (.int .u8 19), .lit (.int .u8 16), .lit (.int .u8 7), .lit (.int .u8 26), .lit (.int .u8 12), .lit (.int .u8 18), .lit (.int .u8 6), .lit (.int .u8 11), .lit (.int .u8 5), .lit (.int .u8 10), .lit (.int .u8 9)]
def laid_math_bits_deBruijn64tab {H : Type} : DataW H := .agg [.lit (.int .u8 0), .lit (.int .u8 1), .lit (.int .u8 56), .lit (.int .u8 2), .lit (.int .u8 57), .lit (.int .u8 49), .lit (.int .u8 28), .lit (.int .u8 3), .lit (.int .u8 61), .lit (.int .u8 58), .lit (.int .u8 42), .lit (.int .u8 50), .lit (.int .u8 38), .lit (.int .u8 29), .lit (.int .u8 17), .lit (.int .u8 4), .lit (.int .u8 62), .lit (.int .u8 47), .lit (.int .u8 59), .lit (.int .u8 36), .lit (.int .u8 45), .lit (.int .u8 43), .lit (.int .u8 51), .lit (.int .u8 22), .lit (.int .u8 53), .lit (.int .u8 39), .lit (.int .u8 33), .lit (.int .u8 30), .lit (.int .u8 24), .lit (.int .u8 18), .lit (.int .u8 12), .lit (.int .u8 5), .lit (.int .u8 63), .lit (.int .u8 55), .lit (.int .u8 48), .lit (.int .u8 27), .lit (.int .u8 60), .lit (.int .u8 41), .lit (.int .u8 37), .lit (.int .u8 16), .lit (.int .u8 46), .lit (.int .u8 35), .lit (.int .u8 44), .lit (.int .u8 21), .lit (.int .u8 52), .lit (.int .u8 32), .lit (.int .u8 23), .lit (.int .u8 11), .lit (.int .u8 54), .lit (.int .u8 26), .lit (.int .u8 40), .lit (.int .u8 15), .lit (.int .u8 34), .lit (.int .u8 20), .lit (.int .u8 31), .lit (.int .u8 10), .lit (.int .u8 25), .lit (.int .u8 14), .lit (.int .u8 19), .lit (.int .u8 9), .lit (.int .u8 13), .lit (.int .u8 8), .lit (.int .u8 7), .lit (.int .u8 6)]
def laid_internal_strconv_uint64pow10 {H : Type} : DataW H := .agg [.lit (.int .u64 1), .lit (.int .u64 10), .lit (.int .u64 100), .lit (.int .u64 1000), .lit (.int .u64 10000), .lit (.int .u64 100000), .lit (.int .u64 1000000), .lit (.int .u64 10000000), .lit (.int .u64 100000000), .lit (.int .u64 1000000000), .lit (.int .u64 10000000000), .lit (.int .u64 100000000000), .lit (.int .u64 1000000000000), .lit (.int .u64 10000000000000), .lit (.int .u64 100000000000000), .lit (.int .u64 1000000000000000), .lit (.int .u64 10000000000000000), .lit (.int .u64 100000000000000000), .lit (.int .u64 1000000000000000000), .lit (.int .u64 10000000000000000000)]
def laid_unicode_utf8_acceptRanges {H : Type} : DataW H := .agg [.agg [.lit (.int .u8 128), .lit (.int .u8 191)], .agg [.lit (.int .u8 160), .lit (.int .u8 191)], .agg [.lit (.int .u8 128), .lit (.int .u8 159)], .agg [.lit (.int .u8 144), .lit (.int .u8 191)], .agg [.lit (.int .u8 128), .lit (.int .u8 143)], .agg [.lit (.int .u8 0), .lit (.int .u8 0)], .agg [.lit (.int .u8 0), .lit (.int .u8 0)], .agg [.lit (.int .u8 0), .lit (.int .u8 0)], .agg [.lit (.int .u8 0), .lit (.int .u8 0)], .agg [.lit (.int .u8 0), .lit (.int .u8 0)], .agg [.lit (.int .u8 0), .lit (.int .u8 0)], .agg [.lit (.int .u8 0), .lit (.int .u8 0)], .agg [.lit (.int .u8 0), .lit (.int .u8 0)], .agg [.lit (.int .u8 0), .lit (.int .u8 0)], .agg [.lit (.int .u8 0), .lit (.int .u8 0)], .agg [.lit (.int .u8 0), .lit (.int .u8 0)]]
def laid_strconv_ErrRange {H : Type} : DataW H := .iface "*errors.errorString" (.ptr (.agg [.lit (.string [118, 97, 108, 117, 101, 32, 111, 117, 116, 32, 111, 102, 32, 114, 97, 110, 103, 101])]))
def laid_strconv_ErrSyntax {H : Type} : DataW H := .iface "*errors.errorString" (.ptr (.agg [.lit (.string [105, 110, 118, 97, 108, 105, 100, 32, 115, 121, 110, 116, 97, 120])]))
def laid_synoptic_clock_lengths {H : Type} : DataW H := .agg [.lit (.int .i64 31), .lit (.int .i64 28), .lit (.int .i64 31), .lit (.int .i64 30), .lit (.int .i64 31), .lit (.int .i64 30), .lit (.int .i64 31), .lit (.int .i64 31), .lit (.int .i64 30), .lit (.int .i64 31), .lit (.int .i64 30), .lit (.int .i64 31)]
def laid_synoptic_element_rows {H : Type} : DataW H := .agg [.agg [.lit (.int .i64 8000), .lit (.int .i64 11000), .lit (.int .i64 5)], .agg [.lit (.int .i64 1800), .lit (.int .i64 3300), .lit (.int .i64 4)], .agg [.lit (.int .i64 1800), .lit (.int .i64 3300), .lit (.int .i64 4)], .agg [.lit (.int .i64 (-1000)), .lit (.int .i64 1000), .lit (.int .i64 4)], .agg [.lit (.int .i64 (-1000)), .lit (.int .i64 1000), .lit (.int .i64 4)], .agg [.lit (.int .i64 900), .lit (.int .i64 1700), .lit (.int .i64 4)], .agg [.lit (.int .i64 2000), .lit (.int .i64 3200), .lit (.int .i64 4)], .agg [.lit (.int .i64 2400), .lit (.int .i64 3400), .lit (.int .i64 4)], .agg [.lit (.int .i64 2000), .lit (.int .i64 3000), .lit (.int .i64 4)], .agg [.lit (.int .i64 4400), .lit (.int .i64 6200), .lit (.int .i64 4)], .agg [.lit (.int .i64 2000), .lit (.int .i64 2900), .lit (.int .i64 4)]]
def laid_synoptic_group_kinds {H : Type} : DataW H := .agg [.lit (.string [76, 65, 78, 68]), .lit (.string [83, 72, 73, 80]), .lit (.string [66, 85, 79, 89])]
/-- One of Go's own tables, pinned by name: the form's constant. -/
def laid_unicode_utf8_first : DataW Unit := Go.Pinned.utf8First

/-- 'synopticlaw06.BulletinFormats': WHATEVER THE INPUT: true; the input reads as it did. -/
def bulletinFormatsSpec : ChangeSpec := { name := "bulletinFormats", fn := fun _ => fun
  | [d1, d2] => { results := [.lit (.bool true)], args := [d1, d2] }
  | _ => none }
def bulletinFormatsRow : OpenClaim := { program := "ytfnlgfacadmjpaagreatdoor", sum := "fffe02ae5ed75d43257ec8d33d1972231b375a2b4f4ba4d04caecff17765db47", func := "synoptic/synopticlaw06.BulletinFormats", spec := "bulletinFormats", inPlace := ["internal/bytealg.IndexByteString", "internal/bytealg.IndexString", "internal/bytealg.CountString", "internal/abi.NoEscape", "internal/bytealg.MakeNoZero"], unfollowed := true, recurses := true, named := ["internal/bytealg.MaxLen", "unicode/utf8.first", "unicode/utf8.acceptRanges", "synoptic/clock.lengths", "synoptic/group.kinds", "strconv.ErrSyntax", "strconv.ErrRange", "internal/strconv.uint64pow10", "math/bits.deBruijn32tab", "math/bits.deBruijn64tab", "synoptic/element.rows"], apart := false, laid := [("math/bits.deBruijn32tab", laid_math_bits_deBruijn32tab), ("math/bits.deBruijn64tab", laid_math_bits_deBruijn64tab), ("internal/strconv.uint64pow10", laid_internal_strconv_uint64pow10), ("unicode/utf8.acceptRanges", laid_unicode_utf8_acceptRanges), ("strconv.ErrRange", laid_strconv_ErrRange), ("strconv.ErrSyntax", laid_strconv_ErrSyntax), ("synoptic/clock.lengths", laid_synoptic_clock_lengths), ("synoptic/element.rows", laid_synoptic_element_rows), ("synoptic/group.kinds", laid_synoptic_group_kinds), ("unicode/utf8.first", laid_unicode_utf8_first)] }
def BulletinFormatsSaid : Prop := bulletinFormatsRow.holds Tryz.pinned (OpenSpec.ofChange bulletinFormatsSpec)

/-- ITS FALSE NEIGHBOUR: 'it returns false'. Refute it at one input. -/
def bulletinFormatsWrong : ChangeSpec := { name := "bulletinFormats", fn := fun _ => fun
  | [d1, d2] => { results := [.lit (.bool false)], args := [d1, d2] }
  | _ => none }
def BulletinFormatsWrongFalsely : Prop := bulletinFormatsRow.holds Tryz.pinned (OpenSpec.ofChange bulletinFormatsWrong)

/-- 'synopticlaw06.BulletinParses': WHATEVER THE INPUT: true; the input reads as it did. -/
def bulletinParsesSpec : ChangeSpec := { name := "bulletinParses", fn := fun _ => fun
  | [d1, d2, d3, d4, d5, d6] => { results := [.lit (.bool true)], args := [d1, d2, d3, d4, d5, d6] }
  | _ => none }
def bulletinParsesRow : OpenClaim := { program := "ytfnlgfacadmjpaagreatdoor", sum := "fffe02ae5ed75d43257ec8d33d1972231b375a2b4f4ba4d04caecff17765db47", func := "synoptic/synopticlaw06.BulletinParses", spec := "bulletinParses", inPlace := ["internal/bytealg.IndexByteString", "internal/bytealg.IndexString", "internal/bytealg.CountString", "internal/abi.NoEscape", "internal/bytealg.MakeNoZero"], unfollowed := true, recurses := true, named := ["internal/bytealg.MaxLen", "unicode/utf8.first", "unicode/utf8.acceptRanges", "synoptic/clock.lengths", "synoptic/group.kinds", "strconv.ErrSyntax", "strconv.ErrRange", "internal/strconv.uint64pow10", "math/bits.deBruijn32tab", "math/bits.deBruijn64tab", "synoptic/element.rows"], apart := false, laid := [("math/bits.deBruijn32tab", laid_math_bits_deBruijn32tab), ("math/bits.deBruijn64tab", laid_math_bits_deBruijn64tab), ("internal/strconv.uint64pow10", laid_internal_strconv_uint64pow10), ("unicode/utf8.acceptRanges", laid_unicode_utf8_acceptRanges), ("strconv.ErrRange", laid_strconv_ErrRange), ("strconv.ErrSyntax", laid_strconv_ErrSyntax), ("synoptic/clock.lengths", laid_synoptic_clock_lengths), ("synoptic/element.rows", laid_synoptic_element_rows), ("synoptic/group.kinds", laid_synoptic_group_kinds), ("unicode/utf8.first", laid_unicode_utf8_first)] }
def BulletinParsesSaid : Prop := bulletinParsesRow.holds Tryz.pinned (OpenSpec.ofChange bulletinParsesSpec)

/-- ITS FALSE NEIGHBOUR: 'it returns false'. Refute it at one input. -/
def bulletinParsesWrong : ChangeSpec := { name := "bulletinParses", fn := fun _ => fun
  | [d1, d2, d3, d4, d5, d6] => { results := [.lit (.bool false)], args := [d1, d2, d3, d4, d5, d6] }
  | _ => none }
def BulletinParsesWrongFalsely : Prop := bulletinParsesRow.holds Tryz.pinned (OpenSpec.ofChange bulletinParsesWrong)

/-- 'synopticlaw06.BulletinBack': WHATEVER THE INPUT: true; the input reads as it did. -/
def bulletinBackSpec : ChangeSpec := { name := "bulletinBack", fn := fun _ => fun
  | [d] => { results := [.lit (.bool true)], args := [d] }
  | _ => none }
def bulletinBackRow : OpenClaim := { program := "ytfnlgfacadmjpaagreatdoor", sum := "fffe02ae5ed75d43257ec8d33d1972231b375a2b4f4ba4d04caecff17765db47", func := "synoptic/synopticlaw06.BulletinBack", spec := "bulletinBack", inPlace := ["internal/bytealg.IndexByteString", "internal/bytealg.IndexString", "internal/abi.NoEscape", "internal/bytealg.MakeNoZero", "internal/bytealg.CountString"], unfollowed := true, recurses := true, named := ["unicode/utf8.first", "unicode/utf8.acceptRanges", "synoptic/element.rows", "synoptic/clock.lengths", "synoptic/group.kinds", "internal/strconv.uint64pow10", "math/bits.deBruijn32tab", "math/bits.deBruijn64tab", "internal/bytealg.MaxLen", "strconv.ErrSyntax", "strconv.ErrRange"], apart := false, laid := [("math/bits.deBruijn32tab", laid_math_bits_deBruijn32tab), ("math/bits.deBruijn64tab", laid_math_bits_deBruijn64tab), ("internal/strconv.uint64pow10", laid_internal_strconv_uint64pow10), ("unicode/utf8.acceptRanges", laid_unicode_utf8_acceptRanges), ("strconv.ErrRange", laid_strconv_ErrRange), ("strconv.ErrSyntax", laid_strconv_ErrSyntax), ("synoptic/clock.lengths", laid_synoptic_clock_lengths), ("synoptic/element.rows", laid_synoptic_element_rows), ("synoptic/group.kinds", laid_synoptic_group_kinds), ("unicode/utf8.first", laid_unicode_utf8_first)] }
def BulletinBackSaid : Prop := bulletinBackRow.holds Tryz.pinned (OpenSpec.ofChange bulletinBackSpec)

/-- ITS FALSE NEIGHBOUR: 'it returns false'. Refute it at one input. -/
def bulletinBackWrong : ChangeSpec := { name := "bulletinBack", fn := fun _ => fun
  | [d] => { results := [.lit (.bool false)], args := [d] }
  | _ => none }
def BulletinBackWrongFalsely : Prop := bulletinBackRow.holds Tryz.pinned (OpenSpec.ofChange bulletinBackWrong)

/-- 'synopticlaw06.BulletinDamage': WHATEVER THE INPUT: true; the input reads as it did. -/
def bulletinDamageSpec : ChangeSpec := { name := "bulletinDamage", fn := fun _ => fun
  | [d1, d2, d3] => { results := [.lit (.bool true)], args := [d1, d2, d3] }
  | _ => none }
def bulletinDamageRow : OpenClaim := { program := "ytfnlgfacadmjpaagreatdoor", sum := "fffe02ae5ed75d43257ec8d33d1972231b375a2b4f4ba4d04caecff17765db47", func := "synoptic/synopticlaw06.BulletinDamage", spec := "bulletinDamage", inPlace := ["internal/bytealg.IndexByteString", "internal/bytealg.IndexString", "internal/abi.NoEscape", "internal/bytealg.MakeNoZero", "internal/bytealg.CountString"], unfollowed := true, recurses := true, named := ["unicode/utf8.first", "unicode/utf8.acceptRanges", "synoptic/element.rows", "synoptic/clock.lengths", "synoptic/group.kinds", "internal/strconv.uint64pow10", "math/bits.deBruijn32tab", "math/bits.deBruijn64tab", "internal/bytealg.MaxLen", "strconv.ErrSyntax", "strconv.ErrRange"], apart := false, laid := [("math/bits.deBruijn32tab", laid_math_bits_deBruijn32tab), ("math/bits.deBruijn64tab", laid_math_bits_deBruijn64tab), ("internal/strconv.uint64pow10", laid_internal_strconv_uint64pow10), ("unicode/utf8.acceptRanges", laid_unicode_utf8_acceptRanges), ("strconv.ErrRange", laid_strconv_ErrRange), ("strconv.ErrSyntax", laid_strconv_ErrSyntax), ("synoptic/clock.lengths", laid_synoptic_clock_lengths), ("synoptic/element.rows", laid_synoptic_element_rows), ("synoptic/group.kinds", laid_synoptic_group_kinds), ("unicode/utf8.first", laid_unicode_utf8_first)] }
def BulletinDamageSaid : Prop := bulletinDamageRow.holds Tryz.pinned (OpenSpec.ofChange bulletinDamageSpec)

/-- ITS FALSE NEIGHBOUR: 'it returns false'. Refute it at one input. -/
def bulletinDamageWrong : ChangeSpec := { name := "bulletinDamage", fn := fun _ => fun
  | [d1, d2, d3] => { results := [.lit (.bool false)], args := [d1, d2, d3] }
  | _ => none }
def BulletinDamageWrongFalsely : Prop := bulletinDamageRow.holds Tryz.pinned (OpenSpec.ofChange bulletinDamageWrong)

/-- 'synopticlaw06.BulletinTorn': WHATEVER THE INPUT: true; the input reads as it did. -/
def bulletinTornSpec : ChangeSpec := { name := "bulletinTorn", fn := fun _ => fun
  | [d1, d2] => { results := [.lit (.bool true)], args := [d1, d2] }
  | _ => none }
def bulletinTornRow : OpenClaim := { program := "ytfnlgfacadmjpaagreatdoor", sum := "fffe02ae5ed75d43257ec8d33d1972231b375a2b4f4ba4d04caecff17765db47", func := "synoptic/synopticlaw06.BulletinTorn", spec := "bulletinTorn", inPlace := ["internal/bytealg.IndexByteString", "internal/bytealg.IndexString", "internal/abi.NoEscape", "internal/bytealg.MakeNoZero", "internal/bytealg.CountString"], unfollowed := true, recurses := true, named := ["unicode/utf8.first", "unicode/utf8.acceptRanges", "synoptic/element.rows", "synoptic/clock.lengths", "synoptic/group.kinds", "internal/strconv.uint64pow10", "math/bits.deBruijn32tab", "math/bits.deBruijn64tab", "internal/bytealg.MaxLen", "strconv.ErrSyntax", "strconv.ErrRange"], apart := false, laid := [("math/bits.deBruijn32tab", laid_math_bits_deBruijn32tab), ("math/bits.deBruijn64tab", laid_math_bits_deBruijn64tab), ("internal/strconv.uint64pow10", laid_internal_strconv_uint64pow10), ("unicode/utf8.acceptRanges", laid_unicode_utf8_acceptRanges), ("strconv.ErrRange", laid_strconv_ErrRange), ("strconv.ErrSyntax", laid_strconv_ErrSyntax), ("synoptic/clock.lengths", laid_synoptic_clock_lengths), ("synoptic/element.rows", laid_synoptic_element_rows), ("synoptic/group.kinds", laid_synoptic_group_kinds), ("unicode/utf8.first", laid_unicode_utf8_first)] }
def BulletinTornSaid : Prop := bulletinTornRow.holds Tryz.pinned (OpenSpec.ofChange bulletinTornSpec)

/-- ITS FALSE NEIGHBOUR: 'it returns false'. Refute it at one input. -/
def bulletinTornWrong : ChangeSpec := { name := "bulletinTorn", fn := fun _ => fun
  | [d1, d2] => { results := [.lit (.bool false)], args := [d1, d2] }
  | _ => none }
def BulletinTornWrongFalsely : Prop := bulletinTornRow.holds Tryz.pinned (OpenSpec.ofChange bulletinTornWrong)

/-- 'synopticlaw06.BulletinJoins': WHATEVER THE INPUT: true; the input reads as it did. -/
def bulletinJoinsSpec : ChangeSpec := { name := "bulletinJoins", fn := fun _ => fun
  | [d1, d2] => { results := [.lit (.bool true)], args := [d1, d2] }
  | _ => none }
def bulletinJoinsRow : OpenClaim := { program := "ytfnlgfacadmjpaagreatdoor", sum := "fffe02ae5ed75d43257ec8d33d1972231b375a2b4f4ba4d04caecff17765db47", func := "synoptic/synopticlaw06.BulletinJoins", spec := "bulletinJoins", inPlace := ["internal/bytealg.IndexByteString", "internal/bytealg.IndexString", "internal/bytealg.CountString", "internal/abi.NoEscape", "internal/bytealg.MakeNoZero"], unfollowed := true, recurses := true, named := ["internal/bytealg.MaxLen", "unicode/utf8.first", "unicode/utf8.acceptRanges", "synoptic/clock.lengths", "synoptic/group.kinds", "strconv.ErrSyntax", "strconv.ErrRange", "internal/strconv.uint64pow10", "math/bits.deBruijn32tab", "math/bits.deBruijn64tab", "synoptic/element.rows"], apart := false, laid := [("math/bits.deBruijn32tab", laid_math_bits_deBruijn32tab), ("math/bits.deBruijn64tab", laid_math_bits_deBruijn64tab), ("internal/strconv.uint64pow10", laid_internal_strconv_uint64pow10), ("unicode/utf8.acceptRanges", laid_unicode_utf8_acceptRanges), ("strconv.ErrRange", laid_strconv_ErrRange), ("strconv.ErrSyntax", laid_strconv_ErrSyntax), ("synoptic/clock.lengths", laid_synoptic_clock_lengths), ("synoptic/element.rows", laid_synoptic_element_rows), ("synoptic/group.kinds", laid_synoptic_group_kinds), ("unicode/utf8.first", laid_unicode_utf8_first)] }
def BulletinJoinsSaid : Prop := bulletinJoinsRow.holds Tryz.pinned (OpenSpec.ofChange bulletinJoinsSpec)

/-- ITS FALSE NEIGHBOUR: 'it returns false'. Refute it at one input. -/
def bulletinJoinsWrong : ChangeSpec := { name := "bulletinJoins", fn := fun _ => fun
  | [d1, d2] => { results := [.lit (.bool false)], args := [d1, d2] }
  | _ => none }
def BulletinJoinsWrongFalsely : Prop := bulletinJoinsRow.holds Tryz.pinned (OpenSpec.ofChange bulletinJoinsWrong)

/-- 'synopticlaw06.BulletinMarks': WHATEVER THE INPUT: true; the input reads as it did. -/
def bulletinMarksSpec : ChangeSpec := { name := "bulletinMarks", fn := fun _ => fun
  | [d1, d2, d3, d4] => { results := [.lit (.bool true)], args := [d1, d2, d3, d4] }
  | _ => none }
def bulletinMarksRow : OpenClaim := { program := "ytfnlgfacadmjpaagreatdoor", sum := "fffe02ae5ed75d43257ec8d33d1972231b375a2b4f4ba4d04caecff17765db47", func := "synoptic/synopticlaw06.BulletinMarks", spec := "bulletinMarks", inPlace := ["internal/bytealg.IndexByteString", "internal/bytealg.IndexString", "internal/abi.NoEscape", "internal/bytealg.MakeNoZero", "internal/bytealg.CountString"], unfollowed := true, recurses := true, named := ["unicode/utf8.first", "unicode/utf8.acceptRanges", "synoptic/element.rows", "synoptic/clock.lengths", "synoptic/group.kinds", "internal/strconv.uint64pow10", "math/bits.deBruijn32tab", "math/bits.deBruijn64tab", "internal/bytealg.MaxLen", "strconv.ErrSyntax", "strconv.ErrRange"], apart := false, laid := [("math/bits.deBruijn32tab", laid_math_bits_deBruijn32tab), ("math/bits.deBruijn64tab", laid_math_bits_deBruijn64tab), ("internal/strconv.uint64pow10", laid_internal_strconv_uint64pow10), ("unicode/utf8.acceptRanges", laid_unicode_utf8_acceptRanges), ("strconv.ErrRange", laid_strconv_ErrRange), ("strconv.ErrSyntax", laid_strconv_ErrSyntax), ("synoptic/clock.lengths", laid_synoptic_clock_lengths), ("synoptic/element.rows", laid_synoptic_element_rows), ("synoptic/group.kinds", laid_synoptic_group_kinds), ("unicode/utf8.first", laid_unicode_utf8_first)] }
def BulletinMarksSaid : Prop := bulletinMarksRow.holds Tryz.pinned (OpenSpec.ofChange bulletinMarksSpec)

/-- ITS FALSE NEIGHBOUR: 'it returns false'. Refute it at one input. -/
def bulletinMarksWrong : ChangeSpec := { name := "bulletinMarks", fn := fun _ => fun
  | [d1, d2, d3, d4] => { results := [.lit (.bool false)], args := [d1, d2, d3, d4] }
  | _ => none }
def BulletinMarksWrongFalsely : Prop := bulletinMarksRow.holds Tryz.pinned (OpenSpec.ofChange bulletinMarksWrong)

/- THE SECOND FORM. 'bulk': how many values and letters a reading holds, each counted each time it is reached (what is shared counts as often as it is met; a slice's spare places count too). A statement '..UptoSaid' is the law's where the arguments, and the package variables that the reading takes, are together of bulk at most 1048576: NARROWER than '..Said'. Prove '..Said' where nothing that the law and all that it calls make is longer than what came in: it says more and counts as full. Else prove '..UptoSaid'. A law counts once. -/
mutual
def uptoBulk {H : Type} : DataW H → Nat
  | .lit (.string bytes) => bytes.length + 1
  | .lit _ => 1
  | .nil => 1
  | .ptr d => uptoBulk d + 1
  | .slice elems spare => uptoBulkAll elems + uptoBulkAll spare + 1
  | .agg parts => uptoBulkAll parts + 1
  | .iface _ d => uptoBulk d + 1
  | .map entries => uptoBulkEntries entries + 1
  | .held _ => 1
def uptoBulkAll {H : Type} : List (DataW H) → Nat
  | [] => 0
  | d :: r => uptoBulk d + uptoBulkAll r
def uptoBulkEntries {H : Type} : List (Lit × DataW H) → Nat
  | [] => 0
  | x :: r => uptoBulkEntry x + uptoBulkEntries r
def uptoBulkEntry {H : Type} : Lit × DataW H → Nat
  | (.string bytes, d) => bytes.length + uptoBulk d + 1
  | (_, d) => uptoBulk d + 1
 end
def uptoSmall : (H : Type) → List (DataW H) → Bool := fun _ ds => decide (uptoBulkAll ds ≤ 1048576)
def OpenSpec.upto (s : _root_.Go.ChangeSpec) : _root_.Go.OpenSpec := { _root_.Go.OpenSpec.ofChange s with cond := some uptoSmall }

/-- 'synopticlaw06.BulletinFormats', WHERE WHAT IT READS IS OF BULK AT MOST 1048576: true; the input reads as it did. -/
def bulletinFormatsUptoRow : OpenClaim := { program := "ytfnlgfacadmjpaagreatdoor", sum := "fffe02ae5ed75d43257ec8d33d1972231b375a2b4f4ba4d04caecff17765db47", func := "synoptic/synopticlaw06.BulletinFormats", spec := "bulletinFormats", inPlace := ["internal/bytealg.IndexByteString", "internal/bytealg.IndexString", "internal/bytealg.CountString", "internal/abi.NoEscape", "internal/bytealg.MakeNoZero"], unfollowed := true, recurses := true, named := ["internal/bytealg.MaxLen", "unicode/utf8.first", "unicode/utf8.acceptRanges", "synoptic/clock.lengths", "synoptic/group.kinds", "strconv.ErrSyntax", "strconv.ErrRange", "internal/strconv.uint64pow10", "math/bits.deBruijn32tab", "math/bits.deBruijn64tab", "synoptic/element.rows"], apart := false, laid := [("math/bits.deBruijn32tab", laid_math_bits_deBruijn32tab), ("math/bits.deBruijn64tab", laid_math_bits_deBruijn64tab), ("internal/strconv.uint64pow10", laid_internal_strconv_uint64pow10), ("unicode/utf8.acceptRanges", laid_unicode_utf8_acceptRanges), ("strconv.ErrRange", laid_strconv_ErrRange), ("strconv.ErrSyntax", laid_strconv_ErrSyntax), ("synoptic/clock.lengths", laid_synoptic_clock_lengths), ("synoptic/element.rows", laid_synoptic_element_rows), ("synoptic/group.kinds", laid_synoptic_group_kinds), ("unicode/utf8.first", laid_unicode_utf8_first)], narrowed := true }
def BulletinFormatsUptoSaid : Prop := bulletinFormatsUptoRow.holds Tryz.pinned (OpenSpec.upto bulletinFormatsSpec)

/-- 'synopticlaw06.BulletinParses', WHERE WHAT IT READS IS OF BULK AT MOST 1048576: true; the input reads as it did. -/
def bulletinParsesUptoRow : OpenClaim := { program := "ytfnlgfacadmjpaagreatdoor", sum := "fffe02ae5ed75d43257ec8d33d1972231b375a2b4f4ba4d04caecff17765db47", func := "synoptic/synopticlaw06.BulletinParses", spec := "bulletinParses", inPlace := ["internal/bytealg.IndexByteString", "internal/bytealg.IndexString", "internal/bytealg.CountString", "internal/abi.NoEscape", "internal/bytealg.MakeNoZero"], unfollowed := true, recurses := true, named := ["internal/bytealg.MaxLen", "unicode/utf8.first", "unicode/utf8.acceptRanges", "synoptic/clock.lengths", "synoptic/group.kinds", "strconv.ErrSyntax", "strconv.ErrRange", "internal/strconv.uint64pow10", "math/bits.deBruijn32tab", "math/bits.deBruijn64tab", "synoptic/element.rows"], apart := false, laid := [("math/bits.deBruijn32tab", laid_math_bits_deBruijn32tab), ("math/bits.deBruijn64tab", laid_math_bits_deBruijn64tab), ("internal/strconv.uint64pow10", laid_internal_strconv_uint64pow10), ("unicode/utf8.acceptRanges", laid_unicode_utf8_acceptRanges), ("strconv.ErrRange", laid_strconv_ErrRange), ("strconv.ErrSyntax", laid_strconv_ErrSyntax), ("synoptic/clock.lengths", laid_synoptic_clock_lengths), ("synoptic/element.rows", laid_synoptic_element_rows), ("synoptic/group.kinds", laid_synoptic_group_kinds), ("unicode/utf8.first", laid_unicode_utf8_first)], narrowed := true }
def BulletinParsesUptoSaid : Prop := bulletinParsesUptoRow.holds Tryz.pinned (OpenSpec.upto bulletinParsesSpec)

/-- 'synopticlaw06.BulletinBack', WHERE WHAT IT READS IS OF BULK AT MOST 1048576: true; the input reads as it did. -/
def bulletinBackUptoRow : OpenClaim := { program := "ytfnlgfacadmjpaagreatdoor", sum := "fffe02ae5ed75d43257ec8d33d1972231b375a2b4f4ba4d04caecff17765db47", func := "synoptic/synopticlaw06.BulletinBack", spec := "bulletinBack", inPlace := ["internal/bytealg.IndexByteString", "internal/bytealg.IndexString", "internal/abi.NoEscape", "internal/bytealg.MakeNoZero", "internal/bytealg.CountString"], unfollowed := true, recurses := true, named := ["unicode/utf8.first", "unicode/utf8.acceptRanges", "synoptic/element.rows", "synoptic/clock.lengths", "synoptic/group.kinds", "internal/strconv.uint64pow10", "math/bits.deBruijn32tab", "math/bits.deBruijn64tab", "internal/bytealg.MaxLen", "strconv.ErrSyntax", "strconv.ErrRange"], apart := false, laid := [("math/bits.deBruijn32tab", laid_math_bits_deBruijn32tab), ("math/bits.deBruijn64tab", laid_math_bits_deBruijn64tab), ("internal/strconv.uint64pow10", laid_internal_strconv_uint64pow10), ("unicode/utf8.acceptRanges", laid_unicode_utf8_acceptRanges), ("strconv.ErrRange", laid_strconv_ErrRange), ("strconv.ErrSyntax", laid_strconv_ErrSyntax), ("synoptic/clock.lengths", laid_synoptic_clock_lengths), ("synoptic/element.rows", laid_synoptic_element_rows), ("synoptic/group.kinds", laid_synoptic_group_kinds), ("unicode/utf8.first", laid_unicode_utf8_first)], narrowed := true }
def BulletinBackUptoSaid : Prop := bulletinBackUptoRow.holds Tryz.pinned (OpenSpec.upto bulletinBackSpec)

/-- 'synopticlaw06.BulletinDamage', WHERE WHAT IT READS IS OF BULK AT MOST 1048576: true; the input reads as it did. -/
def bulletinDamageUptoRow : OpenClaim := { program := "ytfnlgfacadmjpaagreatdoor", sum := "fffe02ae5ed75d43257ec8d33d1972231b375a2b4f4ba4d04caecff17765db47", func := "synoptic/synopticlaw06.BulletinDamage", spec := "bulletinDamage", inPlace := ["internal/bytealg.IndexByteString", "internal/bytealg.IndexString", "internal/abi.NoEscape", "internal/bytealg.MakeNoZero", "internal/bytealg.CountString"], unfollowed := true, recurses := true, named := ["unicode/utf8.first", "unicode/utf8.acceptRanges", "synoptic/element.rows", "synoptic/clock.lengths", "synoptic/group.kinds", "internal/strconv.uint64pow10", "math/bits.deBruijn32tab", "math/bits.deBruijn64tab", "internal/bytealg.MaxLen", "strconv.ErrSyntax", "strconv.ErrRange"], apart := false, laid := [("math/bits.deBruijn32tab", laid_math_bits_deBruijn32tab), ("math/bits.deBruijn64tab", laid_math_bits_deBruijn64tab), ("internal/strconv.uint64pow10", laid_internal_strconv_uint64pow10), ("unicode/utf8.acceptRanges", laid_unicode_utf8_acceptRanges), ("strconv.ErrRange", laid_strconv_ErrRange), ("strconv.ErrSyntax", laid_strconv_ErrSyntax), ("synoptic/clock.lengths", laid_synoptic_clock_lengths), ("synoptic/element.rows", laid_synoptic_element_rows), ("synoptic/group.kinds", laid_synoptic_group_kinds), ("unicode/utf8.first", laid_unicode_utf8_first)], narrowed := true }
def BulletinDamageUptoSaid : Prop := bulletinDamageUptoRow.holds Tryz.pinned (OpenSpec.upto bulletinDamageSpec)

/-- 'synopticlaw06.BulletinTorn', WHERE WHAT IT READS IS OF BULK AT MOST 1048576: true; the input reads as it did. -/
def bulletinTornUptoRow : OpenClaim := { program := "ytfnlgfacadmjpaagreatdoor", sum := "fffe02ae5ed75d43257ec8d33d1972231b375a2b4f4ba4d04caecff17765db47", func := "synoptic/synopticlaw06.BulletinTorn", spec := "bulletinTorn", inPlace := ["internal/bytealg.IndexByteString", "internal/bytealg.IndexString", "internal/abi.NoEscape", "internal/bytealg.MakeNoZero", "internal/bytealg.CountString"], unfollowed := true, recurses := true, named := ["unicode/utf8.first", "unicode/utf8.acceptRanges", "synoptic/element.rows", "synoptic/clock.lengths", "synoptic/group.kinds", "internal/strconv.uint64pow10", "math/bits.deBruijn32tab", "math/bits.deBruijn64tab", "internal/bytealg.MaxLen", "strconv.ErrSyntax", "strconv.ErrRange"], apart := false, laid := [("math/bits.deBruijn32tab", laid_math_bits_deBruijn32tab), ("math/bits.deBruijn64tab", laid_math_bits_deBruijn64tab), ("internal/strconv.uint64pow10", laid_internal_strconv_uint64pow10), ("unicode/utf8.acceptRanges", laid_unicode_utf8_acceptRanges), ("strconv.ErrRange", laid_strconv_ErrRange), ("strconv.ErrSyntax", laid_strconv_ErrSyntax), ("synoptic/clock.lengths", laid_synoptic_clock_lengths), ("synoptic/element.rows", laid_synoptic_element_rows), ("synoptic/group.kinds", laid_synoptic_group_kinds), ("unicode/utf8.first", laid_unicode_utf8_first)], narrowed := true }
def BulletinTornUptoSaid : Prop := bulletinTornUptoRow.holds Tryz.pinned (OpenSpec.upto bulletinTornSpec)

/-- 'synopticlaw06.BulletinJoins', WHERE WHAT IT READS IS OF BULK AT MOST 1048576: true; the input reads as it did. -/
def bulletinJoinsUptoRow : OpenClaim := { program := "ytfnlgfacadmjpaagreatdoor", sum := "fffe02ae5ed75d43257ec8d33d1972231b375a2b4f4ba4d04caecff17765db47", func := "synoptic/synopticlaw06.BulletinJoins", spec := "bulletinJoins", inPlace := ["internal/bytealg.IndexByteString", "internal/bytealg.IndexString", "internal/bytealg.CountString", "internal/abi.NoEscape", "internal/bytealg.MakeNoZero"], unfollowed := true, recurses := true, named := ["internal/bytealg.MaxLen", "unicode/utf8.first", "unicode/utf8.acceptRanges", "synoptic/clock.lengths", "synoptic/group.kinds", "strconv.ErrSyntax", "strconv.ErrRange", "internal/strconv.uint64pow10", "math/bits.deBruijn32tab", "math/bits.deBruijn64tab", "synoptic/element.rows"], apart := false, laid := [("math/bits.deBruijn32tab", laid_math_bits_deBruijn32tab), ("math/bits.deBruijn64tab", laid_math_bits_deBruijn64tab), ("internal/strconv.uint64pow10", laid_internal_strconv_uint64pow10), ("unicode/utf8.acceptRanges", laid_unicode_utf8_acceptRanges), ("strconv.ErrRange", laid_strconv_ErrRange), ("strconv.ErrSyntax", laid_strconv_ErrSyntax), ("synoptic/clock.lengths", laid_synoptic_clock_lengths), ("synoptic/element.rows", laid_synoptic_element_rows), ("synoptic/group.kinds", laid_synoptic_group_kinds), ("unicode/utf8.first", laid_unicode_utf8_first)], narrowed := true }
def BulletinJoinsUptoSaid : Prop := bulletinJoinsUptoRow.holds Tryz.pinned (OpenSpec.upto bulletinJoinsSpec)

/-- 'synopticlaw06.BulletinMarks', WHERE WHAT IT READS IS OF BULK AT MOST 1048576: true; the input reads as it did. -/
def bulletinMarksUptoRow : OpenClaim := { program := "ytfnlgfacadmjpaagreatdoor", sum := "fffe02ae5ed75d43257ec8d33d1972231b375a2b4f4ba4d04caecff17765db47", func := "synoptic/synopticlaw06.BulletinMarks", spec := "bulletinMarks", inPlace := ["internal/bytealg.IndexByteString", "internal/bytealg.IndexString", "internal/abi.NoEscape", "internal/bytealg.MakeNoZero", "internal/bytealg.CountString"], unfollowed := true, recurses := true, named := ["unicode/utf8.first", "unicode/utf8.acceptRanges", "synoptic/element.rows", "synoptic/clock.lengths", "synoptic/group.kinds", "internal/strconv.uint64pow10", "math/bits.deBruijn32tab", "math/bits.deBruijn64tab", "internal/bytealg.MaxLen", "strconv.ErrSyntax", "strconv.ErrRange"], apart := false, laid := [("math/bits.deBruijn32tab", laid_math_bits_deBruijn32tab), ("math/bits.deBruijn64tab", laid_math_bits_deBruijn64tab), ("internal/strconv.uint64pow10", laid_internal_strconv_uint64pow10), ("unicode/utf8.acceptRanges", laid_unicode_utf8_acceptRanges), ("strconv.ErrRange", laid_strconv_ErrRange), ("strconv.ErrSyntax", laid_strconv_ErrSyntax), ("synoptic/clock.lengths", laid_synoptic_clock_lengths), ("synoptic/element.rows", laid_synoptic_element_rows), ("synoptic/group.kinds", laid_synoptic_group_kinds), ("unicode/utf8.first", laid_unicode_utf8_first)], narrowed := true }
def BulletinMarksUptoSaid : Prop := bulletinMarksUptoRow.holds Tryz.pinned (OpenSpec.upto bulletinMarksSpec)

end Rows
end Go.Proofs.YtfnlgfacadmjpaaGreatDoor
