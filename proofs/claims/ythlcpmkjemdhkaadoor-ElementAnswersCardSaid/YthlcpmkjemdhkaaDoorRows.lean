/-
  NARROWER THAN 'FOR EVERY INPUT', by the rows' own cells (each row's printed sentence says how): ElementAnswers: laid · ElementTexts: laid · ElementLetters: laid · ElementParts: laid · ElementSorted: laid.
  DERIVED. THE GIVEN ROWS OF THIS SEAT. 5 by the template 'for every input the law returns true; each argument reads behind the call as it read before'; 0 by the template 'total and deterministic' (their statements: YthlcpmkjemdhkaaDoorTotals.lean).
  GIVEN WITH THE SEED: the statements are not yours to turn. If you find one false, say at which input.
  Laid BY PROGRAM, IN A SANDBOX (cutbox-rows.mjs): the forced cells as the released guide's own fill.sh prints them over the translation 3874a58c8559ae2b… (all of the seat's roots in one cut). By AI agents, Wed Nov 11 2026. No macro, syntax, notation, axiom, sorry.
-/
import Derived.Test.YthlcpmkjemdhkaaDoorChecked
import GoSem.Claim
import GoSem.ClaimJoined
import GoSem.ClaimMapViews
import Derived.JoinedTies
import Derived.KernelRfl
namespace Go.Proofs.YthlcpmkjemdhkaaDoor
/- THE CELL 'sum', in the pinned program and in every row, IS THE sha256 OF THE DUMP (.gsa) THAT YthlcpmkjemdhkaaDoorProg.lean LOADS. Nothing in Lean hashes anything: it is a label: what it is worth is what the hold of that sum in a sandbox is worth. -/
noncomputable def Tryd.pinned : Pinned := { name := "ythlcpmkjemdhkaadoor", sum := "3874a58c8559ae2b5a1f201bb8d09d285adab150a6075db7cb7d0de4aba2ec81", checked := Tryd.checked }
namespace Rows
def none {H : Type} : Left H := { results := [], args := [] }

/- WHAT THE LISTED PACKAGE-LEVEL VARIABLES READ AS WHEN THE CALL BEGINS. Each datum BY PROGRAM (the guide's laid-datum.mjs) off the statement by which the dump's own 'gosem.cut.vars' lays the variable. In a bare row this is a premise. The card (YthlcpmkjemdhkaaDoorCards.lean) ties it to the program's text. -/
def laid_math_bits_deBruijn32tab {H : Type} : DataW H := .agg [.lit (.int .u8 0), .lit (.int .u8 1), .lit (.int .u8 28), .lit (.int .u8 2), .lit (.int .u8 29), .lit (.int .u8 14), .lit (.int .u8 24), .lit (.int .u8 3), .lit (.int .u8 30), .lit (.int .u8 22), .lit (.int .u8 20), .lit (.int .u8 15), .lit (.int .u8 25), .lit (.int .u8 17), .lit (.int .u8 4), .lit (.int .u8 8), .lit (.int .u8 31), .lit (.int .u8 27), .lit (.int .u8 13), .lit (.int .u8 23), .lit (.int .u8 21), .lit (.int .u8 19), .lit (.int .u8 16), .lit (.int .u8 7), .lit (.int .u8 26), .lit (.int .u8 12), .lit (.int .u8 18), .lit (.int .u8 6), .lit (.int .u8 11), .lit (.int .u8 5), .lit (.int .u8 10), .lit (.int .u8 9)]
def laid_math_bits_deBruijn64tab {H : Type} : DataW H := .agg [.lit (.int .u8 0), .lit (.int .u8 1), .lit (.int .u8 56), .lit (.int .u8 2), .lit (.int .u8 57), .lit (.int .u8 49), .lit (.int .u8 28), .lit (.int .u8 3), .lit (.int .u8 61), .lit (.int .u8 58), .lit (.int .u8 42), .lit (.int .u8 50), .lit (.int .u8 38), .lit (.int .u8 29), .lit (.int .u8 17), .lit (.int .u8 4), .lit (.int .u8 62), .lit (.int .u8 47), .lit (.int .u8 59), .lit (.int .u8 36), .lit (.int .u8 45), .lit (.int .u8 43), .lit (.int .u8 51), .lit (.int .u8 22), .lit (.int .u8 53), .lit (.int .u8 39), .lit (.int .u8 33), .lit (.int .u8 30), .lit (.int .u8 24), .lit (.int .u8 18), .lit (.int .u8 12), .lit (.int .u8 5), .lit (.int .u8 63), .lit (.int .u8 55), .lit (.int .u8 48), .lit (.int .u8 27), .lit (.int .u8 60), .lit (.int .u8 41), .lit (.int .u8 37), .lit (.int .u8 16), .lit (.int .u8 46), .lit (.int .u8 35), .lit (.int .u8 44), .lit (.int .u8 21), .lit (.int .u8 52), .lit (.int .u8 32), .lit (.int .u8 23), .lit (.int .u8 11), .lit (.int .u8 54), .lit (.int .u8 26), .lit (.int .u8 40), .lit (.int .u8 15), .lit (.int .u8 34), .lit (.int .u8 20), .lit (.int .u8 31), .lit (.int .u8 10), .lit (.int .u8 25), .lit (.int .u8 14), .lit (.int .u8 19), .lit (.int .u8 9), .lit (.int .u8 13), .lit (.int .u8 8), .lit (.int .u8 7), .lit (.int .u8 6)]
def laid_internal_strconv_uint64pow10 {H : Type} : DataW H := .agg [.lit (.int .u64 1), .lit (.int .u64 10), .lit (.int .u64 100), .lit (.int .u64 1000), .lit (.int .u64 10000), .lit (.int .u64 100000), .lit (.int .u64 1000000), .lit (.int .u64 10000000), .lit (.int .u64 100000000), .lit (.int .u64 1000000000), .lit (.int .u64 10000000000), .lit (.int .u64 100000000000), .lit (.int .u64 1000000000000), .lit (.int .u64 10000000000000), .lit (.int .u64 100000000000000), .lit (.int .u64 1000000000000000), .lit (.int .u64 10000000000000000), .lit (.int .u64 100000000000000000), .lit (.int .u64 1000000000000000000), .lit (.int .u64 10000000000000000000)]
def laid_strconv_ErrRange {H : Type} : DataW H := .iface "*errors.errorString" (.ptr (.agg [.lit (.string [118, 97, 108, 117, 101, 32, 111, 117, 116, 32, 111, 102, 32, 114, 97, 110, 103, 101])]))
def laid_strconv_ErrSyntax {H : Type} : DataW H := .iface "*errors.errorString" (.ptr (.agg [.lit (.string [105, 110, 118, 97, 108, 105, 100, 32, 115, 121, 110, 116, 97, 120])]))
def laid_synoptic_element_rows {H : Type} : DataW H := .agg [.agg [.lit (.int .i64 8000), .lit (.int .i64 11000), .lit (.int .i64 5)], .agg [.lit (.int .i64 1800), .lit (.int .i64 3300), .lit (.int .i64 4)], .agg [.lit (.int .i64 1800), .lit (.int .i64 3300), .lit (.int .i64 4)], .agg [.lit (.int .i64 (-1000)), .lit (.int .i64 1000), .lit (.int .i64 4)], .agg [.lit (.int .i64 (-1000)), .lit (.int .i64 1000), .lit (.int .i64 4)], .agg [.lit (.int .i64 900), .lit (.int .i64 1700), .lit (.int .i64 4)], .agg [.lit (.int .i64 2000), .lit (.int .i64 3200), .lit (.int .i64 4)], .agg [.lit (.int .i64 2400), .lit (.int .i64 3400), .lit (.int .i64 4)], .agg [.lit (.int .i64 2000), .lit (.int .i64 3000), .lit (.int .i64 4)], .agg [.lit (.int .i64 4400), .lit (.int .i64 6200), .lit (.int .i64 4)], .agg [.lit (.int .i64 2000), .lit (.int .i64 2900), .lit (.int .i64 4)]]

/-- 'synopticlaw04.ElementAnswers': WHATEVER THE INPUT: true; the input reads as it did. -/
def elementAnswersSpec : ChangeSpec := { name := "elementAnswers", fn := fun _ => fun
  | [d1, d2, d3, d4, d5] => { results := [.lit (.bool true)], args := [d1, d2, d3, d4, d5] }
  | _ => none }
def elementAnswersRow : OpenClaim := { program := "ythlcpmkjemdhkaadoor", sum := "3874a58c8559ae2b5a1f201bb8d09d285adab150a6075db7cb7d0de4aba2ec81", func := "synoptic/synopticlaw04.ElementAnswers", spec := "elementAnswers", inPlace := ["internal/abi.NoEscape", "internal/bytealg.MakeNoZero"], unfollowed := true, recurses := true, named := ["synoptic/element.rows", "internal/strconv.uint64pow10", "math/bits.deBruijn32tab", "math/bits.deBruijn64tab", "strconv.ErrSyntax", "strconv.ErrRange"], apart := false, laid := [("math/bits.deBruijn32tab", laid_math_bits_deBruijn32tab), ("math/bits.deBruijn64tab", laid_math_bits_deBruijn64tab), ("internal/strconv.uint64pow10", laid_internal_strconv_uint64pow10), ("strconv.ErrRange", laid_strconv_ErrRange), ("strconv.ErrSyntax", laid_strconv_ErrSyntax), ("synoptic/element.rows", laid_synoptic_element_rows)] }
def ElementAnswersSaid : Prop := elementAnswersRow.holds Tryd.pinned (OpenSpec.ofChange elementAnswersSpec)

/-- ITS FALSE NEIGHBOUR: 'it returns false'. Refute it at one input. -/
def elementAnswersWrong : ChangeSpec := { name := "elementAnswers", fn := fun _ => fun
  | [d1, d2, d3, d4, d5] => { results := [.lit (.bool false)], args := [d1, d2, d3, d4, d5] }
  | _ => none }
def ElementAnswersWrongFalsely : Prop := elementAnswersRow.holds Tryd.pinned (OpenSpec.ofChange elementAnswersWrong)

/-- 'synopticlaw04.ElementTexts': WHATEVER THE INPUT: true; the input reads as it did. -/
def elementTextsSpec : ChangeSpec := { name := "elementTexts", fn := fun _ => fun
  | [d1, d2, d3, d4, d5] => { results := [.lit (.bool true)], args := [d1, d2, d3, d4, d5] }
  | _ => none }
def elementTextsRow : OpenClaim := { program := "ythlcpmkjemdhkaadoor", sum := "3874a58c8559ae2b5a1f201bb8d09d285adab150a6075db7cb7d0de4aba2ec81", func := "synoptic/synopticlaw04.ElementTexts", spec := "elementTexts", inPlace := ["internal/abi.NoEscape", "internal/bytealg.MakeNoZero"], named := ["synoptic/element.rows", "internal/strconv.uint64pow10", "math/bits.deBruijn32tab", "math/bits.deBruijn64tab", "strconv.ErrSyntax", "strconv.ErrRange"], apart := false, laid := [("math/bits.deBruijn32tab", laid_math_bits_deBruijn32tab), ("math/bits.deBruijn64tab", laid_math_bits_deBruijn64tab), ("internal/strconv.uint64pow10", laid_internal_strconv_uint64pow10), ("strconv.ErrRange", laid_strconv_ErrRange), ("strconv.ErrSyntax", laid_strconv_ErrSyntax), ("synoptic/element.rows", laid_synoptic_element_rows)] }
def ElementTextsSaid : Prop := elementTextsRow.holds Tryd.pinned (OpenSpec.ofChange elementTextsSpec)

/-- ITS FALSE NEIGHBOUR: 'it returns false'. Refute it at one input. -/
def elementTextsWrong : ChangeSpec := { name := "elementTexts", fn := fun _ => fun
  | [d1, d2, d3, d4, d5] => { results := [.lit (.bool false)], args := [d1, d2, d3, d4, d5] }
  | _ => none }
def ElementTextsWrongFalsely : Prop := elementTextsRow.holds Tryd.pinned (OpenSpec.ofChange elementTextsWrong)

/-- 'synopticlaw04.ElementLetters': WHATEVER THE INPUT: true; the input reads as it did. -/
def elementLettersSpec : ChangeSpec := { name := "elementLetters", fn := fun _ => fun
  | [d] => { results := [.lit (.bool true)], args := [d] }
  | _ => none }
def elementLettersRow : OpenClaim := { program := "ythlcpmkjemdhkaadoor", sum := "3874a58c8559ae2b5a1f201bb8d09d285adab150a6075db7cb7d0de4aba2ec81", func := "synoptic/synopticlaw04.ElementLetters", spec := "elementLetters", inPlace := ["internal/abi.NoEscape", "internal/bytealg.MakeNoZero"], named := ["synoptic/element.rows", "internal/strconv.uint64pow10", "math/bits.deBruijn32tab", "math/bits.deBruijn64tab", "strconv.ErrSyntax", "strconv.ErrRange"], apart := false, laid := [("math/bits.deBruijn32tab", laid_math_bits_deBruijn32tab), ("math/bits.deBruijn64tab", laid_math_bits_deBruijn64tab), ("internal/strconv.uint64pow10", laid_internal_strconv_uint64pow10), ("strconv.ErrRange", laid_strconv_ErrRange), ("strconv.ErrSyntax", laid_strconv_ErrSyntax), ("synoptic/element.rows", laid_synoptic_element_rows)] }
def ElementLettersSaid : Prop := elementLettersRow.holds Tryd.pinned (OpenSpec.ofChange elementLettersSpec)

/-- ITS FALSE NEIGHBOUR: 'it returns false'. Refute it at one input. -/
def elementLettersWrong : ChangeSpec := { name := "elementLetters", fn := fun _ => fun
  | [d] => { results := [.lit (.bool false)], args := [d] }
  | _ => none }
def ElementLettersWrongFalsely : Prop := elementLettersRow.holds Tryd.pinned (OpenSpec.ofChange elementLettersWrong)

/-- 'synopticlaw04.ElementParts': WHATEVER THE INPUT: true; the input reads as it did. -/
def elementPartsSpec : ChangeSpec := { name := "elementParts", fn := fun _ => fun
  | [d1, d2] => { results := [.lit (.bool true)], args := [d1, d2] }
  | _ => none }
def elementPartsRow : OpenClaim := { program := "ythlcpmkjemdhkaadoor", sum := "3874a58c8559ae2b5a1f201bb8d09d285adab150a6075db7cb7d0de4aba2ec81", func := "synoptic/synopticlaw04.ElementParts", spec := "elementParts", inPlace := ["internal/abi.NoEscape", "internal/bytealg.MakeNoZero"], unfollowed := true, recurses := true, named := ["synoptic/element.rows", "internal/strconv.uint64pow10", "math/bits.deBruijn32tab", "math/bits.deBruijn64tab", "strconv.ErrSyntax", "strconv.ErrRange"], apart := false, laid := [("math/bits.deBruijn32tab", laid_math_bits_deBruijn32tab), ("math/bits.deBruijn64tab", laid_math_bits_deBruijn64tab), ("internal/strconv.uint64pow10", laid_internal_strconv_uint64pow10), ("strconv.ErrRange", laid_strconv_ErrRange), ("strconv.ErrSyntax", laid_strconv_ErrSyntax), ("synoptic/element.rows", laid_synoptic_element_rows)] }
def ElementPartsSaid : Prop := elementPartsRow.holds Tryd.pinned (OpenSpec.ofChange elementPartsSpec)

/-- ITS FALSE NEIGHBOUR: 'it returns false'. Refute it at one input. -/
def elementPartsWrong : ChangeSpec := { name := "elementParts", fn := fun _ => fun
  | [d1, d2] => { results := [.lit (.bool false)], args := [d1, d2] }
  | _ => none }
def ElementPartsWrongFalsely : Prop := elementPartsRow.holds Tryd.pinned (OpenSpec.ofChange elementPartsWrong)

/-- 'synopticlaw04.ElementSorted': WHATEVER THE INPUT: true; the input reads as it did. -/
def elementSortedSpec : ChangeSpec := { name := "elementSorted", fn := fun _ => fun
  | [d] => { results := [.lit (.bool true)], args := [d] }
  | _ => none }
def elementSortedRow : OpenClaim := { program := "ythlcpmkjemdhkaadoor", sum := "3874a58c8559ae2b5a1f201bb8d09d285adab150a6075db7cb7d0de4aba2ec81", func := "synoptic/synopticlaw04.ElementSorted", spec := "elementSorted", inPlace := ["internal/abi.NoEscape", "internal/bytealg.MakeNoZero"], unfollowed := true, recurses := true, named := ["synoptic/element.rows", "internal/strconv.uint64pow10", "math/bits.deBruijn32tab", "math/bits.deBruijn64tab", "strconv.ErrSyntax", "strconv.ErrRange"], apart := false, laid := [("math/bits.deBruijn32tab", laid_math_bits_deBruijn32tab), ("math/bits.deBruijn64tab", laid_math_bits_deBruijn64tab), ("internal/strconv.uint64pow10", laid_internal_strconv_uint64pow10), ("strconv.ErrRange", laid_strconv_ErrRange), ("strconv.ErrSyntax", laid_strconv_ErrSyntax), ("synoptic/element.rows", laid_synoptic_element_rows)] }
def ElementSortedSaid : Prop := elementSortedRow.holds Tryd.pinned (OpenSpec.ofChange elementSortedSpec)

/-- ITS FALSE NEIGHBOUR: 'it returns false'. Refute it at one input. -/
def elementSortedWrong : ChangeSpec := { name := "elementSorted", fn := fun _ => fun
  | [d] => { results := [.lit (.bool false)], args := [d] }
  | _ => none }
def ElementSortedWrongFalsely : Prop := elementSortedRow.holds Tryd.pinned (OpenSpec.ofChange elementSortedWrong)

/- THE SECOND FORM. 'bulk': how many values and letters a reading holds, each counted each time it is reached (what is shared counts as often as it is met; a slice's spare places count too). A statement '..UptoSaid' is the law's where the arguments, and the package variables that the reading takes, are together of bulk at most 1048576: NARROWER than '..Said'. Prove '..Said' where nothing that the law and all that it calls make is longer than what came in: it says more and counts as full. Else prove '..UptoSaid'. A law counts once. -/
mutual
def uptoBulk {H : Type} : DataW H → Nat
  | .lit (.string bytes) => bytes.length + 1
  | .lit _ => 1
  | .nil => 1
  | .ptr d => uptoBulk d + 1
  | .slice elems spare => uptoBulkAll elems + uptoBulkAll spare + 1
  | .agg parts => uptoBulkAll parts + 1
  | .iface _ d => uptoBulk d + 1
  | .map entries => uptoBulkEntries entries + 1
  | .held _ => 1
def uptoBulkAll {H : Type} : List (DataW H) → Nat
  | [] => 0
  | d :: r => uptoBulk d + uptoBulkAll r
def uptoBulkEntries {H : Type} : List (Lit × DataW H) → Nat
  | [] => 0
  | x :: r => uptoBulkEntry x + uptoBulkEntries r
def uptoBulkEntry {H : Type} : Lit × DataW H → Nat
  | (.string bytes, d) => bytes.length + uptoBulk d + 1
  | (_, d) => uptoBulk d + 1
 end
def uptoSmall : (H : Type) → List (DataW H) → Bool := fun _ ds => decide (uptoBulkAll ds ≤ 1048576)
def OpenSpec.upto (s : _root_.Go.ChangeSpec) : _root_.Go.OpenSpec := { _root_.Go.OpenSpec.ofChange s with cond := some uptoSmall }

/-- 'synopticlaw04.ElementAnswers', WHERE WHAT IT READS IS OF BULK AT MOST 1048576: true; the input reads as it did. -/
def elementAnswersUptoRow : OpenClaim := { program := "ythlcpmkjemdhkaadoor", sum := "3874a58c8559ae2b5a1f201bb8d09d285adab150a6075db7cb7d0de4aba2ec81", func := "synoptic/synopticlaw04.ElementAnswers", spec := "elementAnswers", inPlace := ["internal/abi.NoEscape", "internal/bytealg.MakeNoZero"], unfollowed := true, recurses := true, named := ["synoptic/element.rows", "internal/strconv.uint64pow10", "math/bits.deBruijn32tab", "math/bits.deBruijn64tab", "strconv.ErrSyntax", "strconv.ErrRange"], apart := false, laid := [("math/bits.deBruijn32tab", laid_math_bits_deBruijn32tab), ("math/bits.deBruijn64tab", laid_math_bits_deBruijn64tab), ("internal/strconv.uint64pow10", laid_internal_strconv_uint64pow10), ("strconv.ErrRange", laid_strconv_ErrRange), ("strconv.ErrSyntax", laid_strconv_ErrSyntax), ("synoptic/element.rows", laid_synoptic_element_rows)], narrowed := true }
def ElementAnswersUptoSaid : Prop := elementAnswersUptoRow.holds Tryd.pinned (OpenSpec.upto elementAnswersSpec)

/-- 'synopticlaw04.ElementTexts', WHERE WHAT IT READS IS OF BULK AT MOST 1048576: true; the input reads as it did. -/
def elementTextsUptoRow : OpenClaim := { program := "ythlcpmkjemdhkaadoor", sum := "3874a58c8559ae2b5a1f201bb8d09d285adab150a6075db7cb7d0de4aba2ec81", func := "synoptic/synopticlaw04.ElementTexts", spec := "elementTexts", inPlace := ["internal/abi.NoEscape", "internal/bytealg.MakeNoZero"], named := ["synoptic/element.rows", "internal/strconv.uint64pow10", "math/bits.deBruijn32tab", "math/bits.deBruijn64tab", "strconv.ErrSyntax", "strconv.ErrRange"], apart := false, laid := [("math/bits.deBruijn32tab", laid_math_bits_deBruijn32tab), ("math/bits.deBruijn64tab", laid_math_bits_deBruijn64tab), ("internal/strconv.uint64pow10", laid_internal_strconv_uint64pow10), ("strconv.ErrRange", laid_strconv_ErrRange), ("strconv.ErrSyntax", laid_strconv_ErrSyntax), ("synoptic/element.rows", laid_synoptic_element_rows)], narrowed := true }
def ElementTextsUptoSaid : Prop := elementTextsUptoRow.holds Tryd.pinned (OpenSpec.upto elementTextsSpec)

/-- 'synopticlaw04.ElementLetters', WHERE WHAT IT READS IS OF BULK AT MOST 1048576: true; the input reads as it did. -/
def elementLettersUptoRow : OpenClaim := { program := "ythlcpmkjemdhkaadoor", sum := "3874a58c8559ae2b5a1f201bb8d09d285adab150a6075db7cb7d0de4aba2ec81", func := "synoptic/synopticlaw04.ElementLetters", spec := "elementLetters", inPlace := ["internal/abi.NoEscape", "internal/bytealg.MakeNoZero"], named := ["synoptic/element.rows", "internal/strconv.uint64pow10", "math/bits.deBruijn32tab", "math/bits.deBruijn64tab", "strconv.ErrSyntax", "strconv.ErrRange"], apart := false, laid := [("math/bits.deBruijn32tab", laid_math_bits_deBruijn32tab), ("math/bits.deBruijn64tab", laid_math_bits_deBruijn64tab), ("internal/strconv.uint64pow10", laid_internal_strconv_uint64pow10), ("strconv.ErrRange", laid_strconv_ErrRange), ("strconv.ErrSyntax", laid_strconv_ErrSyntax), ("synoptic/element.rows", laid_synoptic_element_rows)], narrowed := true }
def ElementLettersUptoSaid : Prop := elementLettersUptoRow.holds Tryd.pinned (OpenSpec.upto elementLettersSpec)

/-- 'synopticlaw04.ElementParts', WHERE WHAT IT READS IS OF BULK AT MOST 1048576: true; the input reads as it did. -/
def elementPartsUptoRow : OpenClaim := { program := "ythlcpmkjemdhkaadoor", sum := "3874a58c8559ae2b5a1f201bb8d09d285adab150a6075db7cb7d0de4aba2ec81", func := "synoptic/synopticlaw04.ElementParts", spec := "elementParts", inPlace := ["internal/abi.NoEscape", "internal/bytealg.MakeNoZero"], unfollowed := true, recurses := true, named := ["synoptic/element.rows", "internal/strconv.uint64pow10", "math/bits.deBruijn32tab", "math/bits.deBruijn64tab", "strconv.ErrSyntax", "strconv.ErrRange"], apart := false, laid := [("math/bits.deBruijn32tab", laid_math_bits_deBruijn32tab), ("math/bits.deBruijn64tab", laid_math_bits_deBruijn64tab), ("internal/strconv.uint64pow10", laid_internal_strconv_uint64pow10), ("strconv.ErrRange", laid_strconv_ErrRange), ("strconv.ErrSyntax", laid_strconv_ErrSyntax), ("synoptic/element.rows", laid_synoptic_element_rows)], narrowed := true }
def ElementPartsUptoSaid : Prop := elementPartsUptoRow.holds Tryd.pinned (OpenSpec.upto elementPartsSpec)

/-- 'synopticlaw04.ElementSorted', WHERE WHAT IT READS IS OF BULK AT MOST 1048576: true; the input reads as it did. -/
def elementSortedUptoRow : OpenClaim := { program := "ythlcpmkjemdhkaadoor", sum := "3874a58c8559ae2b5a1f201bb8d09d285adab150a6075db7cb7d0de4aba2ec81", func := "synoptic/synopticlaw04.ElementSorted", spec := "elementSorted", inPlace := ["internal/abi.NoEscape", "internal/bytealg.MakeNoZero"], unfollowed := true, recurses := true, named := ["synoptic/element.rows", "internal/strconv.uint64pow10", "math/bits.deBruijn32tab", "math/bits.deBruijn64tab", "strconv.ErrSyntax", "strconv.ErrRange"], apart := false, laid := [("math/bits.deBruijn32tab", laid_math_bits_deBruijn32tab), ("math/bits.deBruijn64tab", laid_math_bits_deBruijn64tab), ("internal/strconv.uint64pow10", laid_internal_strconv_uint64pow10), ("strconv.ErrRange", laid_strconv_ErrRange), ("strconv.ErrSyntax", laid_strconv_ErrSyntax), ("synoptic/element.rows", laid_synoptic_element_rows)], narrowed := true }
def ElementSortedUptoSaid : Prop := elementSortedUptoRow.holds Tryd.pinned (OpenSpec.upto elementSortedSpec)

end Rows
end Go.Proofs.YthlcpmkjemdhkaaDoor
