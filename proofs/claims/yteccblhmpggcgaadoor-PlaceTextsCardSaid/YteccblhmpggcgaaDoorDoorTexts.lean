/- What PlaceTexts' listed variables give the walk, and the world for its row's witness. -/
import Derived.Test.YteccblhmpggcgaaDoorDoor
namespace Go.Proofs.YteccblhmpggcgaaDoor
open Go.ChangeShapes Go.WideShapes Go.ChangeAt Go.RowKit

/-- The list of PlaceTexts' row. -/
noncomputable def laidAllT : List (String × DataW Unit) := [("math/bits.deBruijn32tab", Rows.laid_math_bits_deBruijn32tab), ("math/bits.deBruijn64tab", Rows.laid_math_bits_deBruijn64tab), ("internal/strconv.uint64pow10", Rows.laid_internal_strconv_uint64pow10), ("unicode/utf8.acceptRanges", Rows.laid_unicode_utf8_acceptRanges), ("unicode/utf8.first", Rows.laid_unicode_utf8_first)]
theorem pow_onlyT : laidAllT.filter (fun x => x.1 == "internal/strconv.uint64pow10") = [("internal/strconv.uint64pow10", Lib.tabData .u64 Lib.pow10Tab)] := by kernel_rfl
theorem env_ofT {W : World} (h : laidMetH Tryd.prog laidAllT W) : Env W := by
  have h2 := h.filter (fun x => x.1 == "internal/strconv.uint64pow10")
  rw [pow_onlyT] at h2
  exact Lib.tabIs_of_head (rest := []) pow_at gPowType Tryd.underlying122 Tryd.underlying101 cellsU64 cellsPow h2
def tabRanges : List Int := [128, 191, 160, 191, 128, 159, 144, 191, 128, 143, 0, 0, 0, 0, 0, 0, 0, 0, 0, 0, 0, 0, 0, 0, 0, 0, 0, 0, 0, 0, 0, 0]
/-- A WORLD FOR THE WITNESS: the settled one, the tables holding what their initialisers lay. -/
noncomputable def laidWorldT (os : Os) : World :=
  { laidWorld os with heap := ((laidWorld os).heap.modify 1 (setTab .u8 tabRanges)).modify 0 (setTab .u8 (Go.Pinned.utf8FirstZ.map Int.ofNat)) }
end Go.Proofs.YteccblhmpggcgaaDoor
