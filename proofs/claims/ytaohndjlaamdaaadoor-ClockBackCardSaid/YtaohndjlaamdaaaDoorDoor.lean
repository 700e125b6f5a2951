/- What the row's listed variables give the walks, and the world for the rows' witnesses: shared by the cards of the layer. -/
import Derived.Test.YtaohndjlaamdaaaDoorCards
import Derived.Test.YtaohndjlaamdaaaDoorTie
import Derived.Test.YtaohndjlaamdaaaDoorAwake
import Derived.Test.YtaohndjlaamdaaaDoorSrc
import Derived.ProofKit
import Derived.OpenShut
import Derived.Deep.DeepHandedRow
import Derived.Lib.LaidTab
namespace Go.Proofs.YtaohndjlaamdaaaDoor
open Go.ChangeShapes Go.WideShapes Go.ChangeAt Go.RowKit

theorem own : ownKnob Tryd.prog.godebug = none := by kernel_rfl
/-- The list of every row of this layer. -/
def laidAll : List (String × DataW Unit) := [("math/bits.deBruijn32tab", Rows.laid_math_bits_deBruijn32tab), ("math/bits.deBruijn64tab", Rows.laid_math_bits_deBruijn64tab), ("internal/strconv.uint64pow10", Rows.laid_internal_strconv_uint64pow10), ("synoptic/clock.lengths", Rows.laid_synoptic_clock_lengths)]
theorem gLens : Tryd.prog.globalNamed "synoptic/clock.lengths" = some 0 := by kernel_rfl
theorem gLensType : (Tryd.prog.globals[0]?).map (·.type) = some 56 := by kernel_rfl
theorem gPowType : (Tryd.prog.globals[1]?).map (·.type) = some 89 := by kernel_rfl
theorem cellsLens : Tryd.prog.cellsOf 56 = 12 := by kernel_rfl
theorem cellsPow : Tryd.prog.cellsOf 89 = 20 := by kernel_rfl
theorem cellsInt : Tryd.prog.cellsOf 3 = 1 := by kernel_rfl
theorem cellsU64 : Tryd.prog.cellsOf 77 = 1 := by kernel_rfl
theorem lens_only : laidAll.filter (fun x => x.1 == "synoptic/clock.lengths") = [("synoptic/clock.lengths", Lib.tabData .i64 lens)] := by kernel_rfl
theorem pow_only : laidAll.filter (fun x => x.1 == "internal/strconv.uint64pow10") = [("internal/strconv.uint64pow10", Lib.tabData .u64 Lib.pow10Tab)] := by kernel_rfl
/-- WHAT THE ROWS' LIST GIVES: both tables hold their numbers. -/
theorem env_of {W : World} (h : laidMetH Tryd.prog laidAll W) : Env W := by
  have h1 := h.filter (fun x => x.1 == "synoptic/clock.lengths")
  have h2 := h.filter (fun x => x.1 == "internal/strconv.uint64pow10")
  rw [lens_only] at h1
  rw [pow_only] at h2
  have t1 := Lib.tabIs_of_head (rest := []) gLens gLensType Tryd.underlying56 Tryd.underlying3 cellsInt cellsLens h1
  exact ⟨fun i hi => t1.cell gLens i (by simpa [lens] using hi), Lib.tabIs_of_head (rest := []) pow_at gPowType Tryd.underlying89 Tryd.underlying77 cellsU64 cellsPow h2⟩

def tab32 : List Int := [0, 1, 28, 2, 29, 14, 24, 3, 30, 22, 20, 15, 25, 17, 4, 8, 31, 27, 13, 23, 21, 19, 16, 7, 26, 12, 18, 6, 11, 5, 10, 9]
def tab64 : List Int := [0, 1, 56, 2, 57, 49, 28, 3, 61, 58, 42, 50, 38, 29, 17, 4, 62, 47, 59, 36, 45, 43, 51, 22, 53, 39, 33, 30, 24, 18, 12, 5, 63, 55, 48, 27, 60, 41, 37, 16, 46, 35, 44, 21, 52, 32, 23, 11, 54, 26, 40, 15, 34, 20, 31, 10, 25, 14, 19, 9, 13, 8, 7, 6]
def setTab (k : IntKind) (zs : List Int) : Obj → Obj
  | .cells _ t frozen => .cells (zs.map (Value.int k)).toArray t frozen
  | o => o
/-- A WORLD FOR THE WITNESS: the settled one, the tables holding what their initialisers lay. -/
noncomputable def laidWorld (os : Os) : World :=
  { World.holding Tryd.prog os ⟨#[], #[], []⟩ with heap := ((((World.holding Tryd.prog os ⟨#[], #[], []⟩).heap.modify 0 (setTab .i64 lens)).modify 1 (setTab .u64 Lib.pow10Tab)).modify 3 (setTab .u8 tab32)).modify 4 (setTab .u8 tab64) }

section
variable {H : Type} {enc : TypeId × Value → H} {P : Program}
/-- Arguments read behind a call that turned nothing below the old heap's end as they read before. -/
theorem args_stay (hl : laidOutB P = true) {W W' : World} (hb : Below W.heap.size W W') :
    ∀ (ts : List TypeId) (vs : List Value) (ds : List (DataW H)) (ps : List MemPlace), (∀ t ∈ ts, P.readableRec t = true ∧ t < P.types.size) → (∀ x ∈ ps, x.block < W.heap.size) →
      DataW.TrodAll enc P W 0 (fun _ => true) true ts vs ds ps → DataW.TrodAll enc P W' 0 (fun b => decide (b < W.heap.size)) true ts vs ds ps
  | [], _, _, _, _, _, h => by
    obtain ⟨rfl, rfl, rfl⟩ := trodAll_nil h
    exact trodAll_mk0
  | t :: ts, vs, ds, ps, hok, hlt, h => by
    obtain ⟨v, vs', d, ds', p, q, rfl, rfl, rfl, h0, h1⟩ := trodAll_cons h
    have ht := hok t (by simp)
    exact trodAll_cons_mk (Below.trod hl ht.1 ht.2 h0 hb (fun x hx => hlt x (by simp [hx]))) (args_stay hl hb ts vs' ds' q (fun t' h' => hok t' (by simp [h'])) (fun x hx => hlt x (by simp [hx])) h1)
/-- A law's post: true, the arguments as they were, nothing old turned. -/
theorem law_post (hl : laidOutB P = true) {f : Func} {s : ChangeSpec} {apart : Bool} {W W' : World} {args : Array Value} {ds gs : List (DataW H)} {before : List MemPlace} {tb : TypeId}
    (hW : DataW.Whole enc P f.params.toList s.vars apart W args.toList ds gs before) (hv : s.vars = [])
    (hr : (s.fn H (ds ++ gs)).results = [.lit (.bool true)]) (ha : (s.fn H (ds ++ gs)).args = ds) (hz : (s.fn H (ds ++ gs)).vars = [])
    (ht : f.resultTypes = #[tb]) (hbool : P.underlying tb = some .bool) (hok : ∀ t ∈ f.params.toList, P.readableRec t = true ∧ t < P.types.size) (hb : Below W.heap.size W W') :
    s.post enc P f apart true false false W args (.bool true) W' := by
  have hlt : ∀ x ∈ before, x.block < W.heap.size := fun x hx => hW.lt x hx
  have hW' := hW
  obtain ⟨p, q, hA, hV, rfl, _, _⟩ := hW
  rw [hv] at hV
  obtain ⟨rfl, rfl⟩ := trodVars_none hV
  rw [List.append_nil] at hW' hlt
  refine ⟨ds, [], p, [], p, [], hW', ?_, ?_, ?_, World.keptBut_mono (fun x hx => ⟨hx, .inr (.inl hx)⟩) (hb.frame (· ∈ p)), fun h => by cases h⟩
  · rw [hr, ht]
    exact trodAll_mk1 (shut_bool hbool true)
  · rw [ha]
    exact args_stay hl hb _ _ _ _ hok hlt hA
  · rw [hz, hv]
    rfl
end
theorem listIn {H : Type} {enc : TypeId × Value → H} {W : World} {base : Nat} {v : Value} {d : DataW H} {p : List MemPlace} (hval : Value.okWide Tryd.prog W .any base 24 v)
    (h : DataW.Trod enc Tryd.prog W 0 (fun _ => true) true 24 v d p) : ListIn W v := by
  obtain ⟨a0, len, cap, rfl⟩ := okWide_slice Tryd.underlying24 hval
  obtain ⟨fuel, hf⟩ := h
  rcases open_ints Tryd.underlying24 Tryd.underlying3 cellsInt hf with ⟨hcs, _⟩ | ⟨a, len', cap', zs, hcs, _, hl, hm, hz, _, hcell, hwz⟩
  · left
    simp [Value.cells] at hcs
    obtain ⟨rfl, rfl, rfl⟩ := hcs
    rfl
  · right
    simp [Value.cells] at hcs
    obtain ⟨rfl, rfl, rfl⟩ := hcs
    unfold maxLen at hm
    simp only [if_true] at hz
    refine ⟨a, _, _, rfl, hl, hm, fun i hi => ?_⟩
    obtain ⟨bk, off, rfl, hc⟩ := ints_at hcell (by omega)
    have hci := hc i (by omega)
    refine ⟨bk, off, zs.getD i 0, rfl, World.block_lt_of_cell? W _ hci, hci, bounds_i64 (hwz _ ?_)⟩
    rw [List.getD_eq_getElem?_getD, List.getElem?_eq_getElem (by omega)]
    exact List.getElem_mem _
theorem laidOut : laidOutB Tryd.prog = true := by kernel_rfl
end Go.Proofs.YtaohndjlaamdaaaDoor
