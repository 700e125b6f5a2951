/- What the rows' listed variables give the walks; the world for the rows' witnesses; how a law's arguments are opened and its post is met. An argument that is a bulletin, opened. -/
import Derived.Test.YtfnlgfacadmjpaaGreatDoorCards
import Derived.Test.YtfnlgfacadmjpaaGreatDoorTie
import Derived.Test.YtfnlgfacadmjpaaGreatDoorBAk
import Derived.Test.YtfnlgfacadmjpaaGreatDoorSrc
import Derived.ShapedOpen
import GoSem.PinnedTables
import Derived.ProofKit
import Derived.OpenShut
import Derived.Deep.Strs
import Derived.Deep.DeepHandedRow
import Derived.Lib.LaidTab
import Derived.Stop.LaidErr
import Derived.Test.YtfnlgfacadmjpaaGreatDoorBFt
import Derived.Deep.SlicePairs
namespace Go.Proofs.YtfnlgfacadmjpaaGreatDoor
open Go.ChangeShapes Go.WideShapes Go.ChangeAt Go.RowKit

theorem own : ownKnob Tryz.prog.godebug = none := by kernel_rfl
/-- The list of every row of this layer. -/
def laidAll : List (String × DataW Unit) := [("math/bits.deBruijn32tab", Rows.laid_math_bits_deBruijn32tab), ("math/bits.deBruijn64tab", Rows.laid_math_bits_deBruijn64tab), ("internal/strconv.uint64pow10", Rows.laid_internal_strconv_uint64pow10), ("unicode/utf8.acceptRanges", Rows.laid_unicode_utf8_acceptRanges), ("strconv.ErrRange", Rows.laid_strconv_ErrRange), ("strconv.ErrSyntax", Rows.laid_strconv_ErrSyntax), ("synoptic/clock.lengths", Rows.laid_synoptic_clock_lengths), ("synoptic/element.rows", Rows.laid_synoptic_element_rows), ("synoptic/group.kinds", Rows.laid_synoptic_group_kinds), ("unicode/utf8.first", Rows.laid_unicode_utf8_first)]
theorem gRows : Tryz.prog.globalNamed "synoptic/element.rows" = some 1 := by kernel_rfl
theorem gLens : Tryz.prog.globalNamed "synoptic/clock.lengths" = some 2 := by kernel_rfl
theorem gLensType : (Tryz.prog.globals[2]?).map (·.type) = some 170 := by kernel_rfl
theorem cellsLens : Tryz.prog.cellsOf 170 = 12 := by kernel_rfl
theorem lens_only : laidAll.filter (fun x => x.1 == "synoptic/clock.lengths") = [("synoptic/clock.lengths", Lib.tabData .i64 Ck.lens)] := by kernel_rfl
theorem gKinds : Tryz.prog.globalNamed "synoptic/group.kinds" = some 0 := by kernel_rfl
theorem gKindsType : (Tryz.prog.globals[0]?).map (·.type) = some 103 := by kernel_rfl
theorem cellsStr : Tryz.prog.cellsOf 9 = 1 := by kernel_rfl
theorem kinds_only : laidAll.filter (fun x => x.1 == "synoptic/group.kinds") = [("synoptic/group.kinds", Rows.laid_synoptic_group_kinds)] := by kernel_rfl
theorem gSyn : Tryz.prog.globalNamed "strconv.ErrSyntax" = some 7 := by kernel_rfl
theorem gRng : Tryz.prog.globalNamed "strconv.ErrRange" = some 8 := by kernel_rfl
theorem gRowsType : (Tryz.prog.globals[1]?).map (·.type) = some 163 := by kernel_rfl
theorem gSynType : (Tryz.prog.globals[7]?).map (·.type) = some 132 := by kernel_rfl
theorem gRngType : (Tryz.prog.globals[8]?).map (·.type) = some 132 := by kernel_rfl
theorem gPowType : (Tryz.prog.globals[6]?).map (·.type) = some 211 := by kernel_rfl
theorem cellsPow : Tryz.prog.cellsOf 211 = 20 := by kernel_rfl
theorem cellsInt : Tryz.prog.cellsOf 3 = 1 := by kernel_rfl
theorem cellsU64 : Tryz.prog.cellsOf 196 = 1 := by kernel_rfl
theorem cellsRow : Tryz.prog.cellsOf 162 = 3 := by kernel_rfl
theorem rows_only : laidAll.filter (fun x => x.1 == "synoptic/element.rows") = [("synoptic/element.rows", Rows.laid_synoptic_element_rows)] := by kernel_rfl
theorem syn_only : laidAll.filter (fun x => x.1 == "strconv.ErrSyntax") = [("strconv.ErrSyntax", Rows.laid_strconv_ErrSyntax)] := by kernel_rfl
theorem rng_only : laidAll.filter (fun x => x.1 == "strconv.ErrRange") = [("strconv.ErrRange", Rows.laid_strconv_ErrRange)] := by kernel_rfl
theorem pow_only : laidAll.filter (fun x => x.1 == "internal/strconv.uint64pow10") = [("internal/strconv.uint64pow10", Lib.tabData .u64 Lib.pow10Tab)] := by kernel_rfl
theorem row_data : ∀ k : Fin 11, ∀ a b c : Int, (DataW.agg [.lit (.int .i64 a), .lit (.int .i64 b), .lit (.int .i64 c)] : DataW Unit) = (match (Rows.laid_synoptic_element_rows : DataW Unit) with | .agg l => l.getD k .nil | _ => .nil) → a = El.Elt.leas.getD k 0 ∧ b = El.Elt.mosts.getD k 0 ∧ c = (El.Elt.digss.getD k 0 : Nat) := by
  intro ⟨k, hk⟩ a b c h
  rcases (by omega : k = 0 ∨ k = 1 ∨ k = 2 ∨ k = 3 ∨ k = 4 ∨ k = 5 ∨ k = 6 ∨ k = 7 ∨ k = 8 ∨ k = 9 ∨ k = 10) with rfl | rfl | rfl | rfl | rfl | rfl | rfl | rfl | rfl | rfl | rfl <;>
    (simp [Rows.laid_synoptic_element_rows] at h; obtain ⟨rfl, rfl, rfl⟩ := h; exact ⟨rfl, rfl, rfl⟩)
theorem cell_one {cs : List Value} {off j : Nat} {z : Int} (h : (((cs.drop off).take 3).drop j).take 1 = [.int .i64 z]) : cs[off + j]? = some (.int .i64 z) := by
  have h0 := congrArg (fun l => l[0]?) h
  simp only [List.getElem?_take, List.getElem?_drop] at h0
  by_cases hj : j < 3
  · simpa [hj] using h0
  · simp [hj] at h0
set_option maxRecDepth 10000 in
theorem tab_of {W : World} (h : laidMet Tryz.prog [("synoptic/element.rows", Rows.laid_synoptic_element_rows)] W) : El.Tab W := by
  obtain ⟨ps, ⟨g', t', cs, fuel, p, q, hg', ht', hvar, hd, _, _⟩, _⟩ := h
  obtain rfl := Option.some.inj (gRows.symm.trans hg')
  obtain rfl := Option.some.inj (gRowsType.symm.trans ht')
  obtain ⟨xs, m, _, hx, hl, hxl, hat⟩ := DataW.trod_array Tryz.underlying163 hd
  have hx1 : Rows.laid_synoptic_element_rows = .agg (xs.map (·.1)) := congrArg Prod.fst hx
  intro k hk
  have hk' := hat k hk
  rw [cellsRow, List.getElem?_eq_getElem (by omega)] at hk'
  obtain ⟨y0, y1, y2, n, e, _, h0, h1, h2⟩ := Go.Deep.trod_struct3 Tryz.underlying162 hk'
  obtain ⟨z0, c0, rfl, _⟩ := DataW.trod_int Tryz.underlying3 h0
  obtain ⟨z1, c1, rfl, _⟩ := DataW.trod_int Tryz.underlying3 h1
  obtain ⟨z2, c2, rfl, _⟩ := DataW.trod_int Tryz.underlying3 h2
  have hr := row_data ⟨k, hk⟩ z0 z1 z2 (by
    rw [hx1]
    show _ = (xs.map (·.1)).getD k .nil
    rw [List.getD_eq_getElem?_getD, List.getElem?_map, List.getElem?_eq_getElem (by omega), Option.map_some, Option.getD_some, e])
  simp only at hr
  obtain ⟨r0, r1, r2⟩ := hr
  rw [← r0, ← r1, ← r2]
  have key : ∀ i, W.cell? ⟨1, i, none⟩ = cs.toList[i]? := fun i => by
    have := World.var?_cell gRows hvar i
    rw [Array.getElem?_toList]
    exact this
  rw [key, key, key]
  have k0 : (((cs.toList.drop (k * 3)).take 3).drop 0).take 1 = [.int .i64 z0] := by rw [← cellsInt]; exact c0
  have k1 : (((cs.toList.drop (k * 3)).take 3).drop 1).take 1 = [.int .i64 z1] := by rw [← cellsInt]; exact c1
  have k2 : (((cs.toList.drop (k * 3)).take 3).drop 2).take 1 = [.int .i64 z2] := by rw [← cellsInt]; exact c2
  exact ⟨cell_one (j := 0) k0, cell_one (j := 1) k1, cell_one (j := 2) k2⟩
theorem star : "*" ++ "errors.errorString" = "*errors.errorString" := by decide
theorem rowErr (u : TypeId) (h : Tryz.prog.typeName? 3 u = some "*errors.errorString") : u = 230 :=
  typeName_ptr_named (nm := "errors.errorString") (by rw [star]; kernel_rfl) (by kernel_rfl) (by decide) u (by rw [star]; exact h)
theorem kind_data : ∀ k : Fin 3, ∀ s : List UInt8, (DataW.lit (.string s) : DataW Unit) = (match (Rows.laid_synoptic_group_kinds : DataW Unit) with | .agg l => l.getD k .nil | _ => .nil) → s = kws.getD k [] := by
  intro ⟨k, hk⟩ s h
  rcases (by omega : k = 0 ∨ k = 1 ∨ k = 2) with rfl | rfl | rfl <;>
    (simp [Rows.laid_synoptic_group_kinds] at h; subst h; rfl)
theorem kinds_of {W : World} (h : laidMet Tryz.prog [("synoptic/group.kinds", Rows.laid_synoptic_group_kinds)] W) : ∀ i : Nat, i < 3 → W.cell? ⟨0, i, none⟩ = some (.string (S (kws.getD i []))) := by
  obtain ⟨ps, ⟨g', t', cs, fuel, p, q, hg', ht', hvar, hd, _, _⟩, _⟩ := h
  obtain rfl := Option.some.inj (gKinds.symm.trans hg')
  obtain rfl := Option.some.inj (gKindsType.symm.trans ht')
  obtain ⟨xs, m, _, hx, hl, hxl, hat⟩ := DataW.trod_array Tryz.underlying103 hd
  have hx1 : Rows.laid_synoptic_group_kinds = .agg (xs.map (·.1)) := congrArg Prod.fst hx
  intro k hk
  have hk' := hat k hk
  rw [cellsStr, Nat.mul_one, List.getElem?_eq_getElem (by omega)] at hk'
  obtain ⟨s, hc, hs, _⟩ := DataW.trod_string Tryz.underlying9 hk'
  have hr := kind_data ⟨k, hk⟩ s.data.toList (by
    rw [hx1]
    show _ = (xs.map (·.1)).getD k .nil
    rw [List.getD_eq_getElem?_getD, List.getElem?_map, List.getElem?_eq_getElem (by omega), Option.map_some, Option.getD_some, hs])
  simp only at hr
  rw [← hr, S_of]
  have key : W.cell? ⟨0, k, none⟩ = cs.toList[k]? := by
    have := World.var?_cell gKinds hvar k
    rw [Array.getElem?_toList]
    exact this
  rw [key]
  have h0 := congrArg (fun l => l[0]?) hc
  simp only [List.getElem?_take, List.getElem?_drop] at h0
  simpa using h0
/-- WHAT THE ROWS' LIST AND THE WORLD's SHAPE GIVE. -/
theorem env_of {W : World} (h : laidMetH Tryz.prog laidAll W) (hs : W.ShapedOpen Tryz.prog) : Env W := by
  have h1 := h.filter (fun x => x.1 == "synoptic/element.rows")
  have h2 := h.filter (fun x => x.1 == "internal/strconv.uint64pow10")
  have h3 := h.filter (fun x => x.1 == "strconv.ErrSyntax")
  have h4 := h.filter (fun x => x.1 == "strconv.ErrRange")
  have h5 := h.filter (fun x => x.1 == "synoptic/clock.lengths")
  have h6 := h.filter (fun x => x.1 == "synoptic/group.kinds")
  rw [rows_only] at h1
  rw [pow_only] at h2
  rw [syn_only] at h3
  rw [rng_only] at h4
  rw [lens_only] at h5
  rw [kinds_only] at h6
  have t1 := Lib.tabIs_of_head (rest := []) gLens gLensType Tryz.underlying170 Tryz.underlying3 cellsInt cellsLens h5
  refine ⟨fun i hi => t1.cell gLens i (by simpa [Ck.lens] using hi), ⟨tab_of h1, Lib.tabIs_of_head (rest := []) El.pow_at gPowType Tryz.underlying211 Tryz.underlying196 cellsU64 cellsPow h2, ?_, ?_⟩, kinds_of h6, cell_of_shapedOpen_int (zero := #[.int .i64 0]) (t := 3) hs (of_decide_eq_true (by kernel_rfl)) (by kernel_rfl) rfl (by kernel_rfl) (by kernel_rfl) Tryz.underlying3⟩
  · obtain ⟨a0, s0, hv0, -, -, -⟩ := laid_sentinel h3 gSyn gSynType Tryz.underlying132 rowErr Tryz.underlying230 Tryz.underlying232 rfl rfl Tryz.underlying9 (by kernel_rfl) (by kernel_rfl)
    exact ⟨_, _, by have h0 := World.var?_cell gSyn hv0 0; simpa using h0⟩
  · obtain ⟨a0, s0, hv0, -, -, -⟩ := laid_sentinel h4 gRng gRngType Tryz.underlying132 rowErr Tryz.underlying230 Tryz.underlying232 rfl rfl Tryz.underlying9 (by kernel_rfl) (by kernel_rfl)
    exact ⟨_, _, by have h0 := World.var?_cell gRng hv0 0; simpa using h0⟩

def tab32 : List Int := [0, 1, 28, 2, 29, 14, 24, 3, 30, 22, 20, 15, 25, 17, 4, 8, 31, 27, 13, 23, 21, 19, 16, 7, 26, 12, 18, 6, 11, 5, 10, 9]
def tab64 : List Int := [0, 1, 56, 2, 57, 49, 28, 3, 61, 58, 42, 50, 38, 29, 17, 4, 62, 47, 59, 36, 45, 43, 51, 22, 53, 39, 33, 30, 24, 18, 12, 5, 63, 55, 48, 27, 60, 41, 37, 16, 46, 35, 44, 21, 52, 32, 23, 11, 54, 26, 40, 15, 34, 20, 31, 10, 25, 14, 19, 9, 13, 8, 7, 6]
def tabRows : List Int := [8000, 11000, 5, 1800, 3300, 4, 1800, 3300, 4, -1000, 1000, 4, -1000, 1000, 4, 900, 1700, 4, 2000, 3200, 4, 2400, 3400, 4, 2000, 3000, 4, 4400, 6200, 4, 2000, 2900, 4]
def setTab (k : IntKind) (zs : List Int) : Obj → Obj
  | .cells _ t frozen => .cells (zs.map (Value.int k)).toArray t frozen
  | o => o
def setErr (b : Nat) : Obj → Obj
  | .cells _ t frozen => .cells #[.iface 230 (.pointer (some ⟨b, 0, none⟩))] t frozen
  | o => o
def setStr (l : List (List UInt8)) : Obj → Obj
  | .cells _ t frozen => .cells (l.map fun x => Value.string (S x)).toArray t frozen
  | o => o
def tabAcc : List Int := [128, 191, 160, 191, 128, 159, 144, 191, 128, 143, 0, 0, 0, 0, 0, 0, 0, 0, 0, 0, 0, 0, 0, 0, 0, 0, 0, 0, 0, 0, 0, 0]
abbrev synS : ByteArray := { data := #[105, 110, 118, 97, 108, 105, 100, 32, 115, 121, 110, 116, 97, 120] }
abbrev rngS : ByteArray := { data := #[118, 97, 108, 117, 101, 32, 111, 117, 116, 32, 111, 102, 32, 114, 97, 110, 103, 101] }
/-- So many blocks has the settled world. -/
noncomputable def low : Nat := (World.holding Tryz.prog default ⟨#[], #[], []⟩).heap.size
/-- A WORLD FOR THE WITNESS: the settled one, the variables holding what their initialisers lay. -/
noncomputable def laidWorld (os : Os) : World :=
  { World.holding Tryz.prog os ⟨#[.cells #[.string synS] 232, .cells #[.string rngS] 232], #[], []⟩ with heap := ((((((((((World.holding Tryz.prog os ⟨#[.cells #[.string synS] 232, .cells #[.string rngS] 232], #[], []⟩).heap.modify 1 (setTab .i64 tabRows)).modify 6 (setTab .u64 Lib.pow10Tab)).modify 9 (setTab .u8 tab32)).modify 10 (setTab .u8 tab64)).modify 7 (setErr low)).modify 8 (setErr (low + 1))).modify 2 (setTab .i64 Ck.lens)).modify 0 (setStr kws)).modify 5 (setTab .u8 tabAcc)).modify 4 (setTab .u8 (Go.Pinned.utf8FirstZ.map Int.ofNat)) }

section
variable {H : Type} {enc : TypeId × Value → H} {P : Program}
/-- Arguments read behind a call that turned nothing below the old heap's end as they read before. -/
theorem args_stay (hl : laidOutB P = true) {W W' : World} (hb : Below W.heap.size W W') :
    ∀ (ts : List TypeId) (vs : List Value) (ds : List (DataW H)) (ps : List MemPlace), (∀ t ∈ ts, P.readableRec t = true ∧ t < P.types.size) → (∀ x ∈ ps, x.block < W.heap.size) →
      DataW.TrodAll enc P W 0 (fun _ => true) true ts vs ds ps → DataW.TrodAll enc P W' 0 (fun b => decide (b < W.heap.size)) true ts vs ds ps
  | [], _, _, _, _, _, h => by
    obtain ⟨rfl, rfl, rfl⟩ := trodAll_nil h
    exact trodAll_mk0
  | t :: ts, vs, ds, ps, hok, hlt, h => by
    obtain ⟨v, vs', d, ds', p, q, rfl, rfl, rfl, h0, h1⟩ := trodAll_cons h
    have ht := hok t (by simp)
    exact trodAll_cons_mk (Below.trod hl ht.1 ht.2 h0 hb (fun x hx => hlt x (by simp [hx]))) (args_stay hl hb ts vs' ds' q (fun t' h' => hok t' (by simp [h'])) (fun x hx => hlt x (by simp [hx])) h1)
/-- A law's post: true, the arguments as they were, nothing old turned. -/
theorem law_post (hl : laidOutB P = true) {f : Func} {s : ChangeSpec} {apart : Bool} {W W' : World} {args : Array Value} {ds gs : List (DataW H)} {before : List MemPlace} {tb : TypeId}
    (hW : DataW.Whole enc P f.params.toList s.vars apart W args.toList ds gs before) (hv : s.vars = [])
    (hr : (s.fn H (ds ++ gs)).results = [.lit (.bool true)]) (ha : (s.fn H (ds ++ gs)).args = ds) (hz : (s.fn H (ds ++ gs)).vars = [])
    (ht : f.resultTypes = #[tb]) (hbool : P.underlying tb = some .bool) (hok : ∀ t ∈ f.params.toList, P.readableRec t = true ∧ t < P.types.size) (hb : Below W.heap.size W W') :
    s.post enc P f apart true false false W args (.bool true) W' := by
  have hlt : ∀ x ∈ before, x.block < W.heap.size := fun x hx => hW.lt x hx
  have hW' := hW
  obtain ⟨p, q, hA, hV, rfl, _, _⟩ := hW
  rw [hv] at hV
  obtain ⟨rfl, rfl⟩ := trodVars_none hV
  rw [List.append_nil] at hW' hlt
  refine ⟨ds, [], p, [], p, [], hW', ?_, ?_, ?_, World.keptBut_mono (fun x hx => ⟨hx, .inr (.inl hx)⟩) (hb.frame (· ∈ p)), fun h => by cases h⟩
  · rw [hr, ht]
    exact trodAll_mk1 (shut_bool hbool true)
  · rw [ha]
    exact args_stay hl hb _ _ _ _ hok hlt hA
  · rw [hz, hv]
    rfl
end
set_option maxRecDepth 100000 in
theorem listIn {H : Type} {enc : TypeId × Value → H} {W : World} {base : Nat} {v : Value} {d : DataW H} {p : List MemPlace} (hval : Value.okWide Tryz.prog W .any base 25 v)
    (h : DataW.Trod enc Tryz.prog W 0 (fun _ => true) true 25 v d p) : ListIn W v := by
  obtain ⟨a0, len, cap, rfl⟩ := okWide_slice Tryz.underlying25 hval
  obtain ⟨fuel, hf⟩ := h
  rcases open_ints Tryz.underlying25 Tryz.underlying3 cellsInt hf with ⟨hcs, _⟩ | ⟨a, len', cap', zs, hcs, _, hl, hm, hz, _, hcell, hwz⟩
  · left
    simp [Value.cells] at hcs
    obtain ⟨rfl, rfl, rfl⟩ := hcs
    rfl
  · right
    simp [Value.cells] at hcs
    obtain ⟨rfl, rfl, rfl⟩ := hcs
    unfold maxLen at hm
    simp only [if_true] at hz
    refine ⟨a, _, _, rfl, hl, hm, fun i hi => ?_⟩
    obtain ⟨bk, off, rfl, hc⟩ := ints_at hcell (by omega)
    have hci := hc i (by omega)
    refine ⟨bk, off, zs.getD i 0, rfl, World.block_lt_of_cell? W _ hci, hci, bounds_i64 (hwz _ ?_)⟩
    rw [List.getD_eq_getElem?_getD, List.getElem?_eq_getElem (by omega)]
    exact List.getElem_mem _
theorem two_of {α : Type} {l : Array α} (h : l.size = 2) : ∃ a b, l = #[a, b] := by
  obtain ⟨l⟩ := l
  match l, h with
  | [a, b], _ => exact ⟨a, b, rfl⟩
set_option maxRecDepth 100000 in
theorem readingIn {H : Type} {enc : TypeId × Value → H} {W : World} {base : Nat} {v : Value} {d : DataW H} {p : List MemPlace} (hval : Value.okWide Tryz.prog W .any base 99 v)
    (h : DataW.Trod enc Tryz.prog W 0 (fun _ => true) true 99 v d p) : ∃ a b : Int, v = .agg #[.int .i64 a, .int .i64 b] := by
  have hs : Tryz.prog.underlying 99 = some (.struct (Tryz.prog.fieldsOf 99)) := by kernel_rfl
  have hC : Tryz.prog.cellsOf 99 = 2 := by kernel_rfl
  obtain ⟨cs, rfl, hsz⟩ := okWide_struct hs hval
  obtain ⟨v0, v1, rfl⟩ := two_of (hsz.trans hC)
  obtain ⟨fuel, hf⟩ := h
  obtain ⟨xs, n, _, _, _, hlen, hg⟩ := DataW.trod_struct hs hf
  have key : ∀ (j : Nat) (u : Value), (#[v0, v1] : Array Value)[j]? = some u → ((Tryz.prog.fieldsOf 99)[j]?).map (fun f => (f.type, f.offset)) = some (3, j) → ∃ a : Int, u = .int .i64 a := by
    intro j u hu hj
    obtain ⟨f, hfj, hft⟩ := Option.map_eq_some_iff.1 hj
    simp only [Prod.mk.injEq] at hft
    have h1 := hg j f hfj
    rw [hft.1, hft.2, cellsInt] at h1
    have hjl : j < xs.length := by rw [hlen]; exact (Array.getElem?_eq_some_iff.1 hfj).1
    rw [List.getElem?_eq_getElem hjl] at h1
    obtain ⟨a, hc, _, _⟩ := DataW.trod_int Tryz.underlying3 h1
    refine ⟨a, ?_⟩
    have h2 : (Value.agg #[v0, v1]).cells.toList = [v0, v1] := rfl
    rw [h2] at hc
    have h3 : [v0, v1][j]? = some u := by simpa using hu
    have h4 := congrArg (fun l => l[0]?) hc
    simp only [List.getElem?_take, List.getElem?_drop] at h4
    simp only [Nat.lt_add_one, if_true, Nat.add_zero, h3] at h4
    simpa using h4
  obtain ⟨a, rfl⟩ := key 0 v0 rfl (by kernel_rfl)
  obtain ⟨b, rfl⟩ := key 1 v1 rfl (by kernel_rfl)
  exact ⟨a, b, rfl⟩
theorem laidOut : laidOutB Tryz.prog = true := by kernel_rfl
end Go.Proofs.YtfnlgfacadmjpaaGreatDoor
namespace Go.Proofs.YtfnlgfacadmjpaaGreatDoor
open Go.ChangeShapes Go.WideShapes Go.ChangeAt Go.RowKit

theorem eight_list {α : Type} {l : List α} (h : l.length = 8) : ∃ a b c d e f g i, l = [a, b, c, d, e, f, g, i] := by
  match l, h with
  | [a, b, c, d, e, f, g, i], _ => exact ⟨a, b, c, d, e, f, g, i, rfl⟩
theorem five_of {α : Type} {l : Array α} (h : l.size = 5) : ∃ a b c d e, l = #[a, b, c, d, e] := by
  obtain ⟨l⟩ := l
  match l, h with
  | [a, b, c, d, e], _ => exact ⟨a, b, c, d, e, rfl⟩
theorem eight_of {α : Type} {l : Array α} (h : l.size = 8) : ∃ a b c d e f g i, l = #[a, b, c, d, e, f, g, i] := by
  obtain ⟨l⟩ := l
  match l, h with
  | [a, b, c, d, e, f, g, i], _ => exact ⟨a, b, c, d, e, f, g, i, rfl⟩
set_option maxRecDepth 100000 in
/-- A cell that is a list of readings, as it is trodden. -/
theorem readingsCell {H : Type} {enc : TypeId × Value → H} {W : World} {v : Value} {fuel : Nat} {x : DataW H × List MemPlace}
    (hf : DataW.trod enc Tryz.prog W 0 (fun _ => true) true fuel 51 [v] = some x) : ∃ R : List El.Elt.R, El.RdIn W v R := by
  have hC : Tryz.prog.cellsOf 99 = 2 := by kernel_rfl
  rcases Go.Deep.open_slice_pairs Tryz.underlying51 Tryz.underlying99 hC rfl rfl cellsInt cellsInt hf with ⟨hcs, _⟩ | ⟨a, len, cap, m, n, V0, V1, D0, D1, P0, P1, hcs, _, hl, hm, hmm, _, hx⟩
  · simp only [List.cons.injEq, and_true] at hcs
    subst hcs
    exact ⟨[], El.RdIn.nil W⟩
  · simp only [List.cons.injEq, and_true] at hcs
    subst hcs
    unfold maxLen at hm
    simp only [if_true] at hmm
    subst hmm
    have hz : ∀ i, i < len → ∃ q : Int × Int, W.cell? (a.add (i * 2)) = some (.int .i64 q.1) ∧ W.cell? (a.add (i * 2 + 1)) = some (.int .i64 q.2) := by
      intro i hi
      obtain ⟨e0, e1, t0, t1⟩ := hx i (by omega)
      obtain ⟨x, hx0, _, _⟩ := DataW.trod_int Tryz.underlying3 t0
      obtain ⟨y, hy0, _, _⟩ := DataW.trod_int Tryz.underlying3 t1
      injection hx0 with hx0 _
      injection hy0 with hy0 _
      exact ⟨(x, y), by rw [e0, hx0], by rw [e1, hy0]⟩
    have hz' : ∀ i, ∃ q : Int × Int, i < len → W.cell? (a.add (i * 2)) = some (.int .i64 q.1) ∧ W.cell? (a.add (i * 2 + 1)) = some (.int .i64 q.2) := fun i => by
      by_cases hi : i < len
      · obtain ⟨q, hq⟩ := hz i hi
        exact ⟨q, fun _ => hq⟩
      · exact ⟨(0, 0), fun h => absurd h hi⟩
    have hch : ∃ f : Nat → Int × Int, ∀ i, i < len → W.cell? (a.add (i * 2)) = some (.int .i64 (f i).1) ∧ W.cell? (a.add (i * 2 + 1)) = some (.int .i64 (f i).2) := ⟨fun i => Classical.choose (hz' i), fun i => Classical.choose_spec (hz' i)⟩
    obtain ⟨f, hq⟩ := hch
    refine ⟨(List.range len).map f, some a, _, by simp, by simpa using hl, hm, fun i hi => ?_⟩
    have hi' : i < len := by simpa using hi
    obtain ⟨q0, q1⟩ := hq i hi'
    have qz := (hq 0 (by omega)).1
    obtain ⟨b, off, spot⟩ := a
    have hspot : spot = none := by simpa [Addr.add] using World.cell?_spot qz
    subst hspot
    rw [Addr.add_lit] at q0 q1
    exact ⟨b, off, rfl, World.block_lt_of_cell? W _ q0, by simpa using q0, by simpa [Nat.add_assoc] using q1⟩
set_option maxRecDepth 100000 in
theorem reportCells {H : Type} {enc : TypeId × Value → H} {W : World} {cs : List Value} {fuel : Nat} {x : DataW H × List MemPlace} (hsz : cs.length = 8)
    (hf : DataW.trod enc Tryz.prog W 0 (fun _ => true) true fuel 53 cs = some x) : ∃ (k : Int) (nm : ByteArray) (t F A B C : Int) (u : Value) (L : List El.Elt.R), cs = [.int .i64 k, .string nm, .int .i64 t, .int .i64 F, .int .i64 A, .int .i64 B, .int .i64 C, u] ∧ El.RdIn W u L := by
  have hs : Tryz.prog.underlying 53 = some (.struct (Tryz.prog.fieldsOf 53)) := by kernel_rfl
  have hsP : Tryz.prog.underlying 50 = some (.struct (Tryz.prog.fieldsOf 50)) := by kernel_rfl
  have hCP : Tryz.prog.cellsOf 50 = 4 := by kernel_rfl
  have hCR : Tryz.prog.cellsOf 51 = 1 := by kernel_rfl
  obtain ⟨v0, v1, v2, v3, v4, v5, v6, v7, rfl⟩ := eight_list hsz
  obtain ⟨xs, n, _, _, _, hlen, hg⟩ := DataW.trod_struct hs hf
  have get : ∀ (j t o c : Nat), ((Tryz.prog.fieldsOf 53)[j]?).map (fun f => (f.type, f.offset)) = some (t, o) → Tryz.prog.cellsOf t = c →
      ∃ x, DataW.trod enc Tryz.prog W 0 (fun _ => true) true n t (([v0, v1, v2, v3, v4, v5, v6, v7].drop o).take c) = some x := by
    intro j t o c hj hc
    obtain ⟨f, hfj, hft⟩ := Option.map_eq_some_iff.1 hj
    simp only [Prod.mk.injEq] at hft
    have h1 := hg j f hfj
    rw [hft.1, hft.2, hc] at h1
    have hjl : j < xs.length := by rw [hlen]; exact (Array.getElem?_eq_some_iff.1 hfj).1
    rw [List.getElem?_eq_getElem hjl] at h1
    exact ⟨_, h1⟩
  obtain ⟨x0, g0⟩ := get 0 3 0 1 (by kernel_rfl) cellsInt
  obtain ⟨x1, g1⟩ := get 1 9 1 1 (by kernel_rfl) cellsStr
  obtain ⟨x2, g2⟩ := get 2 3 2 1 (by kernel_rfl) cellsInt
  obtain ⟨x3, g3⟩ := get 3 50 3 4 (by kernel_rfl) hCP
  obtain ⟨x4, g4⟩ := get 4 51 7 1 (by kernel_rfl) hCR
  obtain ⟨k, e0, -, -⟩ := DataW.trod_int Tryz.underlying3 g0
  obtain ⟨nm, e1, -, -⟩ := DataW.trod_string Tryz.underlying9 g1
  obtain ⟨t, e2, -, -⟩ := DataW.trod_int Tryz.underlying3 g2
  obtain ⟨R, hR⟩ := readingsCell (v := v7) g4
  obtain ⟨ys, m, _, _, _, hlenP, hgP⟩ := DataW.trod_struct hsP g3
  have getP : ∀ (j : Nat), ((Tryz.prog.fieldsOf 50)[j]?).map (fun f => (f.type, f.offset)) = some (3, j) →
      ∃ a : Int, (([v3, v4, v5, v6] : List Value).drop j).take 1 = [.int .i64 a] := by
    intro j hj
    obtain ⟨f, hfj, hft⟩ := Option.map_eq_some_iff.1 hj
    simp only [Prod.mk.injEq] at hft
    have h1 := hgP j f hfj
    rw [hft.1, hft.2, cellsInt] at h1
    have hjl : j < ys.length := by rw [hlenP]; exact (Array.getElem?_eq_some_iff.1 hfj).1
    rw [List.getElem?_eq_getElem hjl] at h1
    obtain ⟨a, hc, _, _⟩ := DataW.trod_int Tryz.underlying3 h1
    exact ⟨a, hc⟩
  obtain ⟨F, f0⟩ := getP 0 (by kernel_rfl)
  obtain ⟨A, f1⟩ := getP 1 (by kernel_rfl)
  obtain ⟨B, f2⟩ := getP 2 (by kernel_rfl)
  obtain ⟨C, f3⟩ := getP 3 (by kernel_rfl)
  have E_e0 : v0 = .int .i64 k := by simpa using e0
  have E_e1 : v1 = .string nm := by simpa using e1
  have E_e2 : v2 = .int .i64 t := by simpa using e2
  have E_f0 : v3 = .int .i64 F := by simpa using f0
  have E_f1 : v4 = .int .i64 A := by simpa using f1
  have E_f2 : v5 = .int .i64 B := by simpa using f2
  have E_f3 : v6 = .int .i64 C := by simpa using f3
  subst E_e0
  subst E_e1
  subst E_e2
  subst E_f0
  subst E_f1
  subst E_f2
  subst E_f3
  exact ⟨k, nm, t, F, A, B, C, v7, R, rfl, hR⟩
set_option maxRecDepth 100000 in
/-- A cell that is a list of reports, as it is trodden. -/
theorem reportsCell {H : Type} {enc : TypeId × Value → H} {W : World} {v : Value} {fuel : Nat} {x : DataW H × List MemPlace}
    (hf : DataW.trod enc Tryz.prog W 0 (fun _ => true) true fuel 22 [v] = some x) : ∃ R : List Rp, Bu.RpsIn W v R := by
  have hC : Tryz.prog.cellsOf 53 = 8 := by kernel_rfl
  rcases Go.Deep.open_slice Tryz.underlying22 hf with ⟨hcs, _⟩ | ⟨a, len, cap, m, n, D, Pl, hcs, _, hl, hm, hmm, _, hx⟩
  · simp only [List.cons.injEq, and_true] at hcs
    subst hcs
    exact ⟨[], none, 0, rfl, Nat.le_refl _, by omega, fun i h => absurd h (Nat.not_lt_zero _)⟩
  · simp only [List.cons.injEq, and_true] at hcs
    subst hcs
    unfold maxLen at hm
    simp only [if_true] at hmm
    subst hmm
    have hz : ∀ i, i < len → ∃ r : Rp, (∀ j, j < 8 → W.cell? ((a.add (i * 8)).add j) = (rpCells r)[j]?) ∧ El.RdIn W r.u r.L := by
      intro i hi
      obtain ⟨cs', h1, h2⟩ := hx i (by omega)
      rw [hC] at h1
      obtain ⟨_, hlen, hcell⟩ := World.cells?_some h1
      obtain ⟨k, nm, t, F, A, B, C, u, L, rfl, hR⟩ := reportCells hlen h2
      exact ⟨⟨k, nm, t, F, A, B, C, u, L⟩, fun j hj => hcell j hj, hR⟩
    have hz' : ∀ i, ∃ r : Rp, i < len → (∀ j, j < 8 → W.cell? ((a.add (i * 8)).add j) = (rpCells r)[j]?) ∧ El.RdIn W r.u r.L := fun i => by
      by_cases hi : i < len
      · obtain ⟨q, hq⟩ := hz i hi
        exact ⟨q, fun _ => hq⟩
      · exact ⟨⟨0, ⟨#[]⟩, 0, 0, 0, 0, 0, .slice none 0 0, []⟩, fun h => absurd h hi⟩
    have hch : ∃ f : Nat → Rp, ∀ i, i < len → (∀ j, j < 8 → W.cell? ((a.add (i * 8)).add j) = (rpCells (f i))[j]?) ∧ El.RdIn W (f i).u (f i).L := ⟨fun i => Classical.choose (hz' i), fun i => Classical.choose_spec (hz' i)⟩
    obtain ⟨f, hq⟩ := hch
    refine ⟨(List.range len).map f, some a, _, by simp, by simpa using hl, hm, fun i hi => ?_⟩
    have hi' : i < len := by simpa using hi
    obtain ⟨q, hr⟩ := hq i hi'
    have qz := (hq 0 (by omega)).1 0 (by omega)
    obtain ⟨b, off, spot⟩ := a
    have hspot : spot = none := by
      have : W.cell? ((Addr.add ⟨b, off, spot⟩ (0 * 8)).add 0) = some (.int .i64 (f 0).k) := qz
      simpa [Addr.add] using World.cell?_spot this
    subst hspot
    have q' : ∀ j, j < 8 → W.cell? ⟨b, off + i * 8 + j, none⟩ = (rpCells (f i))[j]? := fun j hj => by
      have := q j hj
      rwa [Addr.add_lit, Addr.add_lit] at this
    have q0 : W.cell? ⟨b, off + i * 8, none⟩ = (rpCells (f i))[0]? := q' 0 (by omega)
    have e : ((List.range len).map f)[i] = f i := by simp
    refine ⟨b, off, rfl, World.block_lt_of_cell? W _ (q0.trans rfl), ?_, by rw [e]; exact hr⟩
    rw [e]
    exact ⟨q0, q' 1 (by omega), q' 2 (by omega), q' 3 (by omega), q' 4 (by omega), q' 5 (by omega), q' 6 (by omega), q' 7 (by omega)⟩
set_option maxRecDepth 100000 in
theorem bulletinIn {H : Type} {enc : TypeId × Value → H} {W : World} {base : Nat} {v : Value} {d : DataW H} {p : List MemPlace} (hval : Value.okWide Tryz.prog W .any base 24 v)
    (h : DataW.Trod enc Tryz.prog W 0 (fun _ => true) true 24 v d p) : ∃ (c : ByteArray) (t cor del : Int) (u : Value) (R : List Rp), v = Bu.bulV c t cor del u ∧ Bu.RpsIn W u R := by
  have hs : Tryz.prog.underlying 24 = some (.struct (Tryz.prog.fieldsOf 24)) := by kernel_rfl
  have hC : Tryz.prog.cellsOf 24 = 5 := by kernel_rfl
  have hCR : Tryz.prog.cellsOf 22 = 1 := by kernel_rfl
  obtain ⟨cs, rfl, hsz⟩ := okWide_struct hs hval
  obtain ⟨v0, v1, v2, v3, v4, rfl⟩ := five_of (hsz.trans hC)
  obtain ⟨fuel, hf⟩ := h
  have h2 : (Value.agg #[v0, v1, v2, v3, v4]).cells.toList = [v0, v1, v2, v3, v4] := rfl
  rw [h2] at hf
  obtain ⟨xs, n, _, _, _, hlen, hg⟩ := DataW.trod_struct hs hf
  have get : ∀ (j t o c : Nat), ((Tryz.prog.fieldsOf 24)[j]?).map (fun f => (f.type, f.offset)) = some (t, o) → Tryz.prog.cellsOf t = c →
      ∃ x, DataW.trod enc Tryz.prog W 0 (fun _ => true) true n t (([v0, v1, v2, v3, v4].drop o).take c) = some x := by
    intro j t o c hj hc
    obtain ⟨f, hfj, hft⟩ := Option.map_eq_some_iff.1 hj
    simp only [Prod.mk.injEq] at hft
    have h1 := hg j f hfj
    rw [hft.1, hft.2, hc] at h1
    have hjl : j < xs.length := by rw [hlen]; exact (Array.getElem?_eq_some_iff.1 hfj).1
    rw [List.getElem?_eq_getElem hjl] at h1
    exact ⟨_, h1⟩
  obtain ⟨x0, g0⟩ := get 0 9 0 1 (by kernel_rfl) cellsStr
  obtain ⟨x1, g1⟩ := get 1 3 1 1 (by kernel_rfl) cellsInt
  obtain ⟨x2, g2⟩ := get 2 3 2 1 (by kernel_rfl) cellsInt
  obtain ⟨x3, g3⟩ := get 3 3 3 1 (by kernel_rfl) cellsInt
  obtain ⟨x4, g4⟩ := get 4 22 4 1 (by kernel_rfl) hCR
  obtain ⟨c, e0, -, -⟩ := DataW.trod_string Tryz.underlying9 g0
  obtain ⟨t, e1, -, -⟩ := DataW.trod_int Tryz.underlying3 g1
  obtain ⟨cor, e2, -, -⟩ := DataW.trod_int Tryz.underlying3 g2
  obtain ⟨del, e3, -, -⟩ := DataW.trod_int Tryz.underlying3 g3
  obtain ⟨R, hR⟩ := reportsCell (v := v4) g4
  have E0 : v0 = .string c := by simpa using e0
  have E1 : v1 = .int .i64 t := by simpa using e1
  have E2 : v2 = .int .i64 cor := by simpa using e2
  have E3 : v3 = .int .i64 del := by simpa using e3
  subst E0
  subst E1
  subst E2
  subst E3
  exact ⟨c, t, cor, del, v4, R, rfl, hR⟩
end Go.Proofs.YtfnlgfacadmjpaaGreatDoor
