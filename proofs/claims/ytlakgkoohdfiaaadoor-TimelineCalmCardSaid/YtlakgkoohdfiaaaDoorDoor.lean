/- What the rows' listed variables give the walks; the world for the rows' witnesses; how a law's arguments are opened and its post is met. -/
import Derived.Test.YtlakgkoohdfiaaaDoorCards
import Derived.Test.YtlakgkoohdfiaaaDoorTie
import Derived.Test.YtlakgkoohdfiaaaDoorQat
import Derived.Test.YtlakgkoohdfiaaaDoorQaa
import Derived.ProofKit
import Derived.OpenShut
import Derived.Deep.Strs
import Derived.Deep.DeepHandedRow
import Derived.Lib.LaidTab
namespace Go.Proofs.YtlakgkoohdfiaaaDoor
open Go.ChangeShapes Go.WideShapes Go.ChangeAt Go.RowKit

theorem own : ownKnob Tryd.prog.godebug = none := by kernel_rfl
theorem gRows : Tryd.prog.globalNamed "synoptic/element.rows" = some 0 := by kernel_rfl
theorem gRowsType : (Tryd.prog.globals[0]?).map (·.type) = some 171 := by kernel_rfl
theorem cellsInt : Tryd.prog.cellsOf 3 = 1 := by kernel_rfl
theorem cellsRow : Tryd.prog.cellsOf 170 = 3 := by kernel_rfl
theorem row_data : ∀ k : Fin 11, ∀ a b c : Int, (DataW.agg [.lit (.int .i64 a), .lit (.int .i64 b), .lit (.int .i64 c)] : DataW Unit) = (match (Rows.laid_synoptic_element_rows : DataW Unit) with | .agg l => l.getD k .nil | _ => .nil) → a = El.Elt.leas.getD k 0 ∧ b = El.Elt.mosts.getD k 0 ∧ c = (El.Elt.digss.getD k 0 : Nat) := by
  intro ⟨k, hk⟩ a b c h
  rcases (by omega : k = 0 ∨ k = 1 ∨ k = 2 ∨ k = 3 ∨ k = 4 ∨ k = 5 ∨ k = 6 ∨ k = 7 ∨ k = 8 ∨ k = 9 ∨ k = 10) with rfl | rfl | rfl | rfl | rfl | rfl | rfl | rfl | rfl | rfl | rfl <;>
    (simp [Rows.laid_synoptic_element_rows] at h; obtain ⟨rfl, rfl, rfl⟩ := h; exact ⟨rfl, rfl, rfl⟩)
theorem cell_one {cs : List Value} {off j : Nat} {z : Int} (h : (((cs.drop off).take 3).drop j).take 1 = [.int .i64 z]) : cs[off + j]? = some (.int .i64 z) := by
  have h0 := congrArg (fun l => l[0]?) h
  simp only [List.getElem?_take, List.getElem?_drop] at h0
  by_cases hj : j < 3
  · simpa [hj] using h0
  · simp [hj] at h0
set_option maxRecDepth 10000 in
theorem tab_of {W : World} (h : laidMet Tryd.prog [("synoptic/element.rows", Rows.laid_synoptic_element_rows)] W) : El.Tab W := by
  obtain ⟨ps, ⟨g', t', cs, fuel, p, q, hg', ht', hvar, hd, _, _⟩, _⟩ := h
  obtain rfl := Option.some.inj (gRows.symm.trans hg')
  obtain rfl := Option.some.inj (gRowsType.symm.trans ht')
  obtain ⟨xs, m, _, hx, hl, hxl, hat⟩ := DataW.trod_array Tryd.underlying171 hd
  have hx1 : Rows.laid_synoptic_element_rows = .agg (xs.map (·.1)) := congrArg Prod.fst hx
  intro k hk
  have hk' := hat k hk
  rw [cellsRow, List.getElem?_eq_getElem (by omega)] at hk'
  obtain ⟨y0, y1, y2, n, e, _, h0, h1, h2⟩ := Go.Deep.trod_struct3 Tryd.underlying170 hk'
  obtain ⟨z0, c0, rfl, _⟩ := DataW.trod_int Tryd.underlying3 h0
  obtain ⟨z1, c1, rfl, _⟩ := DataW.trod_int Tryd.underlying3 h1
  obtain ⟨z2, c2, rfl, _⟩ := DataW.trod_int Tryd.underlying3 h2
  have hr := row_data ⟨k, hk⟩ z0 z1 z2 (by
    rw [hx1]
    show _ = (xs.map (·.1)).getD k .nil
    rw [List.getD_eq_getElem?_getD, List.getElem?_map, List.getElem?_eq_getElem (by omega), Option.map_some, Option.getD_some, e])
  simp only at hr
  obtain ⟨r0, r1, r2⟩ := hr
  rw [← r0, ← r1, ← r2]
  have key : ∀ i, W.cell? ⟨0, i, none⟩ = cs.toList[i]? := fun i => by
    have := World.var?_cell gRows hvar i
    rw [Array.getElem?_toList]
    exact this
  rw [key, key, key]
  have k0 : (((cs.toList.drop (k * 3)).take 3).drop 0).take 1 = [.int .i64 z0] := by rw [← cellsInt]; exact c0
  have k1 : (((cs.toList.drop (k * 3)).take 3).drop 1).take 1 = [.int .i64 z1] := by rw [← cellsInt]; exact c1
  have k2 : (((cs.toList.drop (k * 3)).take 3).drop 2).take 1 = [.int .i64 z2] := by rw [← cellsInt]; exact c2
  exact ⟨cell_one (j := 0) k0, cell_one (j := 1) k1, cell_one (j := 2) k2⟩
theorem gLens : Tryd.prog.globalNamed "synoptic/clock.lengths" = some 1 := by kernel_rfl
theorem gLensType : (Tryd.prog.globals[1]?).map (·.type) = some 65 := by kernel_rfl
theorem cellsLens : Tryd.prog.cellsOf 65 = 12 := by kernel_rfl
def laidAll : List (String × DataW Unit) := [("synoptic/clock.lengths", Rows.laid_synoptic_clock_lengths), ("synoptic/element.rows", Rows.laid_synoptic_element_rows)]
theorem rows_only : laidAll.filter (fun x => x.1 == "synoptic/element.rows") = [("synoptic/element.rows", Rows.laid_synoptic_element_rows)] := by kernel_rfl
theorem lens_only : laidAll.filter (fun x => x.1 == "synoptic/clock.lengths") = [("synoptic/clock.lengths", Lib.tabData .i64 Ck.lens)] := by kernel_rfl
theorem env_of {W : World} (h : laidMetH Tryd.prog laidAll W) : Env W := by
  have h1 := h.filter (fun x => x.1 == "synoptic/element.rows")
  rw [rows_only] at h1
  have h5 := h.filter (fun x => x.1 == "synoptic/clock.lengths")
  rw [lens_only] at h5
  have t1 := Lib.tabIs_of_head (rest := []) gLens gLensType Tryd.underlying65 Tryd.underlying3 cellsInt cellsLens h5
  exact ⟨fun i hi => t1.cell gLens i (by simpa [Ck.lens] using hi), tab_of h1⟩
def tabRows : List Int := [8000, 11000, 5, 1800, 3300, 4, 1800, 3300, 4, -1000, 1000, 4, -1000, 1000, 4, 900, 1700, 4, 2000, 3200, 4, 2400, 3400, 4, 2000, 3000, 4, 4400, 6200, 4, 2000, 2900, 4]
def setTab (k : IntKind) (zs : List Int) : Obj → Obj
  | .cells _ t frozen => .cells (zs.map (Value.int k)).toArray t frozen
  | o => o
/-- A WORLD FOR THE WITNESS: the settled one, the tables holding what their initialisers lay. -/
noncomputable def laidWorld (os : Os) : World :=
  { World.holding Tryd.prog os ⟨#[], #[], []⟩ with heap := (World.holding Tryd.prog os ⟨#[], #[], []⟩).heap.modify 0 (setTab .i64 tabRows) |>.modify 1 (setTab .i64 Ck.lens) }

section
variable {H : Type} {enc : TypeId × Value → H} {P : Program}
/-- Arguments read behind a call that turned nothing below the old heap's end as they read before. -/
theorem args_stay (hl : laidOutB P = true) {W W' : World} (hb : Below W.heap.size W W') :
    ∀ (ts : List TypeId) (vs : List Value) (ds : List (DataW H)) (ps : List MemPlace), (∀ t ∈ ts, P.readableRec t = true ∧ t < P.types.size) → (∀ x ∈ ps, x.block < W.heap.size) →
      DataW.TrodAll enc P W 0 (fun _ => true) true ts vs ds ps → DataW.TrodAll enc P W' 0 (fun b => decide (b < W.heap.size)) true ts vs ds ps
  | [], _, _, _, _, _, h => by
    obtain ⟨rfl, rfl, rfl⟩ := trodAll_nil h
    exact trodAll_mk0
  | t :: ts, vs, ds, ps, hok, hlt, h => by
    obtain ⟨v, vs', d, ds', p, q, rfl, rfl, rfl, h0, h1⟩ := trodAll_cons h
    have ht := hok t (by simp)
    exact trodAll_cons_mk (Below.trod hl ht.1 ht.2 h0 hb (fun x hx => hlt x (by simp [hx]))) (args_stay hl hb ts vs' ds' q (fun t' h' => hok t' (by simp [h'])) (fun x hx => hlt x (by simp [hx])) h1)
/-- A law's post: true, the arguments as they were, nothing old turned. -/
theorem law_post (hl : laidOutB P = true) {f : Func} {s : ChangeSpec} {apart : Bool} {W W' : World} {args : Array Value} {ds gs : List (DataW H)} {before : List MemPlace} {tb : TypeId}
    (hW : DataW.Whole enc P f.params.toList s.vars apart W args.toList ds gs before) (hv : s.vars = [])
    (hr : (s.fn H (ds ++ gs)).results = [.lit (.bool true)]) (ha : (s.fn H (ds ++ gs)).args = ds) (hz : (s.fn H (ds ++ gs)).vars = [])
    (ht : f.resultTypes = #[tb]) (hbool : P.underlying tb = some .bool) (hok : ∀ t ∈ f.params.toList, P.readableRec t = true ∧ t < P.types.size) (hb : Below W.heap.size W W') :
    s.post enc P f apart true false false W args (.bool true) W' := by
  have hlt : ∀ x ∈ before, x.block < W.heap.size := fun x hx => hW.lt x hx
  have hW' := hW
  obtain ⟨p, q, hA, hV, rfl, _, _⟩ := hW
  rw [hv] at hV
  obtain ⟨rfl, rfl⟩ := trodVars_none hV
  rw [List.append_nil] at hW' hlt
  refine ⟨ds, [], p, [], p, [], hW', ?_, ?_, ?_, World.keptBut_mono (fun x hx => ⟨hx, .inr (.inl hx)⟩) (hb.frame (· ∈ p)), fun h => by cases h⟩
  · rw [hr, ht]
    exact trodAll_mk1 (shut_bool hbool true)
  · rw [ha]
    exact args_stay hl hb _ _ _ _ hok hlt hA
  · rw [hz, hv]
    rfl
end
set_option maxRecDepth 100000 in
theorem listIn {H : Type} {enc : TypeId × Value → H} {W : World} {base : Nat} {v : Value} {d : DataW H} {p : List MemPlace} (hval : Value.okWide Tryd.prog W .any base 28 v)
    (h : DataW.Trod enc Tryd.prog W 0 (fun _ => true) true 28 v d p) : ListIn W v := by
  obtain ⟨a0, len, cap, rfl⟩ := okWide_slice Tryd.underlying28 hval
  obtain ⟨fuel, hf⟩ := h
  rcases open_ints Tryd.underlying28 Tryd.underlying3 cellsInt hf with ⟨hcs, _⟩ | ⟨a, len', cap', zs, hcs, _, hl, hm, hz, _, hcell, hwz⟩
  · left
    simp [Value.cells] at hcs
    obtain ⟨rfl, rfl, rfl⟩ := hcs
    rfl
  · right
    simp [Value.cells] at hcs
    obtain ⟨rfl, rfl, rfl⟩ := hcs
    unfold maxLen at hm
    simp only [if_true] at hz
    refine ⟨a, _, _, rfl, hl, hm, fun i hi => ?_⟩
    obtain ⟨bk, off, rfl, hc⟩ := ints_at hcell (by omega)
    have hci := hc i (by omega)
    refine ⟨bk, off, zs.getD i 0, rfl, World.block_lt_of_cell? W _ hci, hci, bounds_i64 (hwz _ ?_)⟩
    rw [List.getD_eq_getElem?_getD, List.getElem?_eq_getElem (by omega)]
    exact List.getElem_mem _
theorem laidOut : laidOutB Tryd.prog = true := by kernel_rfl
end Go.Proofs.YtlakgkoohdfiaaaDoor
