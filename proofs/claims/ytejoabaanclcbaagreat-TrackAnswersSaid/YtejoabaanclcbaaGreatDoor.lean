/- How a law's arguments are opened and its post is met: shared by the proofs of the layer. -/
import Derived.Test.YtejoabaanclcbaaGreatRows
import Derived.Test.YtejoabaanclcbaaGreatQaa
import Derived.ProofKit
import Derived.OpenShut
import Derived.Deep.DeepHandedRow
namespace Go.Proofs.YtejoabaanclcbaaGreat
open Go.ChangeShapes Go.WideShapes Go.ChangeAt Go.RowKit

theorem own : ownKnob Tryz.prog.godebug = none := by kernel_rfl
/-- A world for the rows' witnesses. -/
noncomputable def laidWorld (os : Os) : World := World.holding Tryz.prog os ⟨#[], #[], []⟩
theorem cellsInt : Tryz.prog.cellsOf 3 = 1 := by kernel_rfl
section
variable {H : Type} {enc : TypeId × Value → H} {P : Program}
/-- Arguments read behind a call that turned nothing below the old heap's end as they read before. -/
theorem args_stay (hl : laidOutB P = true) {W W' : World} (hb : Below W.heap.size W W') :
    ∀ (ts : List TypeId) (vs : List Value) (ds : List (DataW H)) (ps : List MemPlace), (∀ t ∈ ts, P.readableRec t = true ∧ t < P.types.size) → (∀ x ∈ ps, x.block < W.heap.size) →
      DataW.TrodAll enc P W 0 (fun _ => true) true ts vs ds ps → DataW.TrodAll enc P W' 0 (fun b => decide (b < W.heap.size)) true ts vs ds ps
  | [], _, _, _, _, _, h => by
    obtain ⟨rfl, rfl, rfl⟩ := trodAll_nil h
    exact trodAll_mk0
  | t :: ts, vs, ds, ps, hok, hlt, h => by
    obtain ⟨v, vs', d, ds', p, q, rfl, rfl, rfl, h0, h1⟩ := trodAll_cons h
    have ht := hok t (by simp)
    exact trodAll_cons_mk (Below.trod hl ht.1 ht.2 h0 hb (fun x hx => hlt x (by simp [hx]))) (args_stay hl hb ts vs' ds' q (fun t' h' => hok t' (by simp [h'])) (fun x hx => hlt x (by simp [hx])) h1)
/-- A law's post: true, the arguments as they were, nothing old turned. -/
theorem law_post (hl : laidOutB P = true) {f : Func} {s : ChangeSpec} {apart : Bool} {W W' : World} {args : Array Value} {ds gs : List (DataW H)} {before : List MemPlace} {tb : TypeId}
    (hW : DataW.Whole enc P f.params.toList s.vars apart W args.toList ds gs before) (hv : s.vars = [])
    (hr : (s.fn H (ds ++ gs)).results = [.lit (.bool true)]) (ha : (s.fn H (ds ++ gs)).args = ds) (hz : (s.fn H (ds ++ gs)).vars = [])
    (ht : f.resultTypes = #[tb]) (hbool : P.underlying tb = some .bool) (hok : ∀ t ∈ f.params.toList, P.readableRec t = true ∧ t < P.types.size) (hb : Below W.heap.size W W') :
    s.post enc P f apart true false false W args (.bool true) W' := by
  have hlt : ∀ x ∈ before, x.block < W.heap.size := fun x hx => hW.lt x hx
  have hW' := hW
  obtain ⟨p, q, hA, hV, rfl, _, _⟩ := hW
  rw [hv] at hV
  obtain ⟨rfl, rfl⟩ := trodVars_none hV
  rw [List.append_nil] at hW' hlt
  refine ⟨ds, [], p, [], p, [], hW', ?_, ?_, ?_, World.keptBut_mono (fun x hx => ⟨hx, .inr (.inl hx)⟩) (hb.frame (· ∈ p)), fun h => by cases h⟩
  · rw [hr, ht]
    exact trodAll_mk1 (shut_bool hbool true)
  · rw [ha]
    exact args_stay hl hb _ _ _ _ hok hlt hA
  · rw [hz, hv]
    rfl
end
set_option maxRecDepth 100000 in
theorem listIn {H : Type} {enc : TypeId × Value → H} {W : World} {base : Nat} {v : Value} {d : DataW H} {p : List MemPlace} (hval : Value.okWide Tryz.prog W .any base 23 v)
    (h : DataW.Trod enc Tryz.prog W 0 (fun _ => true) true 23 v d p) : ListIn W v := by
  obtain ⟨a0, len, cap, rfl⟩ := okWide_slice Tryz.underlying23 hval
  obtain ⟨fuel, hf⟩ := h
  rcases open_ints Tryz.underlying23 Tryz.underlying3 cellsInt hf with ⟨hcs, _⟩ | ⟨a, len', cap', zs, hcs, _, hl, hm, hz, _, hcell, hwz⟩
  · left
    simp [Value.cells] at hcs
    obtain ⟨rfl, rfl, rfl⟩ := hcs
    rfl
  · right
    simp [Value.cells] at hcs
    obtain ⟨rfl, rfl, rfl⟩ := hcs
    unfold maxLen at hm
    simp only [if_true] at hz
    refine ⟨a, _, _, rfl, hl, hm, fun i hi => ?_⟩
    obtain ⟨bk, off, rfl, hc⟩ := ints_at hcell (by omega)
    have hci := hc i (by omega)
    refine ⟨bk, off, zs.getD i 0, rfl, World.block_lt_of_cell? W _ hci, hci, bounds_i64 (hwz _ ?_)⟩
    rw [List.getD_eq_getElem?_getD, List.getElem?_eq_getElem (by omega)]
    exact List.getElem_mem _
theorem four_of {α : Type} {l : Array α} (h : l.size = 4) : ∃ a b c d, l = #[a, b, c, d] := by
  obtain ⟨l⟩ := l
  match l, h with
  | [a, b, c, d], _ => exact ⟨a, b, c, d, rfl⟩
set_option maxRecDepth 100000 in
theorem placeIn {H : Type} {enc : TypeId × Value → H} {W : World} {base : Nat} {v : Value} {d : DataW H} {p : List MemPlace} (hval : Value.okWide Tryz.prog W .any base 32 v)
    (h : DataW.Trod enc Tryz.prog W 0 (fun _ => true) true 32 v d p) : ∃ a b c e : Int, v = .agg #[.int .i64 a, .int .i64 b, .int .i64 c, .int .i64 e] := by
  have hs : Tryz.prog.underlying 32 = some (.struct (Tryz.prog.fieldsOf 32)) := by kernel_rfl
  have hC : Tryz.prog.cellsOf 32 = 4 := by kernel_rfl
  obtain ⟨cs, rfl, hsz⟩ := okWide_struct hs hval
  obtain ⟨v0, v1, v2, v3, rfl⟩ := four_of (hsz.trans hC)
  obtain ⟨fuel, hf⟩ := h
  obtain ⟨xs, n, _, _, _, hlen, hg⟩ := DataW.trod_struct hs hf
  have key : ∀ (j : Nat) (u : Value), (#[v0, v1, v2, v3] : Array Value)[j]? = some u → ((Tryz.prog.fieldsOf 32)[j]?).map (fun f => (f.type, f.offset)) = some (3, j) → ∃ a : Int, u = .int .i64 a := by
    intro j u hu hj
    obtain ⟨f, hfj, hft⟩ := Option.map_eq_some_iff.1 hj
    simp only [Prod.mk.injEq] at hft
    have h1 := hg j f hfj
    rw [hft.1, hft.2, cellsInt] at h1
    have hjl : j < xs.length := by rw [hlen]; exact (Array.getElem?_eq_some_iff.1 hfj).1
    rw [List.getElem?_eq_getElem hjl] at h1
    obtain ⟨a, hc, _, _⟩ := DataW.trod_int Tryz.underlying3 h1
    refine ⟨a, ?_⟩
    have h2 : (Value.agg #[v0, v1, v2, v3]).cells.toList = [v0, v1, v2, v3] := rfl
    rw [h2] at hc
    have h3 : [v0, v1, v2, v3][j]? = some u := by simpa using hu
    have h4 := congrArg (fun l => l[0]?) hc
    simp only [List.getElem?_take, List.getElem?_drop] at h4
    simp only [Nat.lt_add_one, if_true, Nat.add_zero, h3] at h4
    simpa using h4
  obtain ⟨a, rfl⟩ := key 0 v0 rfl (by kernel_rfl)
  obtain ⟨b, rfl⟩ := key 1 v1 rfl (by kernel_rfl)
  obtain ⟨c, rfl⟩ := key 2 v2 rfl (by kernel_rfl)
  obtain ⟨e, rfl⟩ := key 3 v3 rfl (by kernel_rfl)
  exact ⟨a, b, c, e, rfl⟩
theorem laidOut : laidOutB Tryz.prog = true := by kernel_rfl
end Go.Proofs.YtejoabaanclcbaaGreat

