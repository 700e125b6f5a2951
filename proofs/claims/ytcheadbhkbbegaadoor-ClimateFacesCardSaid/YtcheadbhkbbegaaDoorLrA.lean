/- ClimateLearns: a permuted list, the hits, what is known in the law's loops. -/
import Derived.Test.YtcheadbhkbbegaaDoorLrS
import Derived.Test.YtcheadbhkbbegaaDoorKOrd
import Derived.Test.YtcheadbhkbbegaaDoorSnP
import Derived.Test.YtcheadbhkbbegaaDoorCmK
import Derived.Laws.OwnMore
import Derived.Deep.OwnRows
namespace Go.Proofs.YtcheadbhkbbegaaDoor
open Go.RowKit Go.Maps

theorem infoBool : (Tryd.prog.info? 4).map (fun i => (i.zero, i.size, i.bytes)) = some (some (.bool false), 1, 1) := by kernel_rfl
/-- The reports with these numbers. -/
def pick (R : List Rp) (P : List Int) : List Rp := P.filterMap fun i => R[i.toNat]?
theorem pick_take (R : List Rp) (P : List Int) {k : Nat} (hk : k < P.length) {r : Rp} (hr : R[P[k].toNat]? = some r) : pick R (P.take (k + 1)) = pick R (P.take k) ++ [r] := by
  unfold pick
  rw [List.take_add_one, List.filterMap_append, List.getElem?_eq_getElem hk]
  simp [hr]
theorem pick_len (R : List Rp) (P : List Int) (k : Nat) : (pick R (P.take k)).length ≤ P.length :=
  Nat.le_trans (List.length_filterMap_le _ _) (by rw [List.length_take]; omega)
theorem pick_upto (R : List Rp) : ∀ k, k ≤ R.length → pick R (upto k) = R.take k := by
  intro k
  induction k with
  | zero => intro _; simp [pick, upto]
  | succ k ih =>
    intro h
    have h1 := ih (by omega)
    unfold pick at h1 ⊢
    rw [upto_succ, List.filterMap_append, h1, List.take_add_one, List.getElem?_eq_getElem (show k < R.length by omega)]
    simp [List.getElem?_eq_getElem (show k < R.length by omega)]
theorem pick_perm {R : List Rp} {P : List Int} (h : P.Perm (upto R.length)) : (pick R P).Perm R := by
  have h1 : (pick R P).Perm (pick R (upto R.length)) := h.filterMap _
  rwa [pick_upto R _ (Nat.le_refl _), List.take_length] at h1
theorem upto_mem {n : Nat} {x : Int} (h : x ∈ upto n) : 0 ≤ x ∧ x < n := by
  unfold upto at h
  obtain ⟨j, hj, rfl⟩ := List.mem_map.1 h
  have := List.mem_range.1 hj
  omega
/-- What is known while the permuted list grows. -/
structure Lo (Z : World) (Q : List Rp) (u : Value) (w : World) : Prop where
  below : Below Z.heap.size Z w
  own : w.ownsRow Z.heap.size 38 8 u Q.length (rpc Q)
theorem Lo.start (Z : World) : Lo Z [] (.slice none 0 0) Z := ⟨Below.refl _ _, World.ownsRow_nil _ _ _ _⟩
theorem Lo.row {Z w : World} {Q : List Rp} {u : Value} (h : Lo Z Q u w) (X : Obj) : (w.alloc X).ownsRow Z.heap.size 38 8 u Q.length (rpc Q) :=
  own_heap h.own (fun i hi => Below.heap_alloc w _ i (row_size h.own hi))
theorem Lo.app {Z w w' : World} {Q : List Rp} {u v : Value} {X : Obj} {r : Rp} (h : Lo Z Q u w) (ho : w'.ownsRow Z.heap.size 38 8 v (Q.length + 1) (rpc Q ++ rpCells r)) (hg : (w.alloc X).grownBy w' u.ownBlock) : Lo Z (Q ++ [r]) v w' := by
  have b1 := h.below.alloc h.below.size X
  exact ⟨El.below_own b1 b1.size (h.row X) hg, by rw [rpc_app, List.length_append]; exact ho⟩
/-- The j-th normal is hit: it is the one of the reading, which is as far from the mean as the spread says. -/
def hitN (N : List Cm.N5) (j : Nat) (F mo : Int) (x : El.Elt.R) : Prop := ∃ n, N[j]? = some n ∧ Cm.fndN N (x.1, F, mo) = some n ∧ max (x.2 - n.2.2.2.1) (n.2.2.2.1 - x.2) = n.2.2.2.2
def D2 (N : List Cm.N5) (R : List Rp) (i j : Nat) : Prop := ∃ r ∈ R.take i, ∃ x ∈ r.L, hitN N j r.F (mth r.t) x
def D3 (N : List Cm.N5) (R : List Rp) (i : Nat) (F mo : Int) (L : List El.Elt.R) (q j : Nat) : Prop := D2 N R i j ∨ ∃ x ∈ L.take q, hitN N j F mo x
def D4 (N : List Cm.N5) (R : List Rp) (i : Nat) (F mo : Int) (L : List El.Elt.R) (q : Nat) (x : El.Elt.R) (p j : Nat) : Prop := D3 N R i F mo L q j ∨ (j < p ∧ hitN N j F mo x)
theorem d2_zero {N : List Cm.N5} {R : List Rp} {j : Nat} : ¬ D2 N R 0 j := fun ⟨r, hr, _⟩ => by simp at hr
theorem d3_zero {N : List Cm.N5} {R : List Rp} {i : Nat} {F mo : Int} {L : List El.Elt.R} {j : Nat} (h : D3 N R i F mo L 0 j) : D2 N R i j := by
  rcases h with h | ⟨x, hx, _⟩
  · exact h
  · simp at hx
theorem d4_zero {N : List Cm.N5} {R : List Rp} {i : Nat} {F mo : Int} {L : List El.Elt.R} {q : Nat} {x : El.Elt.R} {j : Nat} (h : D4 N R i F mo L q x 0 j) : D3 N R i F mo L q j := by
  rcases h with h | ⟨hx, _⟩
  · exact h
  · omega
theorem d2_succ {N : List Cm.N5} {R : List Rp} {i : Nat} (hi : i < R.length) {j : Nat} (h : D2 N R (i + 1) j) : D3 N R i R[i].F (mth R[i].t) R[i].L R[i].L.length j := by
  obtain ⟨r, hr, x, hx, h⟩ := h
  rw [List.take_add_one, List.getElem?_eq_getElem hi] at hr
  rcases List.mem_append.1 hr with hr | hr
  · exact .inl ⟨r, hr, x, hx, h⟩
  · obtain rfl : r = R[i] := by simpa using hr
    exact .inr ⟨x, by rw [List.take_length]; exact hx, h⟩
theorem d3_succ {N : List Cm.N5} {R : List Rp} {i : Nat} {F mo : Int} {L : List El.Elt.R} {q : Nat} (hq : q < L.length) {j : Nat} (hj : j < N.length) (h : D3 N R i F mo L (q + 1) j) : D4 N R i F mo L q L[q] N.length j := by
  rcases h with h | ⟨x, hx, h⟩
  · exact .inl (.inl h)
  · rw [List.take_add_one, List.getElem?_eq_getElem hq] at hx
    rcases List.mem_append.1 hx with hx | hx
    · exact .inl (.inr ⟨x, hx, h⟩)
    · obtain rfl : x = L[q] := by simpa using hx
      exact .inr ⟨hj, h⟩
theorem d4_succ {N : List Cm.N5} {R : List Rp} {i : Nat} {F mo : Int} {L : List El.Elt.R} {q : Nat} {x : El.Elt.R} {p j : Nat} (h : D4 N R i F mo L q x (p + 1) j) : D4 N R i F mo L q x p j ∨ (j = p ∧ hitN N p F mo x) := by
  rcases h with h | ⟨h1, h2⟩
  · exact .inl (.inl h)
  · rcases (by omega : j < p ∨ j = p) with h3 | rfl
    · exact .inl (.inr ⟨h3, h2⟩)
    · exact .inr ⟨rfl, h2⟩
/-- Every normal is hit. -/
theorem d2_all {R : List Rp} (h0 : errC R = 0) {N : List Cm.N5} (hN : outC R 2640 = N) {j : Nat} (hj : j < N.length) : D2 N R R.length j := by
  subst hN
  obtain ⟨r, hr, x, hx, e, hs⟩ := normal_from (List.getElem_mem hj)
  refine ⟨r, by rw [List.take_length]; exact hr, x, hx, _, List.getElem?_eq_getElem hj, ?_, hs.symm⟩
  rw [(has_normal h0 hr hx).2.1, ← e]
theorem mean_in {N : List Cm.N5} (h : Cm.vldN N = 0) {n : Cm.N5} (hn : n ∈ N) : -10000 ≤ n.2.2.2.1 ∧ n.2.2.2.1 ≤ 20000 := by
  have hc := (Cm.vldN_ok h).2.1 _ hn
  unfold Cm.chkN at hc
  split at hc
  · split at hc
    · rename_i q; exact ⟨q.2.2.2.2.1, q.2.2.2.2.2.1⟩
    · cases hc
  · cases hc
/-- What is known in the loops over the reports: the row of marks. -/
structure Lb (Z : World) (gB L : Nat) (D : Nat → Prop) (w : World) : Prop where
  below : Below Z.heap.size Z w
  base : Z.heap.size ≤ gB
  row : ∃ cs : Array Value, Row w gB 4 cs ∧ cs.size = L ∧ ∀ j, j < L → ∃ q : Bool, cs[j]? = some (.bool q) ∧ (D j → q = true)
section
variable {Z w w' : World} {gB L : Nat} {D D' : Nat → Prop}
theorem Lb.under (h : Lb Z gB L D w) (hb : Below w.heap.size w w') : Lb Z gB L D w' := by
  obtain ⟨cs, hr, h2⟩ := h.row
  exact ⟨h.below.trans (hb.mono h.below.size), h.base, cs, hr.under hb, h2⟩
theorem Lb.mono (h : Lb Z gB L D w) (hd : ∀ j, j < L → D' j → D j) : Lb Z gB L D' w := by
  obtain ⟨cs, hr, h1, h2⟩ := h.row
  refine ⟨h.below, h.base, cs, hr, h1, fun j hj => ?_⟩
  obtain ⟨q, e, hq⟩ := h2 j hj
  exact ⟨q, e, fun hD => hq (hd j hj hD)⟩
theorem Lb.start (Z : World) (L : Nat) (hd : ∀ j, j < L → ¬ D j) : Lb Z Z.heap.size L D (Z.alloc (.cells (madeCells #[.bool false] L) 4)) := by
  have e := toList_madeCells_one (.bool false) L
  refine ⟨(Below.refl _ _).alloc (Nat.le_refl _) _, Nat.le_refl _, _, Row.new _ _ _, by rw [← Array.length_toList, e, List.length_replicate], fun j hj => ⟨false, ?_, fun h => absurd h (hd j hj)⟩⟩
  rw [← Array.getElem?_toList, e, List.getElem?_replicate, if_pos hj]
theorem Lb.facts (h : Lb Z gB L D w) {p : Nat} (hp : p < L) : ∃ q : Bool, w.cell? ⟨gB, p, none⟩ = some (.bool q) ∧ (D p → q = true) ∧ w.frozen? ⟨gB, p, none⟩ = false := by
  obtain ⟨cs, hr, h1, h2⟩ := h.row
  obtain ⟨q, e, hq⟩ := h2 p hp
  exact ⟨q, (hr.cell p).trans e, hq, hr.thaw p⟩
theorem Lb.put (h : Lb Z gB L D w) {p : Nat} (hd : ∀ j, D' j → D j ∨ j = p) : Lb Z gB L D' (w.setCell ⟨gB, p, none⟩ (.bool true)) := by
  obtain ⟨cs, hr, h1, h2⟩ := h.row
  refine ⟨set1_below h.below h.base, h.base, _, hr.put p _, by rw [Array.size_setIfInBounds]; exact h1, fun j hj => ?_⟩
  obtain ⟨q, e, hq⟩ := h2 j hj
  rw [Array.getElem?_setIfInBounds]
  by_cases hjp : p = j
  · subst hjp
    exact ⟨true, by rw [if_pos rfl, if_pos (by omega)], fun _ => rfl⟩
  · rw [if_neg hjp]
    exact ⟨q, e, fun hD => hq ((hd j hD).resolve_right (fun e => hjp e.symm))⟩
/-- .. and the report's box. -/
structure Lc (Z : World) (gB L : Nat) (D : Nat → Prop) (gp : Nat) (cp : Array Value) (w : World) : Prop where
  lb : Lb Z gB L D w
  rp : Row w gp 38 cp
variable {gp gx gn : Nat} {cp cx cn : Array Value}
theorem Lc.under (h : Lc Z gB L D gp cp w) (hb : Below w.heap.size w w') : Lc Z gB L D gp cp w' := ⟨h.lb.under hb, h.rp.under hb⟩
theorem Lc.mono (h : Lc Z gB L D gp cp w) (hd : ∀ j, j < L → D' j → D j) : Lc Z gB L D' gp cp w := ⟨h.lb.mono hd, h.rp⟩
/-- .. and the boxes of the reading and of its normal. -/
structure Le (Z : World) (gB L : Nat) (D : Nat → Prop) (gp : Nat) (cp : Array Value) (gx : Nat) (cx : Array Value) (gn : Nat) (cn : Array Value) (w : World) : Prop where
  lc : Lc Z gB L D gp cp w
  rx : Row w gx 60 cx
  rn : Row w gn 50 cn
theorem Le.under (h : Le Z gB L D gp cp gx cx gn cn w) (hb : Below w.heap.size w w') : Le Z gB L D gp cp gx cx gn cn w' := ⟨h.lc.under hb, h.rx.under hb, h.rn.under hb⟩
theorem Le.mono (h : Le Z gB L D gp cp gx cx gn cn w) (hd : ∀ j, j < L → D' j → D j) : Le Z gB L D' gp cp gx cx gn cn w := ⟨h.lc.mono hd, h.rx, h.rn⟩
theorem Le.put (h : Le Z gB L D gp cp gx cx gn cn w) {p : Nat} (hd : ∀ j, D' j → D j ∨ j = p) : Le Z gB L D' gp cp gx cx gn cn (w.setCell ⟨gB, p, none⟩ (.bool true)) := by
  obtain ⟨cs, hr, -⟩ := h.lc.lb.row
  exact ⟨⟨h.lc.lb.put hd, h.lc.rp.far (p := ⟨gB, p, none⟩) (row_ne hr h.lc.rp (by decide)) _⟩, h.rx.far (p := ⟨gB, p, none⟩) (row_ne hr h.rx (by decide)) _, h.rn.far (p := ⟨gB, p, none⟩) (row_ne hr h.rn (by decide)) _⟩
end
end Go.Proofs.YtcheadbhkbbegaaDoor
