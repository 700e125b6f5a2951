/- Texts of this proof. -/
import Derived.Test.YtlakgkoohdfiaaaDoorQau
import Derived.Test.YtlakgkoohdfiaaaDoorCmW
import Derived.Test.YtlakgkoohdfiaaaDoorQat
import Derived.Test.YtlakgkoohdfiaaaDoorQaq
import Derived.Test.YtlakgkoohdfiaaaDoorQas
import Derived.Laws.OwnMore
import Derived.Deep.OwnRows
namespace Go.Proofs.YtlakgkoohdfiaaaDoor
open Go.RowKit

def exA (u : Value) : Rp := ⟨0, ⟨#[]⟩, 0, 0, 840, 0, 0, u, [(1, 10130)]⟩
def exB (u : Value) : Rp := ⟨0, ⟨#[]⟩, 60, 0, 840, 0, 0, u, [(1, 10141)]⟩
theorem nrm_0 : nrm 0 840 0 0 = true := (nrm_iff (f := 0) (by unfold Pl.Ico.Vld; omega)).2 (by decide +kernel)
theorem exE (u1 u2 : Value) : errC [exA u1, exB u2] = 0 := by
  have ha : erC (exA u1) = 0 := by
    show (if nrm 0 840 0 0 = true ∧ Ck.Cal.rng 0 = true then El.Elt.vld [(1, 10130)] else 1) = 0
    rw [if_pos ⟨nrm_0, by decide⟩, ex_vld (by decide) (by decide)]
  have hb : erC (exB u2) = 0 := by
    show (if nrm 0 840 0 0 = true ∧ Ck.Cal.rng 60 = true then El.Elt.vld [(1, 10141)] else 1) = 0
    rw [if_pos ⟨nrm_0, by decide⟩, ex_vld (by decide) (by decide)]
  exact errC_zero _ (fun j hj => by
    rcases (by simp at hj; omega : j = 0 ∨ j = 1) with rfl | rfl
    · exact ha
    · exact hb)
theorem exF (x c : Int) : El.Elt.fnd [(1, x)] c = if (1 : Int) = c then some x else none := by
  unfold El.Elt.fnd
  by_cases h : (1 : Int) = c
  · rw [if_pos h, List.find?_cons_of_pos (by simpa using h)]; rfl
  · rw [if_neg h, List.find?_cons_of_neg (by simpa using h)]; rfl
theorem exV (u1 u2 : Value) (c f mo : Int) : valsC [exA u1, exB u2] c f mo = if (1 : Int) = c ∧ (0 : Int) = f ∧ (1 : Int) = mo then [10130, 10141] else [] := by
  unfold valsC
  rw [List.filterMap_cons, List.filterMap_cons, List.filterMap_nil]
  simp only [exA, exB, mth_0, mth_60, exF]
  by_cases h1 : (1 : Int) = c
  · by_cases h2 : (0 : Int) = f
    · by_cases h3 : (1 : Int) = mo
      · subst h1; subst h2; subst h3; simp
      · have : ((1 : Int) == mo) = false := beq_eq_false_iff_ne.2 h3
        simp [h3, this]
    · have : ((0 : Int) == f) = false := beq_eq_false_iff_ne.2 h2
      simp [h2, this]
  · simp [h1]
theorem exO (u1 u2 : Value) : outC [exA u1, exB u2] 2640 = exN := by
  have h := out_sorted (R := [exA u1, exB u2]) (exE u1 u2) (K := [((1, 0, 1) : Sl)]) (by simp) (fun k => by
    obtain ⟨c, f, mo⟩ := k
    dsimp only
    rw [exV, List.mem_singleton]
    by_cases h : (1 : Int) = c ∧ (0 : Int) = f ∧ (1 : Int) = mo
    · rw [if_pos h]
      obtain ⟨rfl, rfl, rfl⟩ := h
      simp
    · rw [if_neg h]
      simp only [Prod.mk.injEq, ne_eq, not_true_eq_false, iff_false]
      rintro ⟨rfl, rfl, rfl⟩
      exact h ⟨rfl, rfl, rfl⟩) (by simp)
  rw [← h]
  show [nrC _ 1 0 1] = exN
  unfold nrC
  rw [exV, if_pos ⟨rfl, rfl, rfl⟩]
  decide
theorem exL (u1 u2 : Value) : lrn [exA u1, exB u2] = (exN, 0) := by
  have h := lrn_ok (exE u1 u2) (by rw [exO]; decide)
  rw [exO] at h
  exact h
/-- What is known in the example. -/
structure Exk (W : World) (r1 p1 r2 p2 : Nat) (w : World) : Prop where
  below : Below W.heap.size W w
  ra : Row w r1 81 #[.int .i64 1, .int .i64 10130]
  pa : Row w p1 38 (repC 0 ⟨#[]⟩ 0 0 840 0 0 (.slice (some ⟨r1, 0, none⟩) 1 1))
  rb : Row w r2 81 #[.int .i64 1, .int .i64 10141]
  pb : Row w p2 38 (repC 0 ⟨#[]⟩ 60 0 840 0 0 (.slice (some ⟨r2, 0, none⟩) 1 1))
set_option maxRecDepth 100000 in
set_option maxHeartbeats 4000000 in
theorem awake13 (w : World) (hE : Env w) : Calls Tryd.prog 12 #[] w fun e w' => e = .returned (.bool true) ∧ Below w.heap.size w w' := by
  have HE := Lib.hid hE
  clear hE
  go_enter Tryd.func12, Tryd.ntmps12
  go_upto_region 3 with fail
  refine forget (fun Y => Hid (Exk w w.heap.size (w.heap.size + 1) (w.heap.size + 1 + 1) (w.heap.size + 1 + 1 + 1) Y)) ?_ ?_
  · have b0 := (Below.refl w.heap.size w).alloc (Nat.le_refl _) (.cells #[.int .i64 1, .int .i64 10130] 81)
    have b1 := b0.alloc b0.size (.cells (repC 0 ⟨#[]⟩ 0 0 840 0 0 (.slice (some ⟨w.heap.size, 0, none⟩) 1 1)) 38)
    have b2 := b1.alloc b1.size (.cells #[.int .i64 1, .int .i64 10141] 81)
    have b3 := b2.alloc b2.size (.cells (repC 0 ⟨#[]⟩ 60 0 840 0 0 (.slice (some ⟨w.heap.size + 1 + 1, 0, none⟩) 1 1)) 38)
    exact Lib.hid ⟨b3, (((Row.new _ _ _).alloc _).alloc _).alloc _, ((Row.newAt (by simp)).alloc _).alloc _, (Row.newAt (by simp)).alloc _, Row.newAt (by simp)⟩
  obtain ⟨p2, hp2⟩ : ∃ g, w.heap.size + 1 + 1 + 1 = g := ⟨_, rfl⟩
  obtain ⟨r2, hr2⟩ : ∃ g, w.heap.size + 1 + 1 = g := ⟨_, rfl⟩
  obtain ⟨p1, hp1⟩ : ∃ g, w.heap.size + 1 = g := ⟨_, rfl⟩
  obtain ⟨r1, hr1⟩ : ∃ g, w.heap.size = g := ⟨_, rfl⟩
  rw [hp2, hr2, hp1, hr1]
  clear hp2 hr2 hp1 hr1
  rintro Y HY
  obtain ⟨q0, q1, q2, q3, q4, q5, q6, q7⟩ := row8 HY.out.pa
  obtain ⟨x0, x1, x2, x3, x4, x5, x6, x7⟩ := row8 HY.out.pb
  have b4 := (Below.refl Y.heap.size Y).alloc (Nat.le_refl _) (.cells (rpc [exA (.slice (some ⟨r1, 0, none⟩) 1 1), exB (.slice (some ⟨r2, 0, none⟩) 1 1)]).toArray 38)
  have r4 := Row.new Y (rpc [exA (.slice (some ⟨r1, 0, none⟩) 1 1), exB (.slice (some ⟨r2, 0, none⟩) 1 1)]).toArray 38
  have hra := HY.out.ra.under b4
  have hrb := HY.out.rb.under b4
  have HBl := Lib.hid (HY.out.below.trans (b4.mono HY.out.below.size))
  have hR : RpsIn (Y.alloc (.cells (rpc [exA (.slice (some ⟨r1, 0, none⟩) 1 1), exB (.slice (some ⟨r2, 0, none⟩) 1 1)]).toArray 38)) (.slice (some ⟨Y.heap.size, 0, none⟩) 2 2) [exA (.slice (some ⟨r1, 0, none⟩) 1 1), exB (.slice (some ⟨r2, 0, none⟩) 1 1)] :=
    ⟨_, 2, rfl, Nat.le_refl _, by decide, fun i hi => ⟨Y.heap.size, 0, rfl, r4.lt, by rw [Nat.zero_add]; exact at8_row r4 i hi, by
      rcases (by simp at hi; omega : i = 0 ∨ i = 1) with rfl | rfl
      · exact ex_rd hra
      · exact ex_rd hrb⟩⟩
  have HL := learn_any _ _ _ (HE.out.under HBl.out) hR (by simp) (fun r hr => by
    simp only [List.mem_cons, List.not_mem_nil, or_false] at hr
    rcases hr with rfl | rfl
    · show (1 : Nat) ≤ 40; omega
    · show (1 : Nat) ≤ 40; omega)
  unfold LrnR at HL
  rw [exL] at HL
  have HLL := Lib.hid HL
  clear HL hR hra hrb r4 b4 HY
  go_wp2_with fail
  refine HLL.out.mono ?_
  rintro e w1 ⟨v, rfl, g1, ho⟩
  obtain ⟨A, cap, rfl⟩ := row_form ho
  have b5 := (Below.refl w1.heap.size w1).alloc (Nat.le_refl _) (.cells #[.slice A exN.length cap] 24)
  have H5 : Hid ((Below w.heap.size w (w1.alloc (.cells #[.slice A exN.length cap] 24)) ∧ (w1.alloc (.cells #[.slice A exN.length cap] 24)).ownsRow (Y.alloc (.cells (rpc [exA (.slice (some ⟨r1, 0, none⟩) 1 1), exB (.slice (some ⟨r2, 0, none⟩) 1 1)]).toArray 38)).heap.size 50 5 (.slice A exN.length cap) exN.length (nrc exN)) ∧ Row (w1.alloc (.cells #[.slice A exN.length cap] 24)) w1.heap.size 24 #[.slice A exN.length cap]) := Lib.hid ⟨⟨(HBl.out.trans (g1.mono HBl.out.size)).trans (b5.mono (HBl.out.trans (g1.mono HBl.out.size)).size), El.own_under ho b5⟩, Row.new _ _ _⟩
  clear g1 ho b5 HLL q0 q1 q2 q3 q4 q5 q6 q7 x0 x1 x2 x3 x4 x5 x6 x7
  go_upto_region 4 with fail
  refine forget (fun Z => Hid ((Below w.heap.size w Z ∧ Z.ownsRow (Y.alloc (.cells (rpc [exA (.slice (some ⟨r1, 0, none⟩) 1 1), exB (.slice (some ⟨r2, 0, none⟩) 1 1)]).toArray 38)).heap.size 50 5 (.slice A exN.length cap) exN.length (nrc exN)) ∧ Row Z w1.heap.size 24 #[.slice A exN.length cap])) H5 ?_
  clear H5
  generalize w1.heap.size = gc at *
  rintro Z H5
  have q0 := (H5.out.2.cell 0).trans rfl
  have hlk := lookup_any _ exN 1 1 840 0 0 100 Z (NrIn.own H5.out.1.2) (HE.out.under H5.out.1.1)
  rw [fam_100, lkpR_yes ex_vldN, ex_fnd] at hlk
  have HLk := Lib.hid hlk
  clear hlk
  go_wp2_with fail
  refine HLk.out.mono ?_
  rintro e w2 ⟨rfl, g2⟩
  have H6 : Hid (Below w.heap.size w (w2.alloc (.cells #[.int .i64 1, .int .i64 0, .int .i64 1, .int .i64 10135, .int .i64 6] 50)) ∧ Row (w2.alloc (.cells #[.int .i64 1, .int .i64 0, .int .i64 1, .int .i64 10135, .int .i64 6] 50)) gc 24 #[.slice A exN.length cap] ∧ Row (w2.alloc (.cells #[.int .i64 1, .int .i64 0, .int .i64 1, .int .i64 10135, .int .i64 6] 50)) w2.heap.size 50 #[.int .i64 1, .int .i64 0, .int .i64 1, .int .i64 10135, .int .i64 6]) := Lib.hid ⟨(H5.out.1.1.trans (g2.mono H5.out.1.1.size)).alloc (H5.out.1.1.trans (g2.mono H5.out.1.1.size)).size _, (H5.out.2.under g2).alloc _, Row.new _ _ _⟩
  clear H5 g2 HLk q0
  go_upto_region 5 with fail
  refine forget (fun Z => Hid (Below w.heap.size w Z ∧ Row Z gc 24 #[.slice A exN.length cap] ∧ Row Z w2.heap.size 50 #[.int .i64 1, .int .i64 0, .int .i64 1, .int .i64 10135, .int .i64 6])) H6 ?_
  clear H6
  generalize w2.heap.size = gn at *
  rintro Z2 H6
  have q0 := (H6.out.2.1.cell 0).trans rfl
  obtain ⟨y0, y1, y2, y3, y4⟩ := row5 H6.out.2.2
  rw [show exN.length = 1 from rfl] at q0
  go_wp2_with fail
  go_ret
  exact ⟨rfl, H6.out.1⟩
end Go.Proofs.YtlakgkoohdfiaaaDoor

namespace Go.Proofs.YtlakgkoohdfiaaaDoor
open Go.RowKit Go.Maps

theorem infoBool : (Tryd.prog.info? 4).map (fun i => (i.zero, i.size, i.bytes)) = some (some (.bool false), 1, 1) := by kernel_rfl
/-- The reports with these numbers. -/
def pick (R : List Rp) (P : List Int) : List Rp := P.filterMap fun i => R[i.toNat]?
theorem pick_take (R : List Rp) (P : List Int) {k : Nat} (hk : k < P.length) {r : Rp} (hr : R[P[k].toNat]? = some r) : pick R (P.take (k + 1)) = pick R (P.take k) ++ [r] := by
  unfold pick
  rw [List.take_add_one, List.filterMap_append, List.getElem?_eq_getElem hk]
  simp [hr]
theorem pick_len (R : List Rp) (P : List Int) (k : Nat) : (pick R (P.take k)).length ≤ P.length :=
  Nat.le_trans (List.length_filterMap_le _ _) (by rw [List.length_take]; omega)
theorem pick_upto (R : List Rp) : ∀ k, k ≤ R.length → pick R (upto k) = R.take k := by
  intro k
  induction k with
  | zero => intro _; simp [pick, upto]
  | succ k ih =>
    intro h
    have h1 := ih (by omega)
    unfold pick at h1 ⊢
    rw [upto_succ, List.filterMap_append, h1, List.take_add_one, List.getElem?_eq_getElem (show k < R.length by omega)]
    simp [List.getElem?_eq_getElem (show k < R.length by omega)]
theorem pick_perm {R : List Rp} {P : List Int} (h : P.Perm (upto R.length)) : (pick R P).Perm R := by
  have h1 : (pick R P).Perm (pick R (upto R.length)) := h.filterMap _
  rwa [pick_upto R _ (Nat.le_refl _), List.take_length] at h1
theorem upto_mem {n : Nat} {x : Int} (h : x ∈ upto n) : 0 ≤ x ∧ x < n := by
  unfold upto at h
  obtain ⟨j, hj, rfl⟩ := List.mem_map.1 h
  have := List.mem_range.1 hj
  omega
/-- What is known while the permuted list grows. -/
structure Lo (Z : World) (Q : List Rp) (u : Value) (w : World) : Prop where
  below : Below Z.heap.size Z w
  own : w.ownsRow Z.heap.size 38 8 u Q.length (rpc Q)
theorem Lo.start (Z : World) : Lo Z [] (.slice none 0 0) Z := ⟨Below.refl _ _, World.ownsRow_nil _ _ _ _⟩
theorem Lo.row {Z w : World} {Q : List Rp} {u : Value} (h : Lo Z Q u w) (X : Obj) : (w.alloc X).ownsRow Z.heap.size 38 8 u Q.length (rpc Q) :=
  own_heap h.own (fun i hi => Below.heap_alloc w _ i (row_size h.own hi))
theorem Lo.app {Z w w' : World} {Q : List Rp} {u v : Value} {X : Obj} {r : Rp} (h : Lo Z Q u w) (ho : w'.ownsRow Z.heap.size 38 8 v (Q.length + 1) (rpc Q ++ rpCells r)) (hg : (w.alloc X).grownBy w' u.ownBlock) : Lo Z (Q ++ [r]) v w' := by
  have b1 := h.below.alloc h.below.size X
  exact ⟨El.below_own b1 b1.size (h.row X) hg, by rw [rpc_app, List.length_append]; exact ho⟩
/-- The j-th normal is hit: it is the one of the reading, which is as far from the mean as the spread says. -/
def hitN (N : List Cm.N5) (j : Nat) (F mo : Int) (x : El.Elt.R) : Prop := ∃ n, N[j]? = some n ∧ Cm.fndN N (x.1, F, mo) = some n ∧ max (x.2 - n.2.2.2.1) (n.2.2.2.1 - x.2) = n.2.2.2.2
def D2 (N : List Cm.N5) (R : List Rp) (i j : Nat) : Prop := ∃ r ∈ R.take i, ∃ x ∈ r.L, hitN N j r.F (mth r.t) x
def D3 (N : List Cm.N5) (R : List Rp) (i : Nat) (F mo : Int) (L : List El.Elt.R) (q j : Nat) : Prop := D2 N R i j ∨ ∃ x ∈ L.take q, hitN N j F mo x
def D4 (N : List Cm.N5) (R : List Rp) (i : Nat) (F mo : Int) (L : List El.Elt.R) (q : Nat) (x : El.Elt.R) (p j : Nat) : Prop := D3 N R i F mo L q j ∨ (j < p ∧ hitN N j F mo x)
theorem d2_zero {N : List Cm.N5} {R : List Rp} {j : Nat} : ¬ D2 N R 0 j := fun ⟨r, hr, _⟩ => by simp at hr
theorem d3_zero {N : List Cm.N5} {R : List Rp} {i : Nat} {F mo : Int} {L : List El.Elt.R} {j : Nat} (h : D3 N R i F mo L 0 j) : D2 N R i j := by
  rcases h with h | ⟨x, hx, _⟩
  · exact h
  · simp at hx
theorem d4_zero {N : List Cm.N5} {R : List Rp} {i : Nat} {F mo : Int} {L : List El.Elt.R} {q : Nat} {x : El.Elt.R} {j : Nat} (h : D4 N R i F mo L q x 0 j) : D3 N R i F mo L q j := by
  rcases h with h | ⟨hx, _⟩
  · exact h
  · omega
theorem d2_succ {N : List Cm.N5} {R : List Rp} {i : Nat} (hi : i < R.length) {j : Nat} (h : D2 N R (i + 1) j) : D3 N R i R[i].F (mth R[i].t) R[i].L R[i].L.length j := by
  obtain ⟨r, hr, x, hx, h⟩ := h
  rw [List.take_add_one, List.getElem?_eq_getElem hi] at hr
  rcases List.mem_append.1 hr with hr | hr
  · exact .inl ⟨r, hr, x, hx, h⟩
  · obtain rfl : r = R[i] := by simpa using hr
    exact .inr ⟨x, by rw [List.take_length]; exact hx, h⟩
theorem d3_succ {N : List Cm.N5} {R : List Rp} {i : Nat} {F mo : Int} {L : List El.Elt.R} {q : Nat} (hq : q < L.length) {j : Nat} (hj : j < N.length) (h : D3 N R i F mo L (q + 1) j) : D4 N R i F mo L q L[q] N.length j := by
  rcases h with h | ⟨x, hx, h⟩
  · exact .inl (.inl h)
  · rw [List.take_add_one, List.getElem?_eq_getElem hq] at hx
    rcases List.mem_append.1 hx with hx | hx
    · exact .inl (.inr ⟨x, hx, h⟩)
    · obtain rfl : x = L[q] := by simpa using hx
      exact .inr ⟨hj, h⟩
theorem d4_succ {N : List Cm.N5} {R : List Rp} {i : Nat} {F mo : Int} {L : List El.Elt.R} {q : Nat} {x : El.Elt.R} {p j : Nat} (h : D4 N R i F mo L q x (p + 1) j) : D4 N R i F mo L q x p j ∨ (j = p ∧ hitN N p F mo x) := by
  rcases h with h | ⟨h1, h2⟩
  · exact .inl (.inl h)
  · rcases (by omega : j < p ∨ j = p) with h3 | rfl
    · exact .inl (.inr ⟨h3, h2⟩)
    · exact .inr ⟨rfl, h2⟩
/-- Every normal is hit. -/
theorem d2_all {R : List Rp} (h0 : errC R = 0) {N : List Cm.N5} (hN : outC R 2640 = N) {j : Nat} (hj : j < N.length) : D2 N R R.length j := by
  subst hN
  obtain ⟨r, hr, x, hx, e, hs⟩ := normal_from (List.getElem_mem hj)
  refine ⟨r, by rw [List.take_length]; exact hr, x, hx, _, List.getElem?_eq_getElem hj, ?_, hs.symm⟩
  rw [(has_normal h0 hr hx).2.1, ← e]
theorem mean_in {N : List Cm.N5} (h : Cm.vldN N = 0) {n : Cm.N5} (hn : n ∈ N) : -10000 ≤ n.2.2.2.1 ∧ n.2.2.2.1 ≤ 20000 := by
  have hc := (Cm.vldN_ok h).2.1 _ hn
  unfold Cm.chkN at hc
  split at hc
  · split at hc
    · rename_i q; exact ⟨q.2.2.2.2.1, q.2.2.2.2.2.1⟩
    · cases hc
  · cases hc
/-- What is known in the loops over the reports: the row of marks. -/
structure Lb (Z : World) (gB L : Nat) (D : Nat → Prop) (w : World) : Prop where
  below : Below Z.heap.size Z w
  base : Z.heap.size ≤ gB
  row : ∃ cs : Array Value, Row w gB 4 cs ∧ cs.size = L ∧ ∀ j, j < L → ∃ q : Bool, cs[j]? = some (.bool q) ∧ (D j → q = true)
section
variable {Z w w' : World} {gB L : Nat} {D D' : Nat → Prop}
theorem Lb.under (h : Lb Z gB L D w) (hb : Below w.heap.size w w') : Lb Z gB L D w' := by
  obtain ⟨cs, hr, h2⟩ := h.row
  exact ⟨h.below.trans (hb.mono h.below.size), h.base, cs, hr.under hb, h2⟩
theorem Lb.mono (h : Lb Z gB L D w) (hd : ∀ j, j < L → D' j → D j) : Lb Z gB L D' w := by
  obtain ⟨cs, hr, h1, h2⟩ := h.row
  refine ⟨h.below, h.base, cs, hr, h1, fun j hj => ?_⟩
  obtain ⟨q, e, hq⟩ := h2 j hj
  exact ⟨q, e, fun hD => hq (hd j hj hD)⟩
theorem Lb.start (Z : World) (L : Nat) (hd : ∀ j, j < L → ¬ D j) : Lb Z Z.heap.size L D (Z.alloc (.cells (madeCells #[.bool false] L) 4)) := by
  have e := toList_madeCells_one (.bool false) L
  refine ⟨(Below.refl _ _).alloc (Nat.le_refl _) _, Nat.le_refl _, _, Row.new _ _ _, by rw [← Array.length_toList, e, List.length_replicate], fun j hj => ⟨false, ?_, fun h => absurd h (hd j hj)⟩⟩
  rw [← Array.getElem?_toList, e, List.getElem?_replicate, if_pos hj]
theorem Lb.facts (h : Lb Z gB L D w) {p : Nat} (hp : p < L) : ∃ q : Bool, w.cell? ⟨gB, p, none⟩ = some (.bool q) ∧ (D p → q = true) ∧ w.frozen? ⟨gB, p, none⟩ = false := by
  obtain ⟨cs, hr, h1, h2⟩ := h.row
  obtain ⟨q, e, hq⟩ := h2 p hp
  exact ⟨q, (hr.cell p).trans e, hq, hr.thaw p⟩
theorem Lb.put (h : Lb Z gB L D w) {p : Nat} (hd : ∀ j, D' j → D j ∨ j = p) : Lb Z gB L D' (w.setCell ⟨gB, p, none⟩ (.bool true)) := by
  obtain ⟨cs, hr, h1, h2⟩ := h.row
  refine ⟨set1_below h.below h.base, h.base, _, hr.put p _, by rw [Array.size_setIfInBounds]; exact h1, fun j hj => ?_⟩
  obtain ⟨q, e, hq⟩ := h2 j hj
  rw [Array.getElem?_setIfInBounds]
  by_cases hjp : p = j
  · subst hjp
    exact ⟨true, by rw [if_pos rfl, if_pos (by omega)], fun _ => rfl⟩
  · rw [if_neg hjp]
    exact ⟨q, e, fun hD => hq ((hd j hD).resolve_right (fun e => hjp e.symm))⟩
/-- .. and the report's box. -/
structure Lc (Z : World) (gB L : Nat) (D : Nat → Prop) (gp : Nat) (cp : Array Value) (w : World) : Prop where
  lb : Lb Z gB L D w
  rp : Row w gp 38 cp
variable {gp gx gn : Nat} {cp cx cn : Array Value}
theorem Lc.under (h : Lc Z gB L D gp cp w) (hb : Below w.heap.size w w') : Lc Z gB L D gp cp w' := ⟨h.lb.under hb, h.rp.under hb⟩
theorem Lc.mono (h : Lc Z gB L D gp cp w) (hd : ∀ j, j < L → D' j → D j) : Lc Z gB L D' gp cp w := ⟨h.lb.mono hd, h.rp⟩
/-- .. and the boxes of the reading and of its normal. -/
structure Le (Z : World) (gB L : Nat) (D : Nat → Prop) (gp : Nat) (cp : Array Value) (gx : Nat) (cx : Array Value) (gn : Nat) (cn : Array Value) (w : World) : Prop where
  lc : Lc Z gB L D gp cp w
  rx : Row w gx 81 cx
  rn : Row w gn 50 cn
theorem Le.under (h : Le Z gB L D gp cp gx cx gn cn w) (hb : Below w.heap.size w w') : Le Z gB L D gp cp gx cx gn cn w' := ⟨h.lc.under hb, h.rx.under hb, h.rn.under hb⟩
theorem Le.mono (h : Le Z gB L D gp cp gx cx gn cn w) (hd : ∀ j, j < L → D' j → D j) : Le Z gB L D' gp cp gx cx gn cn w := ⟨h.lc.mono hd, h.rx, h.rn⟩
theorem Le.put (h : Le Z gB L D gp cp gx cx gn cn w) {p : Nat} (hd : ∀ j, D' j → D j ∨ j = p) : Le Z gB L D' gp cp gx cx gn cn (w.setCell ⟨gB, p, none⟩ (.bool true)) := by
  obtain ⟨cs, hr, -⟩ := h.lc.lb.row
  exact ⟨⟨h.lc.lb.put hd, h.lc.rp.far (p := ⟨gB, p, none⟩) (row_ne hr h.lc.rp (by decide)) _⟩, h.rx.far (p := ⟨gB, p, none⟩) (row_ne hr h.rx (by decide)) _, h.rn.far (p := ⟨gB, p, none⟩) (row_ne hr h.rn (by decide)) _⟩
end
end Go.Proofs.YtlakgkoohdfiaaaDoor

namespace Go.Proofs.YtlakgkoohdfiaaaDoor
open Go.RowKit

set_option maxHeartbeats 400000 in
theorem small_any (k : Int) (nm : ByteArray) (t F A B C : Int) (u : Value) (L : List El.Elt.R) (w : World) (hL : El.RdIn w u L) :
    Calls Tryd.prog 30 #[repV k nm t F A B C u] w fun e w' => e = .returned (.bool (decide (nm.size ≤ 40) && decide (L.length ≤ 40))) ∧ Below w.heap.size w w' := by
  obtain ⟨Au, cu, rfl, -⟩ := hL
  go_enter Tryd.func30, Tryd.ntmps30
  by_cases h1 : nm.size ≤ 40
  · have i1 : (nm.size : Int) ≤ 40 := by omega
    by_cases h2 : L.length ≤ 40
    · have i2 : (L.length : Int) ≤ 40 := by omega
      have H := Lib.hid (show (decide (nm.size ≤ 40) && decide (L.length ≤ 40)) = true by rw [decide_eq_true h1, decide_eq_true h2]; rfl)
      clear h1 h2
      go_wp2_with fail
      go_ret
      exact ⟨ret_bool (by rw [H.out]), (Below.refl _ _).alloc (Nat.le_refl _) _⟩
    · have i2 : ¬ (L.length : Int) ≤ 40 := by omega
      have H := Lib.hid (show (decide (nm.size ≤ 40) && decide (L.length ≤ 40)) = false by rw [decide_eq_false h2, Bool.and_false])
      clear h1 h2
      go_wp2_with fail
      go_ret
      exact ⟨ret_bool (by rw [H.out]), (Below.refl _ _).alloc (Nat.le_refl _) _⟩
  · have i1 : ¬ (nm.size : Int) ≤ 40 := by omega
    have H := Lib.hid (show (decide (nm.size ≤ 40) && decide (L.length ≤ 40)) = false by rw [decide_eq_false h1, Bool.false_and])
    clear h1
    go_wp2_with fail
    go_ret
    exact ⟨ret_bool (by rw [H.out]), (Below.refl _ _).alloc (Nat.le_refl _) _⟩
/-- What SmallAll says of a list that it lets pass. -/
def Sml (n : Nat) (R : List Rp) : Prop := R.length ≤ n ∧ ∀ r ∈ R, r.nm.size ≤ 40 ∧ r.L.length ≤ 40
structure SmO (n : Nat) (R : List Rp) (e : Ending) : Prop where
  ex : ∃ b : Bool, e = .returned (.bool b) ∧ (b = true → Sml n R)
set_option maxRecDepth 100000 in
set_option maxHeartbeats 4000000 in
theorem smallAll_any (u : Value) (R : List Rp) (n : Nat) (w : World) (hu : RpsIn w u R) :
    Calls Tryd.prog 11 #[u, .int .i64 n] w fun e w' => SmO n R e ∧ Below w.heap.size w w' := by
  have HU := Lib.hid hu
  obtain ⟨A, cap, rfl, h1, h2, -⟩ := hu
  by_cases hlen : R.length ≤ n
  · have hl : ¬ (n : Int) < (R.length : Int) := by omega
    go_enter Tryd.func11, Tryd.ntmps11
    go_wp2_with fail
    go_loopw [5] (fun t Y => ∃ k : Nat, k ≤ R.length ∧ t = .int .i64 k ∧ Hid (Below w.heap.size w Y) ∧ Hid (∀ r ∈ R.take k, r.nm.size ≤ 40 ∧ r.L.length ≤ 40)) (fun t _ => R.length - (intOf t).toNat)
    case atStart => exact ⟨0, Nat.zero_le _, rfl, Lib.hid (Below.refl _ _), Lib.hid (fun r h => absurd h (by simp))⟩
    case round =>
      obtain ⟨k, hk, rfl, M, HT⟩ := hrel
      by_cases hlt : k < R.length
      · have k0 : (0 : Int) ≤ (k : Int) := by omega
        have k1 : (k : Int) < (R.length : Int) := by omega
        obtain ⟨A', cap', ea, -, -, h4⟩ := (HU.out.under M.out)
        injection ea with ea el ec
        clear el
        subst ea
        subst ec
        obtain ⟨g, off, rfl, hgl, h8, hrd⟩ := h4 k hlt
        have HST := Lib.hid (fun (h : R[k].nm.size ≤ 40 ∧ R[k].L.length ≤ 40) => show ∀ r ∈ R.take (k + 1), r.nm.size ≤ 40 ∧ r.L.length ≤ 40 from fun r hr => by
          rw [List.take_succ_eq_append_getElem hlt] at hr
          rcases List.mem_append.1 hr with hr | hr
          · exact HT.out r hr
          · rw [List.mem_singleton.1 hr]; exact h)
        obtain ⟨rk, hrk0⟩ : ∃ rk, R[k] = rk := ⟨_, rfl⟩
        rw [hrk0] at h8 hrd HST
        clear hrk0 h4 hgl
        obtain ⟨kk, nm, tt, F, A0, B0, C, uu, L⟩ := rk
        obtain ⟨Au, cu, eu, -⟩ := id hrd
        simp only at eu hrd
        subst eu
        obtain ⟨c0, c1, c2, c3, c4, c5, c6, c7⟩ := h8
        simp only at c0 c1 c2 c3 c4 c5 c6 c7
        have HSm := Lib.hid (small_any kk nm tt F A0 B0 C (.slice Au L.length cu) L wr hrd)
        obtain ⟨bz, hbz⟩ : ∃ bz, (decide (nm.size ≤ 40) && decide (L.length ≤ 40)) = bz := ⟨_, rfl⟩
        rw [hbz] at HSm
        have HBZ := Lib.hid hbz
        clear hrd hbz
        go_wp2_with fail
        refine HSm.out.mono ?_
        rintro e w3 ⟨rfl, hb⟩
        have M3 : Hid (Below w.heap.size w w3) := Lib.hid (M.out.trans (hb.mono M.out.size))
        clear hb M HSm c0 c1 c2 c3 c4 c5 c6 c7
        cases bz
        · go_wp2_with fail
          go_ret
          exact ⟨⟨⟨false, rfl, fun h => absurd h (by decide)⟩⟩, M3.out⟩
        · go_wp2_with fail
          go_roundw
          case rel => exact ⟨k + 1, by omega, by go_num, M3, Lib.hid (HST.out (by have h := HBZ.out; rw [Bool.and_eq_true, decide_eq_true_iff, decide_eq_true_iff] at h; exact h))⟩
          case measure => simp [intOf]; omega
      · have k1 : ¬ (k : Int) < (R.length : Int) := by omega
        have HE := Lib.hid (show ∀ r ∈ R, r.nm.size ≤ 40 ∧ r.L.length ≤ 40 by
          have h := HT.out
          rwa [List.take_of_length_le (by omega)] at h)
        go_wp2_with fail
        go_ret
        exact ⟨⟨⟨true, rfl, fun _ => ⟨hlen, HE.out⟩⟩⟩, M.out⟩
  · have hl : (n : Int) < (R.length : Int) := by omega
    clear hlen
    go_enter Tryd.func11, Tryd.ntmps11
    go_wp2_with fail
    go_ret
    exact ⟨⟨⟨false, rfl, fun h => absurd h (by decide)⟩⟩, Below.refl _ _⟩
end Go.Proofs.YtlakgkoohdfiaaaDoor
