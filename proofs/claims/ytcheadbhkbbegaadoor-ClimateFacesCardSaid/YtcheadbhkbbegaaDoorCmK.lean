/- Climate: the chapter's example. -/
import Derived.Test.YtcheadbhkbbegaaDoorQap
import Derived.Test.YtcheadbhkbbegaaDoorCmW
namespace Go.Proofs.YtcheadbhkbbegaaDoor
open Go.RowKit

def exA (u : Value) : Rp := ⟨0, ⟨#[]⟩, 0, 0, 840, 0, 0, u, [(1, 10130)]⟩
def exB (u : Value) : Rp := ⟨0, ⟨#[]⟩, 60, 0, 840, 0, 0, u, [(1, 10141)]⟩
theorem nrm_0 : nrm 0 840 0 0 = true := (nrm_iff (f := 0) (by unfold Pl.Ico.Vld; omega)).2 (by decide +kernel)
theorem exE (u1 u2 : Value) : errC [exA u1, exB u2] = 0 := by
  have ha : erC (exA u1) = 0 := by
    show (if nrm 0 840 0 0 = true ∧ Ck.Cal.rng 0 = true then El.Elt.vld [(1, 10130)] else 1) = 0
    rw [if_pos ⟨nrm_0, by decide⟩, ex_vld (by decide) (by decide)]
  have hb : erC (exB u2) = 0 := by
    show (if nrm 0 840 0 0 = true ∧ Ck.Cal.rng 60 = true then El.Elt.vld [(1, 10141)] else 1) = 0
    rw [if_pos ⟨nrm_0, by decide⟩, ex_vld (by decide) (by decide)]
  exact errC_zero _ (fun j hj => by
    rcases (by simp at hj; omega : j = 0 ∨ j = 1) with rfl | rfl
    · exact ha
    · exact hb)
theorem exF (x c : Int) : El.Elt.fnd [(1, x)] c = if (1 : Int) = c then some x else none := by
  unfold El.Elt.fnd
  by_cases h : (1 : Int) = c
  · rw [if_pos h, List.find?_cons_of_pos (by simpa using h)]; rfl
  · rw [if_neg h, List.find?_cons_of_neg (by simpa using h)]; rfl
theorem exV (u1 u2 : Value) (c f mo : Int) : valsC [exA u1, exB u2] c f mo = if (1 : Int) = c ∧ (0 : Int) = f ∧ (1 : Int) = mo then [10130, 10141] else [] := by
  unfold valsC
  rw [List.filterMap_cons, List.filterMap_cons, List.filterMap_nil]
  simp only [exA, exB, mth_0, mth_60, exF]
  by_cases h1 : (1 : Int) = c
  · by_cases h2 : (0 : Int) = f
    · by_cases h3 : (1 : Int) = mo
      · subst h1; subst h2; subst h3; simp
      · have : ((1 : Int) == mo) = false := beq_eq_false_iff_ne.2 h3
        simp [h3, this]
    · have : ((0 : Int) == f) = false := beq_eq_false_iff_ne.2 h2
      simp [h2, this]
  · simp [h1]
theorem exO (u1 u2 : Value) : outC [exA u1, exB u2] 2640 = exN := by
  have h := out_sorted (R := [exA u1, exB u2]) (exE u1 u2) (K := [((1, 0, 1) : Sl)]) (by simp) (fun k => by
    obtain ⟨c, f, mo⟩ := k
    dsimp only
    rw [exV, List.mem_singleton]
    by_cases h : (1 : Int) = c ∧ (0 : Int) = f ∧ (1 : Int) = mo
    · rw [if_pos h]
      obtain ⟨rfl, rfl, rfl⟩ := h
      simp
    · rw [if_neg h]
      simp only [Prod.mk.injEq, ne_eq, not_true_eq_false, iff_false]
      rintro ⟨rfl, rfl, rfl⟩
      exact h ⟨rfl, rfl, rfl⟩) (by simp)
  rw [← h]
  show [nrC _ 1 0 1] = exN
  unfold nrC
  rw [exV, if_pos ⟨rfl, rfl, rfl⟩]
  decide
theorem exL (u1 u2 : Value) : lrn [exA u1, exB u2] = (exN, 0) := by
  have h := lrn_ok (exE u1 u2) (by rw [exO]; decide)
  rw [exO] at h
  exact h
/-- What is known in the example. -/
structure Exk (W : World) (r1 p1 r2 p2 : Nat) (w : World) : Prop where
  below : Below W.heap.size W w
  ra : Row w r1 60 #[.int .i64 1, .int .i64 10130]
  pa : Row w p1 38 (repC 0 ⟨#[]⟩ 0 0 840 0 0 (.slice (some ⟨r1, 0, none⟩) 1 1))
  rb : Row w r2 60 #[.int .i64 1, .int .i64 10141]
  pb : Row w p2 38 (repC 0 ⟨#[]⟩ 60 0 840 0 0 (.slice (some ⟨r2, 0, none⟩) 1 1))
set_option maxRecDepth 100000 in
set_option maxHeartbeats 4000000 in
theorem awake13 (w : World) (hE : Env w) : Calls Tryd.prog 12 #[] w fun e w' => e = .returned (.bool true) ∧ Below w.heap.size w w' := by
  have HE := Lib.hid hE
  clear hE
  go_enter Tryd.func12, Tryd.ntmps12
  go_upto_region 3 with fail
  refine forget (fun Y => Hid (Exk w w.heap.size (w.heap.size + 1) (w.heap.size + 1 + 1) (w.heap.size + 1 + 1 + 1) Y)) ?_ ?_
  · have b0 := (Below.refl w.heap.size w).alloc (Nat.le_refl _) (.cells #[.int .i64 1, .int .i64 10130] 60)
    have b1 := b0.alloc b0.size (.cells (repC 0 ⟨#[]⟩ 0 0 840 0 0 (.slice (some ⟨w.heap.size, 0, none⟩) 1 1)) 38)
    have b2 := b1.alloc b1.size (.cells #[.int .i64 1, .int .i64 10141] 60)
    have b3 := b2.alloc b2.size (.cells (repC 0 ⟨#[]⟩ 60 0 840 0 0 (.slice (some ⟨w.heap.size + 1 + 1, 0, none⟩) 1 1)) 38)
    exact Lib.hid ⟨b3, (((Row.new _ _ _).alloc _).alloc _).alloc _, ((Row.newAt (by simp)).alloc _).alloc _, (Row.newAt (by simp)).alloc _, Row.newAt (by simp)⟩
  obtain ⟨p2, hp2⟩ : ∃ g, w.heap.size + 1 + 1 + 1 = g := ⟨_, rfl⟩
  obtain ⟨r2, hr2⟩ : ∃ g, w.heap.size + 1 + 1 = g := ⟨_, rfl⟩
  obtain ⟨p1, hp1⟩ : ∃ g, w.heap.size + 1 = g := ⟨_, rfl⟩
  obtain ⟨r1, hr1⟩ : ∃ g, w.heap.size = g := ⟨_, rfl⟩
  rw [hp2, hr2, hp1, hr1]
  clear hp2 hr2 hp1 hr1
  rintro Y HY
  obtain ⟨q0, q1, q2, q3, q4, q5, q6, q7⟩ := row8 HY.out.pa
  obtain ⟨x0, x1, x2, x3, x4, x5, x6, x7⟩ := row8 HY.out.pb
  have b4 := (Below.refl Y.heap.size Y).alloc (Nat.le_refl _) (.cells (rpc [exA (.slice (some ⟨r1, 0, none⟩) 1 1), exB (.slice (some ⟨r2, 0, none⟩) 1 1)]).toArray 38)
  have r4 := Row.new Y (rpc [exA (.slice (some ⟨r1, 0, none⟩) 1 1), exB (.slice (some ⟨r2, 0, none⟩) 1 1)]).toArray 38
  have hra := HY.out.ra.under b4
  have hrb := HY.out.rb.under b4
  have HBl := Lib.hid (HY.out.below.trans (b4.mono HY.out.below.size))
  have hR : RpsIn (Y.alloc (.cells (rpc [exA (.slice (some ⟨r1, 0, none⟩) 1 1), exB (.slice (some ⟨r2, 0, none⟩) 1 1)]).toArray 38)) (.slice (some ⟨Y.heap.size, 0, none⟩) 2 2) [exA (.slice (some ⟨r1, 0, none⟩) 1 1), exB (.slice (some ⟨r2, 0, none⟩) 1 1)] :=
    ⟨_, 2, rfl, Nat.le_refl _, by decide, fun i hi => ⟨Y.heap.size, 0, rfl, r4.lt, by rw [Nat.zero_add]; exact at8_row r4 i hi, by
      rcases (by simp at hi; omega : i = 0 ∨ i = 1) with rfl | rfl
      · exact ex_rd hra
      · exact ex_rd hrb⟩⟩
  have HL := learn_any _ _ _ (HE.out.under HBl.out) hR (by simp) (fun r hr => by
    simp only [List.mem_cons, List.not_mem_nil, or_false] at hr
    rcases hr with rfl | rfl
    · show (1 : Nat) ≤ 40; omega
    · show (1 : Nat) ≤ 40; omega)
  unfold LrnR at HL
  rw [exL] at HL
  have HLL := Lib.hid HL
  clear HL hR hra hrb r4 b4 HY
  go_wp2_with fail
  refine HLL.out.mono ?_
  rintro e w1 ⟨v, rfl, g1, ho⟩
  obtain ⟨A, cap, rfl⟩ := row_form ho
  have b5 := (Below.refl w1.heap.size w1).alloc (Nat.le_refl _) (.cells #[.slice A exN.length cap] 24)
  have H5 : Hid ((Below w.heap.size w (w1.alloc (.cells #[.slice A exN.length cap] 24)) ∧ (w1.alloc (.cells #[.slice A exN.length cap] 24)).ownsRow (Y.alloc (.cells (rpc [exA (.slice (some ⟨r1, 0, none⟩) 1 1), exB (.slice (some ⟨r2, 0, none⟩) 1 1)]).toArray 38)).heap.size 50 5 (.slice A exN.length cap) exN.length (nrc exN)) ∧ Row (w1.alloc (.cells #[.slice A exN.length cap] 24)) w1.heap.size 24 #[.slice A exN.length cap]) := Lib.hid ⟨⟨(HBl.out.trans (g1.mono HBl.out.size)).trans (b5.mono (HBl.out.trans (g1.mono HBl.out.size)).size), El.own_under ho b5⟩, Row.new _ _ _⟩
  clear g1 ho b5 HLL q0 q1 q2 q3 q4 q5 q6 q7 x0 x1 x2 x3 x4 x5 x6 x7
  go_upto_region 4 with fail
  refine forget (fun Z => Hid ((Below w.heap.size w Z ∧ Z.ownsRow (Y.alloc (.cells (rpc [exA (.slice (some ⟨r1, 0, none⟩) 1 1), exB (.slice (some ⟨r2, 0, none⟩) 1 1)]).toArray 38)).heap.size 50 5 (.slice A exN.length cap) exN.length (nrc exN)) ∧ Row Z w1.heap.size 24 #[.slice A exN.length cap])) H5 ?_
  clear H5
  generalize w1.heap.size = gc at *
  rintro Z H5
  have q0 := (H5.out.2.cell 0).trans rfl
  have hlk := lookup_any _ exN 1 1 840 0 0 100 Z (NrIn.own H5.out.1.2) (HE.out.under H5.out.1.1)
  rw [fam_100, lkpR_yes ex_vldN, ex_fnd] at hlk
  have HLk := Lib.hid hlk
  clear hlk
  go_wp2_with fail
  refine HLk.out.mono ?_
  rintro e w2 ⟨rfl, g2⟩
  have H6 : Hid (Below w.heap.size w (w2.alloc (.cells #[.int .i64 1, .int .i64 0, .int .i64 1, .int .i64 10135, .int .i64 6] 50)) ∧ Row (w2.alloc (.cells #[.int .i64 1, .int .i64 0, .int .i64 1, .int .i64 10135, .int .i64 6] 50)) gc 24 #[.slice A exN.length cap] ∧ Row (w2.alloc (.cells #[.int .i64 1, .int .i64 0, .int .i64 1, .int .i64 10135, .int .i64 6] 50)) w2.heap.size 50 #[.int .i64 1, .int .i64 0, .int .i64 1, .int .i64 10135, .int .i64 6]) := Lib.hid ⟨(H5.out.1.1.trans (g2.mono H5.out.1.1.size)).alloc (H5.out.1.1.trans (g2.mono H5.out.1.1.size)).size _, (H5.out.2.under g2).alloc _, Row.new _ _ _⟩
  clear H5 g2 HLk q0
  go_upto_region 5 with fail
  refine forget (fun Z => Hid (Below w.heap.size w Z ∧ Row Z gc 24 #[.slice A exN.length cap] ∧ Row Z w2.heap.size 50 #[.int .i64 1, .int .i64 0, .int .i64 1, .int .i64 10135, .int .i64 6])) H6 ?_
  clear H6
  generalize w2.heap.size = gn at *
  rintro Z2 H6
  have q0 := (H6.out.2.1.cell 0).trans rfl
  obtain ⟨y0, y1, y2, y3, y4⟩ := row5 H6.out.2.2
  rw [show exN.length = 1 from rfl] at q0
  go_wp2_with fail
  go_ret
  exact ⟨rfl, H6.out.1⟩
end Go.Proofs.YtcheadbhkbbegaaDoor
