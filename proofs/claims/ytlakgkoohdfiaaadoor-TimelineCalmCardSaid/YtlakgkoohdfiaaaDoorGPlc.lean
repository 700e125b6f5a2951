/- What the statements draw: a normal place. -/
import Derived.Test.YtlakgkoohdfiaaaDoorQae
import Derived.Test.YtlakgkoohdfiaaaDoorQaf
namespace Go.Proofs.YtlakgkoohdfiaaaDoor
open Go.RowKit

theorem nrm_nrm {f : Nat} {A B C : Int} (h : Pl.Ico.Vld f A B C) : nrm (Pl.Ico.nf f A B C : Nat) (Pl.nw f A B C 0) (Pl.nw f A B C 1) (Pl.nw f A B C 2) = true := by
  obtain ⟨k1, k2⟩ := Pl.Ico.nf_ok h
  have hs := Pl.Ico.wt_on h k1 k2
  have hn := Pl.Ico.nf_same hs
  have hv := Pl.Ico.vld_on h k1 k2
  have e : ∀ k, Pl.nw (Pl.Ico.nf f A B C) (Pl.Ico.wt f A B C (Pl.Ico.cor (Pl.Ico.nf f A B C) 0)) (Pl.Ico.wt f A B C (Pl.Ico.cor (Pl.Ico.nf f A B C) 1)) (Pl.Ico.wt f A B C (Pl.Ico.cor (Pl.Ico.nf f A B C) 2)) k = Pl.nw f A B C k := fun k => by unfold Pl.nw; rw [hn, hs]
  unfold nrm
  have h0 : ((Pl.Ico.nf f A B C : Nat) : Int).toNat = Pl.Ico.nf f A B C := by omega
  rw [h0]
  have e0 : ∀ k, Pl.nw f A B C k = Pl.Ico.wt f A B C (Pl.Ico.cor (Pl.Ico.nf f A B C) k) := fun k => rfl
  rw [e0 0, e0 1, e0 2, e 0, e 1, e 2, hn, Pl.vb_of hv]
  simp [e0]
/-- What Place leaves: a normal place. -/
def Plc (W : World) (b : Nat) (w : World) (e : Ending) (w' : World) : Prop := ∃ F A B C : Int, nrm F A B C = true ∧ e = .returned (.agg #[.int .i64 F, .int .i64 A, .int .i64 B, .int .i64 C]) ∧ Src W b w' ∧ w.grownBy w' (some b)
set_option maxRecDepth 100000 in
set_option maxHeartbeats 4000000 in
theorem place_any (W : World) (b : Nat) (w : World) (h : Src W b w) :
    Calls Tryd.prog 24 #[.pointer (some ⟨b, 0, none⟩)] w (Plc W b w) := by
  have hbl := src_lt h
  have hW := h.below.size
  go_enter Tryd.func24, Tryd.ntmps24
  go_wp2_with fail
  refine (n_any W b _ _ (h.under ((Below.refl _ _).alloc (Nat.le_refl _) _)) (by omega) (by omega)).mono ?_
  rintro e w1 ⟨x0, ⟨a1, a2⟩, rfl, s1, g1⟩
  obtain ⟨f, rfl⟩ := Int.eq_ofNat_of_zero_le a1
  have hf : f < 20 := by omega
  have hz1 : w.heap.size + 1 ≤ w1.heap.size := by have := g1.size; simp at this; omega
  go_wp2_with fail
  refine (n_any W b _ _ s1 (by omega) (by omega)).mono ?_
  rintro e w2 ⟨A, ⟨A1, A2⟩, rfl, s2, g2⟩
  have hz2 : w.heap.size + 1 ≤ w2.heap.size := Nat.le_trans hz1 g2.size
  have I0 : Pl.In W b w w.heap.size w2.heap.size f A 0 0 (w2.alloc (.cells #[.int .i64 f, .int .i64 A, .int .i64 0, .int .i64 0] 27)) :=
    ⟨s2.under ((Below.refl _ _).alloc (Nat.le_refl _) _), grown_trans (grown_trans (grown_trans (grown_below ((Below.refl _ _).alloc (Nat.le_refl _) _)) g1) g2) (grown_below ((Below.refl _ _).alloc (Nat.le_refl _) _)),
      (((Row.new w _ _).grown g1 (by simp; omega)).grown g2 (by simp; omega)).alloc _, Row.new _ _ _, by omega, Nat.le_refl _, by omega, by omega, by omega, hW⟩
  go_upto_region 2 with fail
  refine forget (Pl.In W b w w.heap.size w2.heap.size f A 0 0) I0 ?_
  clear I0 s1 g1 a1 a2 hW hbl h hz1 s2 g2 hz2
  generalize w2.heap.size = gp at *
  obtain ⟨gr, hgr⟩ : ∃ g, w.heap.size = g := ⟨_, rfl⟩
  rw [hgr]
  clear hgr
  rintro Y I
  go_wp2_with fail
  refine (n_any W b _ _ I.src (by omega) (by omega)).mono ?_
  rintro e w3 ⟨x1, ⟨a1, a2⟩, rfl, s3, g3⟩
  have I3 := I.step s3 g3
  clear I s3 g3
  rcases (by omega : x1 = 0 ∨ x1 = 1 ∨ (x1 ≠ 0 ∧ x1 ≠ 1)) with rfl | rfl | ⟨n0, n1⟩
  · clear a1 a2
    go_wp2_with fail
    refine (n_any W b _ _ I3.src (by omega) (by omega)).mono ?_
    rintro e w4 ⟨z, ⟨z1, z2⟩, rfl, s4, g4⟩
    have I4 := I3.step s4 g4
    clear I3 s4 g4
    obtain ⟨⟨c0, c1, c2, c3⟩, f1, f2, f3⟩ := I4.cells
    go_upto_region 7 with fail
    refine forget (fun Y => ∃ A : Int, 0 ≤ A ∧ A ≤ 840 ∧ Pl.In W b w gr gp f A 0 0 Y) ⟨_, by omega, by omega, I4.set1 _⟩ ?_
    clear I4 c0 c1 c2 c3 f1 f2 f3 A1 A2
    rintro V ⟨A, h1, h2, I⟩
    obtain ⟨⟨c0, c1, c2, c3⟩, f1, f2, f3⟩ := I.cells
    go_wp2_with fail
    refine (n_any W b _ _ I.src (by omega) (by omega)).mono ?_
    rintro e w5 ⟨B, ⟨k1, k2⟩, rfl, s5, g5⟩
    have I5 := I.step s5 g5
    clear I s5 g5 c0 c1 c2 c3 f1 f2 f3
    obtain ⟨⟨c0, c1, c2, c3⟩, f1, f2, f3⟩ := I5.cells
    go_upto_region 8 with fail
    refine forget (Pl.In W b w gr gp f A B 0) (I5.set2 _) ?_
    clear I5 c0 c1 c2 c3 f1 f2 f3
    rintro U I
    go_wp2_with fail
    refine (n_any W b _ _ I.src (by omega) (by omega)).mono ?_
    rintro e w6 ⟨y, ⟨y1, y2⟩, rfl, s6, g6⟩
    have I6 := I.step s6 g6
    clear I s6 g6
    obtain ⟨⟨c0, c1, c2, c3⟩, f1, f2, f3⟩ := I6.cells
    by_cases hy : y = 0
    · subst hy
      clear y1 y2
      have tm := Int.tmod_eq_emod_of_nonneg (a := B) (b := 105) (by omega)
      have tb := Int.emod_lt_of_pos B (show (0 : Int) < 105 by omega)
      have tc := Int.emod_nonneg B (show (105 : Int) ≠ 0 by omega)
      go_upto_region 10 with fail
      refine forget (fun Z => ∃ B : Int, 0 ≤ B ∧ A + B ≤ 840 ∧ Pl.In W b w gr gp f A B 0 Z) ⟨_, ?_, ?_, I6.set2 _⟩ ?_
      · omega
      · omega
      clear I6 c0 c1 c2 c3 f1 f2 f3 k1 k2 tm tb tc
      rintro Z ⟨B, h3, h4, I⟩
      obtain ⟨⟨c0, c1, c2, c3⟩, f1, f2, f3⟩ := I.cells
      go_upto_region 11 with fail
      refine forget (Pl.In W b w gr gp f A B (840 - A - B)) (I.set3 _) ?_
      clear I c0 c1 c2 c3 f1 f2 f3
      rintro T I
      have hv : Pl.Ico.Vld f A B (840 - A - B) := by unfold Pl.Ico.Vld; omega
      generalize 840 - A - B = C at *
      obtain ⟨⟨c0, c1, c2, c3⟩, -⟩ := I.cells
      go_wp2_with fail
      refine (Pl.refNormal_yes f A B C _ hv).mono ?_
      rintro e w9 ⟨rfl, g9⟩
      have HN := Lib.hid (nrm_nrm hv)
      generalize ((Pl.Ico.nf f A B C : Nat) : Int) = n0 at *
      generalize Pl.nw f A B C 0 = n1 at *
      generalize Pl.nw f A B C 1 = n2 at *
      generalize Pl.nw f A B C 2 = n3 at *
      have I9 := (I.step (I.src.under g9) (grown_below g9)).step ((I.src.under g9).under ((Below.refl _ _).alloc (Nat.le_refl _) (.cells #[.int .i64 n0, .int .i64 n1, .int .i64 n2, .int .i64 n3] 27))) (grown_below ((Below.refl _ _).alloc (Nat.le_refl _) _))
      have rn := Row.new w9 #[.int .i64 n0, .int .i64 n1, .int .i64 n2, .int .i64 n3] 27
      clear I g9 c0 c1 c2 c3 hv h1 h2 h3 h4
      go_upto_region 12 with fail
      generalize w9.alloc (.cells #[.int .i64 n0, .int .i64 n1, .int .i64 n2, .int .i64 n3] 27) = W9 at *
      generalize w9.heap.size = g9 at *
      obtain ⟨p0, p1, p2, p3⟩ := row4 rn
      have z0 := I9.res.thaw 0
      have z1 := I9.res.thaw 1
      have z2 := I9.res.thaw 2
      have z3 := I9.res.thaw 3
      obtain ⟨d0, d1, d2, d3⟩ := row4 I9.res
      have HZ := Lib.hid (I9.sets (.int .i64 n0) (.int .i64 n1) (.int .i64 n2) (.int .i64 n3))
      clear I9 rn
      go_wp2_with fail
      exact bodyPost_ret (v := .agg #[.int .i64 n0, .int .i64 n1, .int .i64 n2, .int .i64 n3]) (results_cell_row Tryd.results24 _ _ gr 27 _ (0, 0) _ rfl HZ.out.2.2 Tryd.underlying27 rfl (by kernel_rfl)) rfl ⟨n0, n1, n2, n3, HN.out, rfl, HZ.out.1, HZ.out.2.1⟩
    · have q : (y == 0) = false := beq_eq_false_iff_ne.2 hy
      clear y1 y2 hy
      go_upto_region 10 with fail
      refine forget (fun Z => ∃ B : Int, 0 ≤ B ∧ A + B ≤ 840 ∧ Pl.In W b w gr gp f A B 0 Z) ⟨B, by omega, by omega, I6⟩ ?_
      clear I6 c0 c1 c2 c3 f1 f2 f3 k1 k2
      rintro Z ⟨B, h3, h4, I⟩
      obtain ⟨⟨c0, c1, c2, c3⟩, f1, f2, f3⟩ := I.cells
      go_upto_region 11 with fail
      refine forget (Pl.In W b w gr gp f A B (840 - A - B)) (I.set3 _) ?_
      clear I c0 c1 c2 c3 f1 f2 f3
      rintro T I
      have hv : Pl.Ico.Vld f A B (840 - A - B) := by unfold Pl.Ico.Vld; omega
      generalize 840 - A - B = C at *
      obtain ⟨⟨c0, c1, c2, c3⟩, -⟩ := I.cells
      go_wp2_with fail
      refine (Pl.refNormal_yes f A B C _ hv).mono ?_
      rintro e w9 ⟨rfl, g9⟩
      have HN := Lib.hid (nrm_nrm hv)
      generalize ((Pl.Ico.nf f A B C : Nat) : Int) = n0 at *
      generalize Pl.nw f A B C 0 = n1 at *
      generalize Pl.nw f A B C 1 = n2 at *
      generalize Pl.nw f A B C 2 = n3 at *
      have I9 := (I.step (I.src.under g9) (grown_below g9)).step ((I.src.under g9).under ((Below.refl _ _).alloc (Nat.le_refl _) (.cells #[.int .i64 n0, .int .i64 n1, .int .i64 n2, .int .i64 n3] 27))) (grown_below ((Below.refl _ _).alloc (Nat.le_refl _) _))
      have rn := Row.new w9 #[.int .i64 n0, .int .i64 n1, .int .i64 n2, .int .i64 n3] 27
      clear I g9 c0 c1 c2 c3 hv h1 h2 h3 h4
      go_upto_region 12 with fail
      generalize w9.alloc (.cells #[.int .i64 n0, .int .i64 n1, .int .i64 n2, .int .i64 n3] 27) = W9 at *
      generalize w9.heap.size = g9 at *
      obtain ⟨p0, p1, p2, p3⟩ := row4 rn
      have z0 := I9.res.thaw 0
      have z1 := I9.res.thaw 1
      have z2 := I9.res.thaw 2
      have z3 := I9.res.thaw 3
      obtain ⟨d0, d1, d2, d3⟩ := row4 I9.res
      have HZ := Lib.hid (I9.sets (.int .i64 n0) (.int .i64 n1) (.int .i64 n2) (.int .i64 n3))
      clear I9 rn
      go_wp2_with fail
      exact bodyPost_ret (v := .agg #[.int .i64 n0, .int .i64 n1, .int .i64 n2, .int .i64 n3]) (results_cell_row Tryd.results24 _ _ gr 27 _ (0, 0) _ rfl HZ.out.2.2 Tryd.underlying27 rfl (by kernel_rfl)) rfl ⟨n0, n1, n2, n3, HN.out, rfl, HZ.out.1, HZ.out.2.1⟩
  · clear a1 a2
    go_wp2_with fail
    refine (n_any W b _ _ I3.src (by omega) (by omega)).mono ?_
    rintro e w4 ⟨z, ⟨z1, z2⟩, rfl, s4, g4⟩
    have I4 := I3.step s4 g4
    clear I3 s4 g4
    obtain ⟨⟨c0, c1, c2, c3⟩, f1, f2, f3⟩ := I4.cells
    go_upto_region 7 with fail
    refine forget (fun Y => ∃ A : Int, 0 ≤ A ∧ A ≤ 840 ∧ Pl.In W b w gr gp f A 0 0 Y) ⟨_, by omega, by omega, I4.set1 _⟩ ?_
    clear I4 c0 c1 c2 c3 f1 f2 f3 A1 A2
    rintro V ⟨A, h1, h2, I⟩
    obtain ⟨⟨c0, c1, c2, c3⟩, f1, f2, f3⟩ := I.cells
    go_wp2_with fail
    refine (n_any W b _ _ I.src (by omega) (by omega)).mono ?_
    rintro e w5 ⟨B, ⟨k1, k2⟩, rfl, s5, g5⟩
    have I5 := I.step s5 g5
    clear I s5 g5 c0 c1 c2 c3 f1 f2 f3
    obtain ⟨⟨c0, c1, c2, c3⟩, f1, f2, f3⟩ := I5.cells
    go_upto_region 8 with fail
    refine forget (Pl.In W b w gr gp f A B 0) (I5.set2 _) ?_
    clear I5 c0 c1 c2 c3 f1 f2 f3
    rintro U I
    go_wp2_with fail
    refine (n_any W b _ _ I.src (by omega) (by omega)).mono ?_
    rintro e w6 ⟨y, ⟨y1, y2⟩, rfl, s6, g6⟩
    have I6 := I.step s6 g6
    clear I s6 g6
    obtain ⟨⟨c0, c1, c2, c3⟩, f1, f2, f3⟩ := I6.cells
    by_cases hy : y = 0
    · subst hy
      clear y1 y2
      have tm := Int.tmod_eq_emod_of_nonneg (a := B) (b := 105) (by omega)
      have tb := Int.emod_lt_of_pos B (show (0 : Int) < 105 by omega)
      have tc := Int.emod_nonneg B (show (105 : Int) ≠ 0 by omega)
      go_upto_region 10 with fail
      refine forget (fun Z => ∃ B : Int, 0 ≤ B ∧ A + B ≤ 840 ∧ Pl.In W b w gr gp f A B 0 Z) ⟨_, ?_, ?_, I6.set2 _⟩ ?_
      · omega
      · omega
      clear I6 c0 c1 c2 c3 f1 f2 f3 k1 k2 tm tb tc
      rintro Z ⟨B, h3, h4, I⟩
      obtain ⟨⟨c0, c1, c2, c3⟩, f1, f2, f3⟩ := I.cells
      go_upto_region 11 with fail
      refine forget (Pl.In W b w gr gp f A B (840 - A - B)) (I.set3 _) ?_
      clear I c0 c1 c2 c3 f1 f2 f3
      rintro T I
      have hv : Pl.Ico.Vld f A B (840 - A - B) := by unfold Pl.Ico.Vld; omega
      generalize 840 - A - B = C at *
      obtain ⟨⟨c0, c1, c2, c3⟩, -⟩ := I.cells
      go_wp2_with fail
      refine (Pl.refNormal_yes f A B C _ hv).mono ?_
      rintro e w9 ⟨rfl, g9⟩
      have HN := Lib.hid (nrm_nrm hv)
      generalize ((Pl.Ico.nf f A B C : Nat) : Int) = n0 at *
      generalize Pl.nw f A B C 0 = n1 at *
      generalize Pl.nw f A B C 1 = n2 at *
      generalize Pl.nw f A B C 2 = n3 at *
      have I9 := (I.step (I.src.under g9) (grown_below g9)).step ((I.src.under g9).under ((Below.refl _ _).alloc (Nat.le_refl _) (.cells #[.int .i64 n0, .int .i64 n1, .int .i64 n2, .int .i64 n3] 27))) (grown_below ((Below.refl _ _).alloc (Nat.le_refl _) _))
      have rn := Row.new w9 #[.int .i64 n0, .int .i64 n1, .int .i64 n2, .int .i64 n3] 27
      clear I g9 c0 c1 c2 c3 hv h1 h2 h3 h4
      go_upto_region 12 with fail
      generalize w9.alloc (.cells #[.int .i64 n0, .int .i64 n1, .int .i64 n2, .int .i64 n3] 27) = W9 at *
      generalize w9.heap.size = g9 at *
      obtain ⟨p0, p1, p2, p3⟩ := row4 rn
      have z0 := I9.res.thaw 0
      have z1 := I9.res.thaw 1
      have z2 := I9.res.thaw 2
      have z3 := I9.res.thaw 3
      obtain ⟨d0, d1, d2, d3⟩ := row4 I9.res
      have HZ := Lib.hid (I9.sets (.int .i64 n0) (.int .i64 n1) (.int .i64 n2) (.int .i64 n3))
      clear I9 rn
      go_wp2_with fail
      exact bodyPost_ret (v := .agg #[.int .i64 n0, .int .i64 n1, .int .i64 n2, .int .i64 n3]) (results_cell_row Tryd.results24 _ _ gr 27 _ (0, 0) _ rfl HZ.out.2.2 Tryd.underlying27 rfl (by kernel_rfl)) rfl ⟨n0, n1, n2, n3, HN.out, rfl, HZ.out.1, HZ.out.2.1⟩
    · have q : (y == 0) = false := beq_eq_false_iff_ne.2 hy
      clear y1 y2 hy
      go_upto_region 10 with fail
      refine forget (fun Z => ∃ B : Int, 0 ≤ B ∧ A + B ≤ 840 ∧ Pl.In W b w gr gp f A B 0 Z) ⟨B, by omega, by omega, I6⟩ ?_
      clear I6 c0 c1 c2 c3 f1 f2 f3 k1 k2
      rintro Z ⟨B, h3, h4, I⟩
      obtain ⟨⟨c0, c1, c2, c3⟩, f1, f2, f3⟩ := I.cells
      go_upto_region 11 with fail
      refine forget (Pl.In W b w gr gp f A B (840 - A - B)) (I.set3 _) ?_
      clear I c0 c1 c2 c3 f1 f2 f3
      rintro T I
      have hv : Pl.Ico.Vld f A B (840 - A - B) := by unfold Pl.Ico.Vld; omega
      generalize 840 - A - B = C at *
      obtain ⟨⟨c0, c1, c2, c3⟩, -⟩ := I.cells
      go_wp2_with fail
      refine (Pl.refNormal_yes f A B C _ hv).mono ?_
      rintro e w9 ⟨rfl, g9⟩
      have HN := Lib.hid (nrm_nrm hv)
      generalize ((Pl.Ico.nf f A B C : Nat) : Int) = n0 at *
      generalize Pl.nw f A B C 0 = n1 at *
      generalize Pl.nw f A B C 1 = n2 at *
      generalize Pl.nw f A B C 2 = n3 at *
      have I9 := (I.step (I.src.under g9) (grown_below g9)).step ((I.src.under g9).under ((Below.refl _ _).alloc (Nat.le_refl _) (.cells #[.int .i64 n0, .int .i64 n1, .int .i64 n2, .int .i64 n3] 27))) (grown_below ((Below.refl _ _).alloc (Nat.le_refl _) _))
      have rn := Row.new w9 #[.int .i64 n0, .int .i64 n1, .int .i64 n2, .int .i64 n3] 27
      clear I g9 c0 c1 c2 c3 hv h1 h2 h3 h4
      go_upto_region 12 with fail
      generalize w9.alloc (.cells #[.int .i64 n0, .int .i64 n1, .int .i64 n2, .int .i64 n3] 27) = W9 at *
      generalize w9.heap.size = g9 at *
      obtain ⟨p0, p1, p2, p3⟩ := row4 rn
      have z0 := I9.res.thaw 0
      have z1 := I9.res.thaw 1
      have z2 := I9.res.thaw 2
      have z3 := I9.res.thaw 3
      obtain ⟨d0, d1, d2, d3⟩ := row4 I9.res
      have HZ := Lib.hid (I9.sets (.int .i64 n0) (.int .i64 n1) (.int .i64 n2) (.int .i64 n3))
      clear I9 rn
      go_wp2_with fail
      exact bodyPost_ret (v := .agg #[.int .i64 n0, .int .i64 n1, .int .i64 n2, .int .i64 n3]) (results_cell_row Tryd.results24 _ _ gr 27 _ (0, 0) _ rfl HZ.out.2.2 Tryd.underlying27 rfl (by kernel_rfl)) rfl ⟨n0, n1, n2, n3, HN.out, rfl, HZ.out.1, HZ.out.2.1⟩
  · have q0 : (x1 == 0) = false := beq_eq_false_iff_ne.2 n0
    have q1 : (x1 == 1) = false := beq_eq_false_iff_ne.2 n1
    clear a1 a2 n0 n1
    go_upto_region 7 with fail
    refine forget (fun Y => ∃ A : Int, 0 ≤ A ∧ A ≤ 840 ∧ Pl.In W b w gr gp f A 0 0 Y) ⟨A, by omega, by omega, I3⟩ ?_
    clear I3 A1 A2
    rintro V ⟨A, h1, h2, I⟩
    obtain ⟨⟨c0, c1, c2, c3⟩, f1, f2, f3⟩ := I.cells
    go_wp2_with fail
    refine (n_any W b _ _ I.src (by omega) (by omega)).mono ?_
    rintro e w5 ⟨B, ⟨k1, k2⟩, rfl, s5, g5⟩
    have I5 := I.step s5 g5
    clear I s5 g5 c0 c1 c2 c3 f1 f2 f3
    obtain ⟨⟨c0, c1, c2, c3⟩, f1, f2, f3⟩ := I5.cells
    go_upto_region 8 with fail
    refine forget (Pl.In W b w gr gp f A B 0) (I5.set2 _) ?_
    clear I5 c0 c1 c2 c3 f1 f2 f3
    rintro U I
    go_wp2_with fail
    refine (n_any W b _ _ I.src (by omega) (by omega)).mono ?_
    rintro e w6 ⟨y, ⟨y1, y2⟩, rfl, s6, g6⟩
    have I6 := I.step s6 g6
    clear I s6 g6
    obtain ⟨⟨c0, c1, c2, c3⟩, f1, f2, f3⟩ := I6.cells
    by_cases hy : y = 0
    · subst hy
      clear y1 y2
      have tm := Int.tmod_eq_emod_of_nonneg (a := B) (b := 105) (by omega)
      have tb := Int.emod_lt_of_pos B (show (0 : Int) < 105 by omega)
      have tc := Int.emod_nonneg B (show (105 : Int) ≠ 0 by omega)
      go_upto_region 10 with fail
      refine forget (fun Z => ∃ B : Int, 0 ≤ B ∧ A + B ≤ 840 ∧ Pl.In W b w gr gp f A B 0 Z) ⟨_, ?_, ?_, I6.set2 _⟩ ?_
      · omega
      · omega
      clear I6 c0 c1 c2 c3 f1 f2 f3 k1 k2 tm tb tc
      rintro Z ⟨B, h3, h4, I⟩
      obtain ⟨⟨c0, c1, c2, c3⟩, f1, f2, f3⟩ := I.cells
      go_upto_region 11 with fail
      refine forget (Pl.In W b w gr gp f A B (840 - A - B)) (I.set3 _) ?_
      clear I c0 c1 c2 c3 f1 f2 f3
      rintro T I
      have hv : Pl.Ico.Vld f A B (840 - A - B) := by unfold Pl.Ico.Vld; omega
      generalize 840 - A - B = C at *
      obtain ⟨⟨c0, c1, c2, c3⟩, -⟩ := I.cells
      go_wp2_with fail
      refine (Pl.refNormal_yes f A B C _ hv).mono ?_
      rintro e w9 ⟨rfl, g9⟩
      have HN := Lib.hid (nrm_nrm hv)
      generalize ((Pl.Ico.nf f A B C : Nat) : Int) = n0 at *
      generalize Pl.nw f A B C 0 = n1 at *
      generalize Pl.nw f A B C 1 = n2 at *
      generalize Pl.nw f A B C 2 = n3 at *
      have I9 := (I.step (I.src.under g9) (grown_below g9)).step ((I.src.under g9).under ((Below.refl _ _).alloc (Nat.le_refl _) (.cells #[.int .i64 n0, .int .i64 n1, .int .i64 n2, .int .i64 n3] 27))) (grown_below ((Below.refl _ _).alloc (Nat.le_refl _) _))
      have rn := Row.new w9 #[.int .i64 n0, .int .i64 n1, .int .i64 n2, .int .i64 n3] 27
      clear I g9 c0 c1 c2 c3 hv h1 h2 h3 h4
      go_upto_region 12 with fail
      generalize w9.alloc (.cells #[.int .i64 n0, .int .i64 n1, .int .i64 n2, .int .i64 n3] 27) = W9 at *
      generalize w9.heap.size = g9 at *
      obtain ⟨p0, p1, p2, p3⟩ := row4 rn
      have z0 := I9.res.thaw 0
      have z1 := I9.res.thaw 1
      have z2 := I9.res.thaw 2
      have z3 := I9.res.thaw 3
      obtain ⟨d0, d1, d2, d3⟩ := row4 I9.res
      have HZ := Lib.hid (I9.sets (.int .i64 n0) (.int .i64 n1) (.int .i64 n2) (.int .i64 n3))
      clear I9 rn
      go_wp2_with fail
      exact bodyPost_ret (v := .agg #[.int .i64 n0, .int .i64 n1, .int .i64 n2, .int .i64 n3]) (results_cell_row Tryd.results24 _ _ gr 27 _ (0, 0) _ rfl HZ.out.2.2 Tryd.underlying27 rfl (by kernel_rfl)) rfl ⟨n0, n1, n2, n3, HN.out, rfl, HZ.out.1, HZ.out.2.1⟩
    · have q : (y == 0) = false := beq_eq_false_iff_ne.2 hy
      clear y1 y2 hy
      go_upto_region 10 with fail
      refine forget (fun Z => ∃ B : Int, 0 ≤ B ∧ A + B ≤ 840 ∧ Pl.In W b w gr gp f A B 0 Z) ⟨B, by omega, by omega, I6⟩ ?_
      clear I6 c0 c1 c2 c3 f1 f2 f3 k1 k2
      rintro Z ⟨B, h3, h4, I⟩
      obtain ⟨⟨c0, c1, c2, c3⟩, f1, f2, f3⟩ := I.cells
      go_upto_region 11 with fail
      refine forget (Pl.In W b w gr gp f A B (840 - A - B)) (I.set3 _) ?_
      clear I c0 c1 c2 c3 f1 f2 f3
      rintro T I
      have hv : Pl.Ico.Vld f A B (840 - A - B) := by unfold Pl.Ico.Vld; omega
      generalize 840 - A - B = C at *
      obtain ⟨⟨c0, c1, c2, c3⟩, -⟩ := I.cells
      go_wp2_with fail
      refine (Pl.refNormal_yes f A B C _ hv).mono ?_
      rintro e w9 ⟨rfl, g9⟩
      have HN := Lib.hid (nrm_nrm hv)
      generalize ((Pl.Ico.nf f A B C : Nat) : Int) = n0 at *
      generalize Pl.nw f A B C 0 = n1 at *
      generalize Pl.nw f A B C 1 = n2 at *
      generalize Pl.nw f A B C 2 = n3 at *
      have I9 := (I.step (I.src.under g9) (grown_below g9)).step ((I.src.under g9).under ((Below.refl _ _).alloc (Nat.le_refl _) (.cells #[.int .i64 n0, .int .i64 n1, .int .i64 n2, .int .i64 n3] 27))) (grown_below ((Below.refl _ _).alloc (Nat.le_refl _) _))
      have rn := Row.new w9 #[.int .i64 n0, .int .i64 n1, .int .i64 n2, .int .i64 n3] 27
      clear I g9 c0 c1 c2 c3 hv h1 h2 h3 h4
      go_upto_region 12 with fail
      generalize w9.alloc (.cells #[.int .i64 n0, .int .i64 n1, .int .i64 n2, .int .i64 n3] 27) = W9 at *
      generalize w9.heap.size = g9 at *
      obtain ⟨p0, p1, p2, p3⟩ := row4 rn
      have z0 := I9.res.thaw 0
      have z1 := I9.res.thaw 1
      have z2 := I9.res.thaw 2
      have z3 := I9.res.thaw 3
      obtain ⟨d0, d1, d2, d3⟩ := row4 I9.res
      have HZ := Lib.hid (I9.sets (.int .i64 n0) (.int .i64 n1) (.int .i64 n2) (.int .i64 n3))
      clear I9 rn
      go_wp2_with fail
      exact bodyPost_ret (v := .agg #[.int .i64 n0, .int .i64 n1, .int .i64 n2, .int .i64 n3]) (results_cell_row Tryd.results24 _ _ gr 27 _ (0, 0) _ rfl HZ.out.2.2 Tryd.underlying27 rfl (by kernel_rfl)) rfl ⟨n0, n1, n2, n3, HN.out, rfl, HZ.out.1, HZ.out.2.1⟩
end Go.Proofs.YtlakgkoohdfiaaaDoor

