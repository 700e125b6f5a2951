/- The contract of somewhere: a valid place. -/
import Derived.Test.YtehehhehilgnkaaIndex
import Derived.Deep.Cut
import Derived.Deep.CutRange
namespace Go.Proofs.Ytehehhehilgnkaa
open Go.RowKit

/-- What somewhere leaves: a valid place, the reader as it should be, and nothing but the reader's block turned. -/
def Sent (W : World) (b : Nat) (w : World) (e : Ending) (w' : World) : Prop := ∃ (f : Nat) (x y z : Int), Ico.Vld f x y z ∧ e = .returned (.agg #[.int .i64 f, .int .i64 x, .int .i64 y, .int .i64 z]) ∧ Src W b w' ∧ w.grownBy w' (some b)
/-- What is known inside. -/
structure In (W : World) (b : Nat) (w0 : World) (gr gp : Nat) (p q r s : Int) (w : World) : Prop where
  src : Src W b w
  gro : w0.grownBy w (some b)
  res : Row w gr 23 #[.int .i64 0, .int .i64 0, .int .i64 0, .int .i64 0]
  pl : Row w gp 23 #[.int .i64 p, .int .i64 q, .int .i64 r, .int .i64 s]
  ne : gr ≠ gp
  nr : w0.heap.size ≤ gr
  np : w0.heap.size ≤ gp
  br : gr ≠ b
  bp : gp ≠ b
  w0W : W.heap.size ≤ w0.heap.size
section
variable {W w0 w w' : World} {b gr gp : Nat} {p q r s : Int}
theorem In.step (h : In W b w0 gr gp p q r s w) (hs : Src W b w') (hg : w.grownBy w' (some b)) : In W b w0 gr gp p q r s w' :=
  ⟨hs, grown_trans h.gro hg, h.res.grown hg (fun e => h.br (by injection e)), h.pl.grown hg (fun e => h.bp (by injection e)), h.ne, h.nr, h.np, h.br, h.bp, h.w0W⟩
theorem grown_set {a c : World} {B : Nat} {row : Option Nat} (h : a.grownBy c row) (g j : Nat) (u : Value) (hg : a.heap.size ≤ g) (hB : B = g) : a.grownBy (c.setCell ⟨B, j, none⟩ u) row := by
  subst hB
  exact ⟨h.os, h.tape, h.output, Nat.le_trans h.size (by simp), fun i hi hr => (Below.heap_setCell c ⟨B, j, none⟩ u i (fun e => by simp at e; omega)).trans (h.block i hi hr)⟩
theorem src_set {c : World} (h : Src W b c) (g j : Nat) (u : Value) (hg : W.heap.size ≤ g) (hb : g ≠ b) : Src W b (c.setCell ⟨g, j, none⟩ u) := by
  obtain ⟨A, n, cp, k, h1, h2, h3, h4⟩ := h.row
  exact ⟨h.base, h.below.setCell (p := ⟨g, j, none⟩) hg _, A, n, cp, k, h1, h2, (Below.heap_setCell c ⟨g, j, none⟩ u b (Ne.symm hb)).trans h3, h4⟩
theorem In.set1 (h : In W b w0 gr gp p q r s w) (x : Int) : In W b w0 gr gp p x r s (w.setCell ⟨gp, 1, none⟩ (.int .i64 x)) :=
  ⟨src_set h.src _ _ _ (Nat.le_trans h.w0W h.np) h.bp, grown_set h.gro gp 1 _ h.np rfl, h.res.far (Ne.symm h.ne) _, h.pl.put 1 _, h.ne, h.nr, h.np, h.br, h.bp, h.w0W⟩
theorem In.set2 (h : In W b w0 gr gp p q r s w) (x : Int) : In W b w0 gr gp p q x s (w.setCell ⟨gp, 2, none⟩ (.int .i64 x)) :=
  ⟨src_set h.src _ _ _ (Nat.le_trans h.w0W h.np) h.bp, grown_set h.gro gp 2 _ h.np rfl, h.res.far (Ne.symm h.ne) _, h.pl.put 2 _, h.ne, h.nr, h.np, h.br, h.bp, h.w0W⟩
theorem In.set3 (h : In W b w0 gr gp p q r s w) (x : Int) : In W b w0 gr gp p q r x (w.setCell ⟨gp, 3, none⟩ (.int .i64 x)) :=
  ⟨src_set h.src _ _ _ (Nat.le_trans h.w0W h.np) h.bp, grown_set h.gro gp 3 _ h.np rfl, h.res.far (Ne.symm h.ne) _, h.pl.put 3 _, h.ne, h.nr, h.np, h.br, h.bp, h.w0W⟩
theorem In.cells (h : In W b w0 gr gp p q r s w) :
    (w.cell? ⟨gp, 0, none⟩ = some (.int .i64 p) ∧ w.cell? ⟨gp, 1, none⟩ = some (.int .i64 q) ∧ w.cell? ⟨gp, 2, none⟩ = some (.int .i64 r) ∧ w.cell? ⟨gp, 3, none⟩ = some (.int .i64 s)) ∧
    (w.frozen? ⟨gp, 1, none⟩ = false ∧ w.frozen? ⟨gp, 2, none⟩ = false ∧ w.frozen? ⟨gp, 3, none⟩ = false) := ⟨row4 h.pl, h.pl.thaw 1, h.pl.thaw 2, h.pl.thaw 3⟩
theorem In.sets (h : In W b w0 gr gp p q r s w) (u0 u1 u2 u3 : Value) :
    Src W b ((((w.setCell ⟨gr, 0, none⟩ u0).setCell ⟨gr, 1, none⟩ u1).setCell ⟨gr, 2, none⟩ u2).setCell ⟨gr, 3, none⟩ u3) ∧ w0.grownBy ((((w.setCell ⟨gr, 0, none⟩ u0).setCell ⟨gr, 1, none⟩ u1).setCell ⟨gr, 2, none⟩ u2).setCell ⟨gr, 3, none⟩ u3) (some b) ∧
    Row ((((w.setCell ⟨gr, 0, none⟩ u0).setCell ⟨gr, 1, none⟩ u1).setCell ⟨gr, 2, none⟩ u2).setCell ⟨gr, 3, none⟩ u3) gr 23 #[u0, u1, u2, u3] := by
  have hW := Nat.le_trans h.w0W h.nr
  have r0 : Row (w.setCell ⟨gr, 0, none⟩ u0) gr 23 #[u0, .int .i64 0, .int .i64 0, .int .i64 0] := h.res.put 0 _
  have r1 : Row ((w.setCell ⟨gr, 0, none⟩ u0).setCell ⟨gr, 1, none⟩ u1) gr 23 #[u0, u1, .int .i64 0, .int .i64 0] := r0.put 1 _
  have r2 : Row (((w.setCell ⟨gr, 0, none⟩ u0).setCell ⟨gr, 1, none⟩ u1).setCell ⟨gr, 2, none⟩ u2) gr 23 #[u0, u1, u2, .int .i64 0] := r1.put 2 _
  exact ⟨src_set (src_set (src_set (src_set h.src _ _ _ hW h.br) _ _ _ hW h.br) _ _ _ hW h.br) _ _ _ hW h.br, grown_set (grown_set (grown_set (grown_set h.gro gr 0 _ h.nr rfl) gr 1 _ h.nr rfl) gr 2 _ h.nr rfl) gr 3 _ h.nr rfl, r2.put 3 _⟩
end
set_option maxRecDepth 100000 in
set_option maxHeartbeats 8000000 in
theorem somewhere_any (W : World) (b : Nat) (w : World) (h : Src W b w) :
    Calls Try.prog 10 #[.pointer (some ⟨b, 0, none⟩)] w (Sent W b w) := by
  have hbl : b < w.heap.size := by
    obtain ⟨_, _, _, _, _, _, h3, _⟩ := h.row
    exact (Array.getElem?_eq_some_iff.1 h3).1
  have hW := h.below.size
  go_enter Try.func10, Try.ntmps10
  go_wp2_with fail
  refine (n_any W b _ _ (h.under ((Below.refl _ _).alloc (Nat.le_refl _) _)) (by omega) (by omega)).mono ?_
  rintro e w0 ⟨x0, ⟨a1, a2⟩, rfl, s0, g0⟩
  obtain ⟨f, rfl⟩ := Int.eq_ofNat_of_zero_le a1
  have hf : f < 20 := by omega
  go_wp2_with fail
  refine (n_any W b _ _ s0 (by omega) (by omega)).mono ?_
  rintro e w1 ⟨x, ⟨b1, b2⟩, rfl, s1, g1⟩
  have g01 := grown_trans g0 g1
  have hz1 : w.heap.size + 1 ≤ w1.heap.size := by have := g01.size; simp at this; omega
  have I0 : In W b w w.heap.size w1.heap.size f x 0 0 (w1.alloc (.cells #[.int .i64 f, .int .i64 x, .int .i64 0, .int .i64 0] 23)) :=
    ⟨s1.under ((Below.refl _ _).alloc (Nat.le_refl _) _), grown_trans (grown_trans (grown_below ((Below.refl _ _).alloc (Nat.le_refl _) _)) g01) (grown_below ((Below.refl _ _).alloc (Nat.le_refl _) _)),
      ((Row.new w _ _).grown g01 (by simp; omega)).alloc _, Row.new _ _ _, by omega, Nat.le_refl _, by omega, by omega, by omega, hW⟩
  go_upto_region 2 with fail
  refine forget (In W b w w.heap.size w1.heap.size f x 0 0) I0 ?_
  clear I0 s1 s0 g1 g0 g01 a1 a2 hW hbl h hz1
  generalize w1.heap.size = gp at *
  obtain ⟨gr, hgr⟩ : ∃ g, w.heap.size = g := ⟨_, rfl⟩
  rw [hgr]
  clear hgr
  rintro Y I
  go_wp2_with fail
  refine (n_any W b _ _ I.src (by omega) (by omega)).mono ?_
  rintro e w2 ⟨x1, ⟨a1, a2⟩, rfl, s2, g2⟩
  have I2 := I.step s2 g2
  clear I s2 g2
  by_cases hx1 : x1 = 0
  · subst hx1
    clear a1 a2
    go_wp2_with fail
    refine (n_any W b _ _ I2.src (by omega) (by omega)).mono ?_
    rintro e w3 ⟨j, ⟨j1, j2⟩, rfl, s3, g3⟩
    have I3 := I2.step s3 g3
    obtain ⟨⟨c0, c1, c2, c3⟩, f1, f2, f3⟩ := I3.cells
    clear I2 s3 g3
    go_upto_region 4 with fail
    refine forget (fun Y => ∃ A : Int, 0 ≤ A ∧ A ≤ 840 ∧ In W b w gr gp f A 0 0 Y) ⟨105 * j, by omega, by omega, I3.set1 _⟩ ?_
    clear I3 c0 c1 c2 c3 f1 f2 f3 j1 j2 b1 b2
    rintro Z ⟨A, h1, h2, I⟩
    obtain ⟨⟨c0, c1, c2, c3⟩, f1, f2, f3⟩ := I.cells
    go_wp2_with fail
    refine (n_any W b _ _ I.src (by omega) (by omega)).mono ?_
    rintro e w5 ⟨y, ⟨d1, d2⟩, rfl, s5, g5⟩
    have I5 := I.step s5 g5
    clear I s5 g5 c0 c1 c2 c3 f1 f2 f3
    obtain ⟨⟨c0, c1, c2, c3⟩, f1, f2, f3⟩ := I5.cells
    go_upto_region 5 with fail
    refine forget (fun Y => ∃ A B : Int, 0 ≤ A ∧ 0 ≤ B ∧ A + B ≤ 840 ∧ In W b w gr gp f A B 0 Y) ⟨A, y, by omega, by omega, by omega, I5.set2 _⟩ ?_
    clear I5 c0 c1 c2 c3 f1 f2 f3 h1 h2 d1 d2
    rintro V ⟨A, B, h1, h2, h3, I⟩
    go_wp2_with fail
    refine (n_any W b _ _ I.src (by omega) (by omega)).mono ?_
    rintro e w6 ⟨k, ⟨k1, k2⟩, rfl, s6, g6⟩
    have I2 := I.step s6 g6
    clear I s6 g6
    obtain ⟨⟨c0, c1, c2, c3⟩, f1, f2, f3⟩ := I2.cells
    have hx : k = 0 ∨ k = 1 ∨ (k ≠ 0 ∧ k ≠ 1) := by omega
    clear k1 k2
    rcases hx with rfl | rfl | ⟨n0, n1⟩
    · go_upto_region 10 with fail
      refine forget (fun Y => ∃ A B : Int, 0 ≤ A ∧ 0 ≤ B ∧ A + B ≤ 840 ∧ In W b w gr gp f A B 0 Y) ⟨A, 0, by omega, by omega, by omega, I2.set2 _⟩ ?_
      clear I2 c0 c1 c2 c3 f1 f2 f3 h1 h2 h3
      rintro V ⟨A, B, h1, h2, h3, I⟩
      obtain ⟨⟨c0, c1, c2, c3⟩, f1, f2, f3⟩ := I.cells
      go_upto_region 11 with fail
      refine forget (In W b w gr gp f A B (840 - A - B)) (I.set3 _) ?_
      clear I c0 c1 c2 c3 f1 f2 f3
      rintro U I
      obtain ⟨⟨c0, c1, c2, c3⟩, f1, f2, f3⟩ := I.cells
      have v9 : Ico.Vld f A B (840 - A - B) := by unfold Ico.Vld; omega
      generalize 840 - A - B = C at *
      have z0 := I.res.thaw 0
      have z1 := I.res.thaw 1
      have z2 := I.res.thaw 2
      have z3 := I.res.thaw 3
      obtain ⟨d0, d1, d2, d3⟩ := row4 I.res
      have HZ := Lib.hid (I.sets (.int .i64 f) (.int .i64 A) (.int .i64 B) (.int .i64 C))
      have HV := Lib.hid v9
      clear I v9 h1 h2 h3
      go_wp2_with fail
      exact bodyPost_ret (v := .agg #[.int .i64 f, .int .i64 A, .int .i64 B, .int .i64 C]) (results_cell_row Try.results10 _ _ gr 23 _ (0, 0) _ rfl HZ.out.2.2 Try.underlying23 rfl (by kernel_rfl)) rfl ⟨f, A, B, C, HV.out, rfl, HZ.out.1, HZ.out.2.1⟩

    · have m0 : 0 ≤ B % 105 ∧ B % 105 ≤ B := by omega
      obtain ⟨m0, m1⟩ := m0
      go_upto_region 10 with fail
      refine forget (fun Y => ∃ A B : Int, 0 ≤ A ∧ 0 ≤ B ∧ A + B ≤ 840 ∧ In W b w gr gp f A B 0 Y) ⟨A, B - B % 105, by omega, by omega, by omega, I2.set2 _⟩ ?_
      clear m0 m1 I2 c0 c1 c2 c3 f1 f2 f3 h1 h2 h3
      rintro V ⟨A, B, h1, h2, h3, I⟩
      obtain ⟨⟨c0, c1, c2, c3⟩, f1, f2, f3⟩ := I.cells
      go_upto_region 11 with fail
      refine forget (In W b w gr gp f A B (840 - A - B)) (I.set3 _) ?_
      clear I c0 c1 c2 c3 f1 f2 f3
      rintro U I
      obtain ⟨⟨c0, c1, c2, c3⟩, f1, f2, f3⟩ := I.cells
      have v9 : Ico.Vld f A B (840 - A - B) := by unfold Ico.Vld; omega
      generalize 840 - A - B = C at *
      have z0 := I.res.thaw 0
      have z1 := I.res.thaw 1
      have z2 := I.res.thaw 2
      have z3 := I.res.thaw 3
      obtain ⟨d0, d1, d2, d3⟩ := row4 I.res
      have HZ := Lib.hid (I.sets (.int .i64 f) (.int .i64 A) (.int .i64 B) (.int .i64 C))
      have HV := Lib.hid v9
      clear I v9 h1 h2 h3
      go_wp2_with fail
      exact bodyPost_ret (v := .agg #[.int .i64 f, .int .i64 A, .int .i64 B, .int .i64 C]) (results_cell_row Try.results10 _ _ gr 23 _ (0, 0) _ rfl HZ.out.2.2 Try.underlying23 rfl (by kernel_rfl)) rfl ⟨f, A, B, C, HV.out, rfl, HZ.out.1, HZ.out.2.1⟩

    · have q0 : (k == 0) = false := beq_eq_false_iff_ne.2 n0
      have q1 : (k == 1) = false := beq_eq_false_iff_ne.2 n1
      clear n0 n1
      go_upto_region 10 with fail
      refine forget (fun Y => ∃ A B : Int, 0 ≤ A ∧ 0 ≤ B ∧ A + B ≤ 840 ∧ In W b w gr gp f A B 0 Y) ⟨A, B, by omega, by omega, by omega, I2⟩ ?_
      clear I2 c0 c1 c2 c3 f1 f2 f3 h1 h2 h3
      rintro V ⟨A, B, h1, h2, h3, I⟩
      obtain ⟨⟨c0, c1, c2, c3⟩, f1, f2, f3⟩ := I.cells
      go_upto_region 11 with fail
      refine forget (In W b w gr gp f A B (840 - A - B)) (I.set3 _) ?_
      clear I c0 c1 c2 c3 f1 f2 f3
      rintro U I
      obtain ⟨⟨c0, c1, c2, c3⟩, f1, f2, f3⟩ := I.cells
      have v9 : Ico.Vld f A B (840 - A - B) := by unfold Ico.Vld; omega
      generalize 840 - A - B = C at *
      have z0 := I.res.thaw 0
      have z1 := I.res.thaw 1
      have z2 := I.res.thaw 2
      have z3 := I.res.thaw 3
      obtain ⟨d0, d1, d2, d3⟩ := row4 I.res
      have HZ := Lib.hid (I.sets (.int .i64 f) (.int .i64 A) (.int .i64 B) (.int .i64 C))
      have HV := Lib.hid v9
      clear I v9 h1 h2 h3
      go_wp2_with fail
      exact bodyPost_ret (v := .agg #[.int .i64 f, .int .i64 A, .int .i64 B, .int .i64 C]) (results_cell_row Try.results10 _ _ gr 23 _ (0, 0) _ rfl HZ.out.2.2 Try.underlying23 rfl (by kernel_rfl)) rfl ⟨f, A, B, C, HV.out, rfl, HZ.out.1, HZ.out.2.1⟩

  · have q : (x1 == 0) = false := beq_eq_false_iff_ne.2 hx1
    clear a1 a2 hx1
    go_upto_region 4 with fail
    refine forget (fun Y => ∃ A : Int, 0 ≤ A ∧ A ≤ 840 ∧ In W b w gr gp f A 0 0 Y) ⟨x, by omega, by omega, I2⟩ ?_
    clear I2 b1 b2 q
    rintro Z ⟨A, h1, h2, I⟩
    obtain ⟨⟨c0, c1, c2, c3⟩, f1, f2, f3⟩ := I.cells
    go_wp2_with fail
    refine (n_any W b _ _ I.src (by omega) (by omega)).mono ?_
    rintro e w5 ⟨y, ⟨d1, d2⟩, rfl, s5, g5⟩
    have I5 := I.step s5 g5
    clear I s5 g5 c0 c1 c2 c3 f1 f2 f3
    obtain ⟨⟨c0, c1, c2, c3⟩, f1, f2, f3⟩ := I5.cells
    go_upto_region 5 with fail
    refine forget (fun Y => ∃ A B : Int, 0 ≤ A ∧ 0 ≤ B ∧ A + B ≤ 840 ∧ In W b w gr gp f A B 0 Y) ⟨A, y, by omega, by omega, by omega, I5.set2 _⟩ ?_
    clear I5 c0 c1 c2 c3 f1 f2 f3 h1 h2 d1 d2
    rintro V ⟨A, B, h1, h2, h3, I⟩
    go_wp2_with fail
    refine (n_any W b _ _ I.src (by omega) (by omega)).mono ?_
    rintro e w6 ⟨k, ⟨k1, k2⟩, rfl, s6, g6⟩
    have I2 := I.step s6 g6
    clear I s6 g6
    obtain ⟨⟨c0, c1, c2, c3⟩, f1, f2, f3⟩ := I2.cells
    have hx : k = 0 ∨ k = 1 ∨ (k ≠ 0 ∧ k ≠ 1) := by omega
    clear k1 k2
    rcases hx with rfl | rfl | ⟨n0, n1⟩
    · go_upto_region 10 with fail
      refine forget (fun Y => ∃ A B : Int, 0 ≤ A ∧ 0 ≤ B ∧ A + B ≤ 840 ∧ In W b w gr gp f A B 0 Y) ⟨A, 0, by omega, by omega, by omega, I2.set2 _⟩ ?_
      clear I2 c0 c1 c2 c3 f1 f2 f3 h1 h2 h3
      rintro V ⟨A, B, h1, h2, h3, I⟩
      obtain ⟨⟨c0, c1, c2, c3⟩, f1, f2, f3⟩ := I.cells
      go_upto_region 11 with fail
      refine forget (In W b w gr gp f A B (840 - A - B)) (I.set3 _) ?_
      clear I c0 c1 c2 c3 f1 f2 f3
      rintro U I
      obtain ⟨⟨c0, c1, c2, c3⟩, f1, f2, f3⟩ := I.cells
      have v9 : Ico.Vld f A B (840 - A - B) := by unfold Ico.Vld; omega
      generalize 840 - A - B = C at *
      have z0 := I.res.thaw 0
      have z1 := I.res.thaw 1
      have z2 := I.res.thaw 2
      have z3 := I.res.thaw 3
      obtain ⟨d0, d1, d2, d3⟩ := row4 I.res
      have HZ := Lib.hid (I.sets (.int .i64 f) (.int .i64 A) (.int .i64 B) (.int .i64 C))
      have HV := Lib.hid v9
      clear I v9 h1 h2 h3
      go_wp2_with fail
      exact bodyPost_ret (v := .agg #[.int .i64 f, .int .i64 A, .int .i64 B, .int .i64 C]) (results_cell_row Try.results10 _ _ gr 23 _ (0, 0) _ rfl HZ.out.2.2 Try.underlying23 rfl (by kernel_rfl)) rfl ⟨f, A, B, C, HV.out, rfl, HZ.out.1, HZ.out.2.1⟩

    · have m0 : 0 ≤ B % 105 ∧ B % 105 ≤ B := by omega
      obtain ⟨m0, m1⟩ := m0
      go_upto_region 10 with fail
      refine forget (fun Y => ∃ A B : Int, 0 ≤ A ∧ 0 ≤ B ∧ A + B ≤ 840 ∧ In W b w gr gp f A B 0 Y) ⟨A, B - B % 105, by omega, by omega, by omega, I2.set2 _⟩ ?_
      clear m0 m1 I2 c0 c1 c2 c3 f1 f2 f3 h1 h2 h3
      rintro V ⟨A, B, h1, h2, h3, I⟩
      obtain ⟨⟨c0, c1, c2, c3⟩, f1, f2, f3⟩ := I.cells
      go_upto_region 11 with fail
      refine forget (In W b w gr gp f A B (840 - A - B)) (I.set3 _) ?_
      clear I c0 c1 c2 c3 f1 f2 f3
      rintro U I
      obtain ⟨⟨c0, c1, c2, c3⟩, f1, f2, f3⟩ := I.cells
      have v9 : Ico.Vld f A B (840 - A - B) := by unfold Ico.Vld; omega
      generalize 840 - A - B = C at *
      have z0 := I.res.thaw 0
      have z1 := I.res.thaw 1
      have z2 := I.res.thaw 2
      have z3 := I.res.thaw 3
      obtain ⟨d0, d1, d2, d3⟩ := row4 I.res
      have HZ := Lib.hid (I.sets (.int .i64 f) (.int .i64 A) (.int .i64 B) (.int .i64 C))
      have HV := Lib.hid v9
      clear I v9 h1 h2 h3
      go_wp2_with fail
      exact bodyPost_ret (v := .agg #[.int .i64 f, .int .i64 A, .int .i64 B, .int .i64 C]) (results_cell_row Try.results10 _ _ gr 23 _ (0, 0) _ rfl HZ.out.2.2 Try.underlying23 rfl (by kernel_rfl)) rfl ⟨f, A, B, C, HV.out, rfl, HZ.out.1, HZ.out.2.1⟩

    · have q0 : (k == 0) = false := beq_eq_false_iff_ne.2 n0
      have q1 : (k == 1) = false := beq_eq_false_iff_ne.2 n1
      clear n0 n1
      go_upto_region 10 with fail
      refine forget (fun Y => ∃ A B : Int, 0 ≤ A ∧ 0 ≤ B ∧ A + B ≤ 840 ∧ In W b w gr gp f A B 0 Y) ⟨A, B, by omega, by omega, by omega, I2⟩ ?_
      clear I2 c0 c1 c2 c3 f1 f2 f3 h1 h2 h3
      rintro V ⟨A, B, h1, h2, h3, I⟩
      obtain ⟨⟨c0, c1, c2, c3⟩, f1, f2, f3⟩ := I.cells
      go_upto_region 11 with fail
      refine forget (In W b w gr gp f A B (840 - A - B)) (I.set3 _) ?_
      clear I c0 c1 c2 c3 f1 f2 f3
      rintro U I
      obtain ⟨⟨c0, c1, c2, c3⟩, f1, f2, f3⟩ := I.cells
      have v9 : Ico.Vld f A B (840 - A - B) := by unfold Ico.Vld; omega
      generalize 840 - A - B = C at *
      have z0 := I.res.thaw 0
      have z1 := I.res.thaw 1
      have z2 := I.res.thaw 2
      have z3 := I.res.thaw 3
      obtain ⟨d0, d1, d2, d3⟩ := row4 I.res
      have HZ := Lib.hid (I.sets (.int .i64 f) (.int .i64 A) (.int .i64 B) (.int .i64 C))
      have HV := Lib.hid v9
      clear I v9 h1 h2 h3
      go_wp2_with fail
      exact bodyPost_ret (v := .agg #[.int .i64 f, .int .i64 A, .int .i64 B, .int .i64 C]) (results_cell_row Try.results10 _ _ gr 23 _ (0, 0) _ rfl HZ.out.2.2 Try.underlying23 rfl (by kernel_rfl)) rfl ⟨f, A, B, C, HV.out, rfl, HZ.out.1, HZ.out.2.1⟩

end Go.Proofs.Ytehehhehilgnkaa
