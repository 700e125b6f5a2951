/- The contract of somewhere: a valid place. Contracts of the reference's Corners, Weights, Same. Contracts of the reference's Weights and Same. Contracts of the reference's On, Addresses, Normal. Contracts of the reference's Addresses and Normal. -/
import Derived.Test.YtfnlgfacadmjpaaGreatDoorSrc
import Derived.Test.YtfnlgfacadmjpaaGreatDoorPNormal
import Derived.Deep.Cut
import Derived.Deep.CutRange
import Derived.Test.YtfnlgfacadmjpaaGreatDoorPBothParse
namespace Go.Proofs.YtfnlgfacadmjpaaGreatDoor.Pl
open Go.RowKit

/-- What somewhere leaves: a valid place, the reader as it should be, and nothing but the reader's block turned. -/
def Sent (W : World) (b : Nat) (w : World) (e : Ending) (w' : World) : Prop := ∃ (f : Nat) (x y z : Int), Ico.Vld f x y z ∧ e = .returned (.agg #[.int .i64 f, .int .i64 x, .int .i64 y, .int .i64 z]) ∧ Src W b w' ∧ w.grownBy w' (some b)
/-- What is known inside. -/
structure In (W : World) (b : Nat) (w0 : World) (gr gp : Nat) (p q r s : Int) (w : World) : Prop where
  src : Src W b w
  gro : w0.grownBy w (some b)
  res : Row w gr 50 #[.int .i64 0, .int .i64 0, .int .i64 0, .int .i64 0]
  pl : Row w gp 50 #[.int .i64 p, .int .i64 q, .int .i64 r, .int .i64 s]
  ne : gr ≠ gp
  nr : w0.heap.size ≤ gr
  np : w0.heap.size ≤ gp
  br : gr ≠ b
  bp : gp ≠ b
  w0W : W.heap.size ≤ w0.heap.size
section
variable {W w0 w w' : World} {b gr gp : Nat} {p q r s : Int}
theorem In.step (h : In W b w0 gr gp p q r s w) (hs : Src W b w') (hg : w.grownBy w' (some b)) : In W b w0 gr gp p q r s w' :=
  ⟨hs, grown_trans h.gro hg, h.res.grown hg (fun e => h.br (by injection e)), h.pl.grown hg (fun e => h.bp (by injection e)), h.ne, h.nr, h.np, h.br, h.bp, h.w0W⟩
theorem grown_set {a c : World} {B : Nat} {row : Option Nat} (h : a.grownBy c row) (g j : Nat) (u : Value) (hg : a.heap.size ≤ g) (hB : B = g) : a.grownBy (c.setCell ⟨B, j, none⟩ u) row := by
  subst hB
  exact ⟨h.os, h.tape, h.output, Nat.le_trans h.size (by simp), fun i hi hr => (Below.heap_setCell c ⟨B, j, none⟩ u i (fun e => by simp at e; omega)).trans (h.block i hi hr)⟩
theorem src_set {c : World} (h : Src W b c) (g j : Nat) (u : Value) (hg : W.heap.size ≤ g) (hb : g ≠ b) : Src W b (c.setCell ⟨g, j, none⟩ u) := by
  obtain ⟨A, n, cp, k, h1, h2, h3, h4⟩ := h.row
  exact ⟨h.base, h.below.setCell (p := ⟨g, j, none⟩) hg _, A, n, cp, k, h1, h2, (Below.heap_setCell c ⟨g, j, none⟩ u b (Ne.symm hb)).trans h3, h4⟩
theorem In.set1 (h : In W b w0 gr gp p q r s w) (x : Int) : In W b w0 gr gp p x r s (w.setCell ⟨gp, 1, none⟩ (.int .i64 x)) :=
  ⟨src_set h.src _ _ _ (Nat.le_trans h.w0W h.np) h.bp, grown_set h.gro gp 1 _ h.np rfl, h.res.far (Ne.symm h.ne) _, h.pl.put 1 _, h.ne, h.nr, h.np, h.br, h.bp, h.w0W⟩
theorem In.set2 (h : In W b w0 gr gp p q r s w) (x : Int) : In W b w0 gr gp p q x s (w.setCell ⟨gp, 2, none⟩ (.int .i64 x)) :=
  ⟨src_set h.src _ _ _ (Nat.le_trans h.w0W h.np) h.bp, grown_set h.gro gp 2 _ h.np rfl, h.res.far (Ne.symm h.ne) _, h.pl.put 2 _, h.ne, h.nr, h.np, h.br, h.bp, h.w0W⟩
theorem In.set3 (h : In W b w0 gr gp p q r s w) (x : Int) : In W b w0 gr gp p q r x (w.setCell ⟨gp, 3, none⟩ (.int .i64 x)) :=
  ⟨src_set h.src _ _ _ (Nat.le_trans h.w0W h.np) h.bp, grown_set h.gro gp 3 _ h.np rfl, h.res.far (Ne.symm h.ne) _, h.pl.put 3 _, h.ne, h.nr, h.np, h.br, h.bp, h.w0W⟩
theorem In.cells (h : In W b w0 gr gp p q r s w) :
    (w.cell? ⟨gp, 0, none⟩ = some (.int .i64 p) ∧ w.cell? ⟨gp, 1, none⟩ = some (.int .i64 q) ∧ w.cell? ⟨gp, 2, none⟩ = some (.int .i64 r) ∧ w.cell? ⟨gp, 3, none⟩ = some (.int .i64 s)) ∧
    (w.frozen? ⟨gp, 1, none⟩ = false ∧ w.frozen? ⟨gp, 2, none⟩ = false ∧ w.frozen? ⟨gp, 3, none⟩ = false) := ⟨row4 h.pl, h.pl.thaw 1, h.pl.thaw 2, h.pl.thaw 3⟩
theorem In.sets (h : In W b w0 gr gp p q r s w) (u0 u1 u2 u3 : Value) :
    Src W b ((((w.setCell ⟨gr, 0, none⟩ u0).setCell ⟨gr, 1, none⟩ u1).setCell ⟨gr, 2, none⟩ u2).setCell ⟨gr, 3, none⟩ u3) ∧ w0.grownBy ((((w.setCell ⟨gr, 0, none⟩ u0).setCell ⟨gr, 1, none⟩ u1).setCell ⟨gr, 2, none⟩ u2).setCell ⟨gr, 3, none⟩ u3) (some b) ∧
    Row ((((w.setCell ⟨gr, 0, none⟩ u0).setCell ⟨gr, 1, none⟩ u1).setCell ⟨gr, 2, none⟩ u2).setCell ⟨gr, 3, none⟩ u3) gr 50 #[u0, u1, u2, u3] := by
  have hW := Nat.le_trans h.w0W h.nr
  have r0 : Row (w.setCell ⟨gr, 0, none⟩ u0) gr 50 #[u0, .int .i64 0, .int .i64 0, .int .i64 0] := h.res.put 0 _
  have r1 : Row ((w.setCell ⟨gr, 0, none⟩ u0).setCell ⟨gr, 1, none⟩ u1) gr 50 #[u0, u1, .int .i64 0, .int .i64 0] := r0.put 1 _
  have r2 : Row (((w.setCell ⟨gr, 0, none⟩ u0).setCell ⟨gr, 1, none⟩ u1).setCell ⟨gr, 2, none⟩ u2) gr 50 #[u0, u1, u2, .int .i64 0] := r1.put 2 _
  exact ⟨src_set (src_set (src_set (src_set h.src _ _ _ hW h.br) _ _ _ hW h.br) _ _ _ hW h.br) _ _ _ hW h.br, grown_set (grown_set (grown_set (grown_set h.gro gr 0 _ h.nr rfl) gr 1 _ h.nr rfl) gr 2 _ h.nr rfl) gr 3 _ h.nr rfl, r2.put 3 _⟩
end
end Go.Proofs.YtfnlgfacadmjpaaGreatDoor.Pl
namespace Go.Proofs.YtfnlgfacadmjpaaGreatDoor.Pl
open Go.RowKit

theorem ret_c3t {f : Nat} {a b c : Int} (h : a = (Ico.cor f 0 : Int) ∧ b = (Ico.cor f 1 : Int) ∧ c = (Ico.cor f 2 : Int)) : Ending.returned (.tuple #[.agg #[.int .i64 a, .int .i64 b, .int .i64 c], .int .i64 0]) = .returned (.tuple #[c3 f, .int .i64 0]) := by
  obtain ⟨rfl, rfl, rfl⟩ := h; rfl
set_option maxHeartbeats 1000000 in
theorem refCorners_yes (f : Nat) (w : World) (hf : f < 20) :
    Calls Tryz.prog 191 #[.int .i64 f] w fun e w' => e = .returned (.tuple #[c3 f, .int .i64 0]) ∧ Below w.heap.size w w' := by
  have hq : (f : Int) / 5 = 0 ∨ (f : Int) / 5 = 1 ∨ (f : Int) / 5 = 2 ∨ (f : Int) / 5 = 3 := by omega
  rcases hq with hq | hq | hq | hq
  · have C := Lib.hid (cor_form0 f hf (by omega))
    have q0 : ((f : Int) / 5 == 0) = true := by rw [hq]; rfl
    clear hq
    go_enter Tryz.func191, Tryz.ntmps191
    go_wp2
    exact bodyPost_ret (v := .tuple #[.agg #[.int .i64 0, .int .i64 (1 + (f : Int) % 5), .int .i64 (1 + ((f : Int) % 5 + 1) % 5)], .int .i64 0]) (by simp [results, Tryz.results191, go_sem]) rfl ⟨ret_c3t (by obtain ⟨c1, c2, c3⟩ := C.out; rw [c1, c2, c3]; omega), (Below.refl _ _).alloc (Nat.le_refl _) _⟩
  · have C := Lib.hid (cor_form1 f hf (by omega))
    have q0 : ((f : Int) / 5 == 0) = false := by rw [hq]; rfl
    have q1 : ((f : Int) / 5 == 1) = true := by rw [hq]; rfl
    clear hq
    go_enter Tryz.func191, Tryz.ntmps191
    go_wp2
    exact bodyPost_ret (v := .tuple #[.agg #[.int .i64 (1 + (f : Int) % 5), .int .i64 (6 + (f : Int) % 5), .int .i64 (1 + ((f : Int) % 5 + 1) % 5)], .int .i64 0]) (by simp [results, Tryz.results191, go_sem]) rfl ⟨ret_c3t (by obtain ⟨c1, c2, c3⟩ := C.out; rw [c1, c2, c3]; omega), (Below.refl _ _).alloc (Nat.le_refl _) _⟩
  · have C := Lib.hid (cor_form2 f hf (by omega))
    have q0 : ((f : Int) / 5 == 0) = false := by rw [hq]; rfl
    have q1 : ((f : Int) / 5 == 1) = false := by rw [hq]; rfl
    have q2 : ((f : Int) / 5 == 2) = true := by rw [hq]; rfl
    clear hq
    go_enter Tryz.func191, Tryz.ntmps191
    go_wp2
    exact bodyPost_ret (v := .tuple #[.agg #[.int .i64 (6 + (f : Int) % 5), .int .i64 (6 + ((f : Int) % 5 + 1) % 5), .int .i64 (1 + ((f : Int) % 5 + 1) % 5)], .int .i64 0]) (by simp [results, Tryz.results191, go_sem]) rfl ⟨ret_c3t (by obtain ⟨c1, c2, c3⟩ := C.out; rw [c1, c2, c3]; omega), (Below.refl _ _).alloc (Nat.le_refl _) _⟩
  · have C := Lib.hid (cor_form3 f hf (by omega))
    have q0 : ((f : Int) / 5 == 0) = false := by rw [hq]; rfl
    have q1 : ((f : Int) / 5 == 1) = false := by rw [hq]; rfl
    have q2 : ((f : Int) / 5 == 2) = false := by rw [hq]; rfl
    clear hq
    go_enter Tryz.func191, Tryz.ntmps191
    go_wp2
    exact bodyPost_ret (v := .tuple #[.agg #[.int .i64 11, .int .i64 (6 + ((f : Int) % 5 + 1) % 5), .int .i64 (6 + (f : Int) % 5)], .int .i64 0]) (by simp [results, Tryz.results191, go_sem]) rfl ⟨ret_c3t (by obtain ⟨c1, c2, c3⟩ := C.out; rw [c1, c2, c3]; omega), (Below.refl _ _).alloc (Nat.le_refl _) _⟩
set_option maxHeartbeats 400000 in
theorem refCorners_no (F : Int) (w : World) (hf : ¬ (0 ≤ F ∧ F < 20)) :
    Calls Tryz.prog 191 #[.int .i64 F] w fun e w' => e = .returned (.tuple #[.agg #[.int .i64 0, .int .i64 0, .int .i64 0], .int .i64 1]) ∧ Below w.heap.size w w' := by
  by_cases h1 : 0 ≤ F
  · have h2 : ¬ F < 20 := fun h => hf ⟨h1, h⟩
    clear hf
    go_enter Tryz.func191, Tryz.ntmps191
    go_wp2
    exact bodyPost_ret (v := .tuple #[.agg #[.int .i64 0, .int .i64 0, .int .i64 0], .int .i64 1]) (by simp [results, Tryz.results191, go_sem]) rfl ⟨rfl, (Below.refl _ _).alloc (Nat.le_refl _) _⟩
  · clear hf
    go_enter Tryz.func191, Tryz.ntmps191
    go_wp2
    exact bodyPost_ret (v := .tuple #[.agg #[.int .i64 0, .int .i64 0, .int .i64 0], .int .i64 1]) (by simp [results, Tryz.results191, go_sem]) rfl ⟨rfl, (Below.refl _ _).alloc (Nat.le_refl _) _⟩
end Go.Proofs.YtfnlgfacadmjpaaGreatDoor.Pl
namespace Go.Proofs.YtfnlgfacadmjpaaGreatDoor.Pl
open Go.RowKit

attribute [local go_sem] eq_wa
set_option maxRecDepth 100000 in
set_option maxHeartbeats 1000000 in
theorem refWeights_any (f : Nat) (a b c : Int) (w : World) (hf : f < 20) :
    Calls Tryz.prog 171 #[.agg #[.int .i64 f, .int .i64 a, .int .i64 b, .int .i64 c]] w fun e w' => e = .returned (.agg (wa f a b c)) ∧ Below w.heap.size w w' := by
  go_enter Tryz.func171, Tryz.ntmps171
  go_upto_region 3 with (go_at_call 191; refine (refCorners_yes _ _ hf).mono ?_; rintro e w1 ⟨rfl, hb⟩)
  have r1 : Row w1 w.heap.size 50 #[.int .i64 f, .int .i64 a, .int .i64 b, .int .i64 c] := (((Row.new w _ _).alloc _).alloc _).under hb
  have r2 : Row w1 (w.heap.size + 1) 170 z12 := ((Row.newAt (by simp)).alloc _).under hb
  have r3 : Row w1 (w.heap.size + 1 + 1) 170 z12 := (Row.newAt (by simp)).under hb
  have b1 : Below w.heap.size w w1 := ((((Below.refl _ _).alloc (Nat.le_refl _) _).alloc (by simp) _).alloc (by simp; omega) _).trans (hb.mono (by simp; omega))
  have z1 : w.heap.size + 3 ≤ w1.heap.size := by have := hb.size; simp at this; omega
  refine forget (fun Y => Below w.heap.size w Y ∧ Row Y w.heap.size 50 #[.int .i64 f, .int .i64 a, .int .i64 b, .int .i64 c] ∧ Row Y (w.heap.size + 1) 170 z12 ∧ Row Y (w.heap.size + 1 + 1) 170 z12 ∧ Row Y w1.heap.size 152 #[.int .i64 (Ico.cor f 0), .int .i64 (Ico.cor f 1), .int .i64 (Ico.cor f 2)]) ⟨b1.alloc b1.size _, r1.alloc _, r2.alloc _, r3.alloc _, Row.new _ _ _⟩ ?_
  clear r1 r2 r3 b1 hb
  generalize w1.heap.size = gc at *
  rintro Y ⟨bY, r1, r2, r3, r4⟩
  obtain ⟨p0, p1, p2, p3⟩ := row4 r1
  obtain ⟨q0, q1, q2⟩ := row3 r4
  have l0 := Ico.cor_lt f 0
  have l1 := Ico.cor_lt f 1
  have l2 := Ico.cor_lt f 2
  obtain ⟨n1, n2, n3⟩ := Ico.cor_ne f hf
  have k0 : Y.cell? ⟨w.heap.size + 1 + 1, Ico.cor f 0, none⟩ = some (.int .i64 0) := (r3.cell _).trans (z12_at _ l0)
  have k1 : Y.cell? ⟨w.heap.size + 1 + 1, Ico.cor f 1, none⟩ = some (.int .i64 0) := (r3.cell _).trans (z12_at _ l1)
  have k2 : Y.cell? ⟨w.heap.size + 1 + 1, Ico.cor f 2, none⟩ = some (.int .i64 0) := (r3.cell _).trans (z12_at _ l2)
  have m0 := r3.thaw (Ico.cor f 0)
  have m1 := r3.thaw (Ico.cor f 1)
  have m2 := r3.thaw (Ico.cor f 2)
  have W := Lib.hid (wa_of hf a b c)
  have e0 : w.heap.size ≠ w.heap.size + 1 + 1 := by omega
  have e1 : gc ≠ w.heap.size + 1 + 1 := by omega
  have R3 := Lib.hid r3
  have R2 := Lib.hid r2
  have hg2 : w.heap.size ≤ w.heap.size + 1 := by omega
  have hg3 : w.heap.size ≤ w.heap.size + 1 + 1 := by omega
  have hg23 : w.heap.size + 1 ≠ w.heap.size + 1 + 1 := by omega
  clear r1 r2 r3 r4
  generalize Ico.cor f 0 = x at *
  generalize Ico.cor f 1 = y at *
  generalize Ico.cor f 2 = z at *
  generalize w.heap.size + 1 + 1 = g3 at *
  generalize w.heap.size + 1 = g2 at *
  go_region
  go_upto_region 4 with fail
  have ne23 : g2 ≠ g3 := hg23
  have hR : ∀ n : World, n = (((Y.setCell ⟨g3, x, none⟩ (.int .i64 a)).setCell ⟨g3, y, none⟩ (.int .i64 b)).setCell ⟨g3, z, none⟩ (.int .i64 c)).drew → Below w.heap.size w n ∧ Row n g2 170 z12 ∧ Row n g3 170 (wa f a b c) := by
    rintro n rfl
    exact ⟨(((bY.setCell (p := ⟨g3, x, none⟩) hg3 _).setCell (p := ⟨g3, y, none⟩) hg3 _).setCell (p := ⟨g3, z, none⟩) hg3 _).drew, ((R2.out.far (Ne.symm ne23) _).far (Ne.symm ne23) _).far (Ne.symm ne23) _, by rw [← W.out]; exact ((R3.out.put _ _).put _ _).put _ _⟩
  refine forget (fun n => Below w.heap.size w n ∧ Row n g2 170 z12 ∧ Row n g3 170 (wa f a b c)) (hR _ rfl) ?_
  clear hR R2 R3 W k0 k1 k2 m0 m1 m2 p0 p1 p2 p3 q0 q1 q2 bY
  rintro V ⟨bV, v2, v3⟩
  obtain ⟨⟨c0, c1, c2, c3, c4, c5⟩, c6, c7, c8, c9, c10, c11⟩ := row12 v3
  obtain ⟨⟨d0, d1, d2, d3, d4, d5⟩, d6, d7, d8, d9, d10, d11⟩ := row12 v2
  have t0 := v2.thaw
  have V2 := Lib.hid v2
  clear v2 v3
  go_wp2
  exact bodyPost_ret (v := .agg (wa f a b c)) (results_cell_row Tryz.results171 _ _ g2 170 _ (0, 0) _ rfl (put12 _ _ _ _ _ _ _ _ _ _ _ _ V2.out) Tryz.underlying170 rfl (by kernel_rfl)) rfl ⟨rfl, below12 _ _ _ _ _ _ _ _ _ _ _ _ bV hg2⟩
theorem refWeights_is (f : Nat) (a b c : Int) (w0 w : World) (hb : Below w0.heap.size w0 w) (hf : f < 20) :
    Calls Tryz.prog 171 #[.agg #[.int .i64 f, .int .i64 a, .int .i64 b, .int .i64 c]] w fun e w' => e = .returned (.agg (wa f a b c)) ∧ Below w0.heap.size w0 w' :=
  (refWeights_any f a b c w hf).mono fun _ _ ⟨he, hg⟩ => ⟨he, hb.trans (hg.mono hb.size)⟩
theorem refValid_from (F a b c : Int) (w0 w : World) (hb : Below w0.heap.size w0 w) :
    Calls Tryz.prog 114 #[.agg #[.int .i64 F, .int .i64 a, .int .i64 b, .int .i64 c]] w fun e w' => e = .returned (.bool (vb F a b c)) ∧ Below w0.heap.size w0 w' :=
  (refValid_any F a b c w).mono fun _ _ ⟨he, hg⟩ => ⟨he, hb.trans (hg.mono hb.size)⟩
end Go.Proofs.YtfnlgfacadmjpaaGreatDoor.Pl
namespace Go.Proofs.YtfnlgfacadmjpaaGreatDoor.Pl
open Go.RowKit

set_option maxRecDepth 100000 in
set_option maxHeartbeats 2000000 in
theorem on_any (f n : Nat) (a b c : Int) (r : Bool) (w : World) (hv : Ico.Vld f a b c) (hlt : n < 20) (hr : Ico.ok f a b c n = r) :
    Calls Tryz.prog 172 #[.int .i64 n, .agg (wa f a b c)] w fun e w' => e = .returned (.tuple #[.agg #[.int .i64 n, .int .i64 (Ico.wt f a b c (Ico.cor n 0)), .int .i64 (Ico.wt f a b c (Ico.cor n 1)), .int .i64 (Ico.wt f a b c (Ico.cor n 2))], .bool r]) ∧ Below w.heap.size w w' := by
  obtain ⟨y1, y2⟩ := Ico.wt_bd hv (Ico.cor n 0)
  obtain ⟨z1, z2⟩ := Ico.wt_bd hv (Ico.cor n 1)
  obtain ⟨x1, x2⟩ := Ico.wt_bd hv (Ico.cor n 2)
  have R : Hid ((Ico.wt f a b c (Ico.cor n 0) + Ico.wt f a b c (Ico.cor n 1) + Ico.wt f a b c (Ico.cor n 2) == 840) = r) := Lib.hid (by rw [← hr]; unfold Ico.ok Ico.sm; rw [Bool.eq_iff_iff]; simp)
  clear hr hv
  go_enter Tryz.func172, Tryz.ntmps172
  go_upto_region 2 with (go_at_call 191; refine (refCorners_yes _ _ hlt).mono ?_; rintro e w4 ⟨rfl, hb4⟩)
  have r1 : Row w4 w.heap.size 170 (wa f a b c) := ((Row.new w _ _).alloc _).under hb4
  have r2 : Row w4 (w.heap.size + 1) 50 #[.int .i64 0, .int .i64 0, .int .i64 0, .int .i64 0] := (Row.newAt (by simp)).under hb4
  have b1 : Below w.heap.size w w4 := (((Below.refl _ _).alloc (Nat.le_refl _) _).alloc (by simp) _).trans (hb4.mono (by simp; omega))
  refine forget (fun Y => Below w.heap.size w Y ∧ Row Y w.heap.size 170 (wa f a b c) ∧ Row Y (w.heap.size + 1) 50 #[.int .i64 0, .int .i64 0, .int .i64 0, .int .i64 0] ∧ Row Y w4.heap.size 152 #[.int .i64 (Ico.cor n 0), .int .i64 (Ico.cor n 1), .int .i64 (Ico.cor n 2)]) ⟨b1.alloc b1.size _, r1.alloc _, r2.alloc _, Row.new _ _ _⟩ ?_
  clear r1 r2 b1 hb4
  generalize w4.heap.size = go at *
  rintro Y ⟨bY, r1, r2, r4⟩
  have hge : w.heap.size ≤ w.heap.size + 1 := by omega
  generalize w.heap.size + 1 = gr at *
  obtain ⟨q0, q1, q2⟩ := row3 r4
  have l0 := Ico.cor_lt n 0
  have l1 := Ico.cor_lt n 1
  have l2 := Ico.cor_lt n 2
  have m0 := (r1.cell (Ico.cor n 0)).trans (wa_at f a b c _ l0)
  have m1 := (r1.cell (Ico.cor n 1)).trans (wa_at f a b c _ l1)
  have m2 := (r1.cell (Ico.cor n 2)).trans (wa_at f a b c _ l2)
  have n0 : (0 : Int) ≤ (Ico.cor n 0 : Int) ∧ (Ico.cor n 0 : Int) < 12 := by omega
  have n1 : (0 : Int) ≤ (Ico.cor n 1 : Int) ∧ (Ico.cor n 1 : Int) < 12 := by omega
  have n2 : (0 : Int) ≤ (Ico.cor n 2 : Int) ∧ (Ico.cor n 2 : Int) < 12 := by omega
  obtain ⟨n00, n01⟩ := n0
  obtain ⟨n10, n11⟩ := n1
  obtain ⟨n20, n21⟩ := n2
  have R2 := Lib.hid r2; clear r2 r1 r4
  obtain ⟨gw, hgw⟩ : ∃ g, w.heap.size = g := ⟨_, rfl⟩
  rw [hgw] at m0 m1 m2 ⊢
  have HGW := Lib.hid hgw; clear hgw
  go_region_held3 (fun w' => (w'.cell? ⟨go, 0, none⟩ = some (.int .i64 (Ico.cor n 0)) ∧ w'.cell? ⟨go, 1, none⟩ = some (.int .i64 (Ico.cor n 1)) ∧ w'.cell? ⟨go, 2, none⟩ = some (.int .i64 (Ico.cor n 2))) ∧ w'.cell? ⟨gw, Ico.cor n 0, none⟩ = some (.int .i64 (Ico.wt f a b c (Ico.cor n 0))) ∧ w'.cell? ⟨gw, Ico.cor n 1, none⟩ = some (.int .i64 (Ico.wt f a b c (Ico.cor n 1))) ∧ w'.cell? ⟨gw, Ico.cor n 2, none⟩ = some (.int .i64 (Ico.wt f a b c (Ico.cor n 2))))
    (go_keep) (fail)
  go_upto_region 3 with fail
  have hlr := R2.out.lt
  refine forget (fun Z => Below w.heap.size w Z ∧ Row Z gr 50 #[.int .i64 0, .int .i64 0, .int .i64 0, .int .i64 0] ∧ Row Z Y.heap.size 50 #[.int .i64 n, .int .i64 (Ico.wt f a b c (Ico.cor n 0)), .int .i64 (Ico.wt f a b c (Ico.cor n 1)), .int .i64 (Ico.wt f a b c (Ico.cor n 2))] ∧ gr ≠ Y.heap.size) ⟨(bY.alloc bY.size _).drew, (R2.out.alloc _).drew, (Row.new _ _ _).drew, by omega⟩ ?_
  clear R2 q0 q1 q2 m0 m1 m2 n00 n01 n10 n11 n20 n21 l0 l1 l2 bY hlr
  generalize Y.heap.size = gq at *
  rintro Z ⟨bZ, rr, rq, hne⟩
  generalize hA : Ico.wt f a b c (Ico.cor n 0) = A at *
  generalize hB : Ico.wt f a b c (Ico.cor n 1) = B at *
  generalize hC : Ico.wt f a b c (Ico.cor n 2) = C at *
  have HA := Lib.hid hA; clear hA
  have HB := Lib.hid hB; clear hB
  have HC := Lib.hid hC; clear hC
  obtain ⟨c0, c1, c2, c3⟩ := row4 rq
  obtain ⟨d0, d1, d2, d3⟩ := row4 rr
  have t0 := rr.thaw 0
  have t1 := rr.thaw 1
  have t2 := rr.thaw 2
  have t3 := rr.thaw 3
  have RR := Lib.hid rr; clear rr rq
  rw [HGW.out] at bZ hge
  go_region
  go_wp2_with fail
  refine bodyPost_ret (v := .tuple #[.agg #[.int .i64 n, .int .i64 A, .int .i64 B, .int .i64 C], .bool (A + B + C == 840)]) (by simp [results, Tryz.results172, d0, d1, d2, d3, go_sem]) rfl ⟨by rw [HA.out, HB.out, HC.out, R.out], ?_⟩
  rw [HGW.out]
  exact (set4_below bZ hge).drew
end Go.Proofs.YtfnlgfacadmjpaaGreatDoor.Pl
namespace Go.Proofs.YtfnlgfacadmjpaaGreatDoor.Pl
open Go.RowKit

set_option maxRecDepth 100000 in
set_option maxHeartbeats 2000000 in
theorem refAddresses_no (F a b c : Int) (w : World) (hv : vb F a b c = false) :
    Calls Tryz.prog 145 #[.agg #[.int .i64 F, .int .i64 a, .int .i64 b, .int .i64 c]] w fun e w' => e = .returned (.tuple #[.slice none 0 0, .int .i64 1]) ∧ Below w.heap.size w w' := by
  go_enter Tryz.func145, Tryz.ntmps145
  go_wp2_with (go_at_call 114; refine (refValid_from _ _ _ _ w _ ((Below.refl _ _).alloc (Nat.le_refl _) _)).mono ?_; rintro e w2 ⟨rfl, hb2⟩)
  go_ret2
  exact ⟨rfl, hb2⟩
set_option maxRecDepth 100000 in
set_option maxHeartbeats 2000000 in
theorem refAddresses_yes (f : Nat) (a b c : Int) (w : World) (hv : Ico.Vld f a b c) :
    Calls Tryz.prog 145 #[.agg #[.int .i64 f, .int .i64 a, .int .i64 b, .int .i64 c]] w fun e w' => ∃ v, e = .returned (.tuple #[v, .int .i64 0]) ∧ Below w.heap.size w w' ∧ w'.ownsRow w.heap.size 50 4 v (Ico.fcs f a b c 20).length (pls f a b c 20) := by
  obtain ⟨i0, hi, hz0, hz1, hz2⟩ := info_parts infoPlace
  have v1 := vb_of hv
  have HV := Lib.hid hv
  have hf := hv.1
  clear hv
  go_enter Tryz.func145, Tryz.ntmps145
  go_wp2_with fail
  have k0 := Row.new w #[.int .i64 f, .int .i64 a, .int .i64 b, .int .i64 c] 50
  refine (refValid_from _ _ _ _ _ _ (Below.refl _ _)).mono ?_
  rintro e w2 ⟨rfl, hb2⟩
  have k2 := k0.under hb2
  have b2 : Below w.heap.size w w2 := ((Below.refl _ _).alloc (Nat.le_refl _) _).trans (hb2.mono (by simp))
  clear k0 hb2
  obtain ⟨p0, p1, p2, p3⟩ := row4 k2
  go_wp2_with fail
  refine (refWeights_is _ _ _ _ _ _ (Below.refl _ _) hf).mono ?_
  rintro e w3 ⟨rfl, hb3⟩
  have b3 := b2.trans (hb3.mono b2.size)
  clear b2 hb3 k2 p0 p1 p2 p3
  go_wp2_with fail
  have G0 : Going w f a b c w3.heap.size 0 (.slice none 0 0) (w3.alloc (.cells (wa f a b c) 170)) := ⟨b3.alloc b3.size _, Row.new _ _ _, World.ownsRow_nil _ _ _ _⟩
  clear b3
  generalize w3.heap.size = gw at *
  go_loopw [5, 6] (fun v i wr => ∃ n : Nat, n ≤ 20 ∧ i = .int .i64 n ∧ Going w f a b c gw n v wr) (fun _ i _ => 20 - (intOf i).toNat)
  case atStart => exact ⟨0, by omega, rfl, G0⟩
  case round =>
    clear G0
    obtain ⟨n, hn, rfl, G⟩ := hrel
    by_cases hlt : n < 20
    · obtain ⟨⟨c0, c1, c2, c3, c4, c5⟩, c6, c7, c8, c9, c10, c11⟩ := row12 G.row
      have HG := Lib.hid G; clear G
      have hl := Ico.fcs_len_le f a b c n
      cases ho : Ico.ok f a b c n
      · have ON := Lib.hid (fun w => on_any f n a b c _ w HV.out hlt ho); have HO := Lib.hid ho; clear ho
        go_wp2_with fail
        refine (ON.out _).mono ?_
        rintro e w5 ⟨rfl, hb5⟩
        go_wp2_with fail
        go_roundw
        case rel => exact ⟨n + 1, by omega, by go_num, ((HG.out.under hb5).alloc _).no HO.out⟩
        case measure => simp [intOf]; omega
      · have ON := Lib.hid (fun w => on_any f n a b c _ w HV.out hlt ho); have HO := Lib.hid ho; clear ho
        go_wp2_with fail
        refine (ON.out _).mono ?_
        rintro e w4 ⟨rfl, hb4⟩
        go_upto_region 10 with fail
        have G5 := (HG.out.under hb4).alloc (.cells #[.int .i64 n, .int .i64 (Ico.wt f a b c (Ico.cor n 0)), .int .i64 (Ico.wt f a b c (Ico.cor n 1)), .int .i64 (Ico.wt f a b c (Ico.cor n 2))] 50)
        have r5 := Row.new w4 #[.int .i64 n, .int .i64 (Ico.wt f a b c (Ico.cor n 0)), .int .i64 (Ico.wt f a b c (Ico.cor n 1)), .int .i64 (Ico.wt f a b c (Ico.cor n 2))] 50
        refine forget (fun Z => Going w f a b c gw n «u5» Z ∧ Row Z w4.heap.size 50 #[.int .i64 n, .int .i64 (Ico.wt f a b c (Ico.cor n 0)), .int .i64 (Ico.wt f a b c (Ico.cor n 1)), .int .i64 (Ico.wt f a b c (Ico.cor n 2))]) ⟨G5, r5⟩ ?_
        clear HG G5 r5 hb4 c0 c1 c2 c3 c4 c5 c6 c7 c8 c9 c10 c11
        generalize w4.heap.size = gq at *
        rintro w5 ⟨G5, r5⟩
        obtain ⟨q0, q1, q2, q3⟩ := row4 r5
        have G6 := G5.alloc (.cells #[.int .i64 n, .int .i64 (Ico.wt f a b c (Ico.cor n 0)), .int .i64 (Ico.wt f a b c (Ico.cor n 1)), .int .i64 (Ico.wt f a b c (Ico.cor n 2))] 50)
        have r6 := Row.new w5 #[.int .i64 n, .int .i64 (Ico.wt f a b c (Ico.cor n 0)), .int .i64 (Ico.wt f a b c (Ico.cor n 1)), .int .i64 (Ico.wt f a b c (Ico.cor n 2))] 50
        have R6 := Lib.hid r6; clear r6 r5
        have HG := Lib.hid G6; clear G6 G5
        go_wp2_with (at_builtin; refine wpList_append_own _ rfl (.tmp 25) (.tmp 27) 156 rfl w.heap.size 50 i0 _ 4 32 Tryz.underlying156 hi hz0 hz1 hz2 rfl (by decide) _ _ _ rfl HG.out.own ⟨w5.heap.size, 0, none⟩ 1 1 (pl f a b c n) rfl rfl (row_news R6.out) (pl_one f a b c n) (by unfold maxLen; omega) (by omega) HG.out.below.size ?_)
        intro v' w6 hown hgr _
        have G7 := HG.out.yes HO.out hown hgr
        clear hown hgr
        have HG7 := Lib.hid G7; clear G7
        go_wp2_with fail
        go_roundw
        case rel => exact ⟨n + 1, by omega, by go_num, HG7.out⟩
        case measure => simp [intOf]; omega
    · obtain rfl : n = 20 := by omega
      have HG := Lib.hid G; clear G
      go_wp2_with fail
      go_ret2
      exact ⟨_, rfl, HG.out.below, HG.out.own⟩
/-- What Addresses leaves: a list in a block of its own. -/
theorem refAddresses_open (f : Nat) (a b c : Int) (w : World) (hv : Ico.Vld f a b c) :
    Calls Tryz.prog 145 #[.agg #[.int .i64 f, .int .i64 a, .int .i64 b, .int .i64 c]] w fun e w' => ∃ g cap, e = .returned (.tuple #[.slice (some ⟨g, 0, none⟩) (Ico.fcs f a b c 20).length cap, .int .i64 0]) ∧ Below w.heap.size w w' ∧
      w.heap.size ≤ g ∧ g < w'.heap.size ∧ (Ico.fcs f a b c 20).length ≤ cap ∧ cap ≤ 9223372036854775807 ∧ Has w' f a b c g :=
  (refAddresses_yes f a b c w hv).mono fun e w' ⟨v, he, hb, ho⟩ => by
    obtain ⟨g, cap, rfl, h1, h2, h3, h4, h5⟩ := own_open ho (Ico.fcs_pos hv)
    refine ⟨g, cap, he, hb, h1, h2, h3, by unfold maxLen at h4; exact h4, fun i hi => ⟨?_, ?_, ?_, ?_⟩⟩
    · exact h5 _ _ ((flat4 (pl_len f a b c) _ i 0 (by omega) hi).trans rfl)
    · exact h5 _ _ ((flat4 (pl_len f a b c) _ i 1 (by omega) hi).trans rfl)
    · exact h5 _ _ ((flat4 (pl_len f a b c) _ i 2 (by omega) hi).trans rfl)
    · exact h5 _ _ ((flat4 (pl_len f a b c) _ i 3 (by omega) hi).trans rfl)
set_option maxHeartbeats 1000000 in
theorem refNormal_no (F a b c : Int) (w : World) (hv : vb F a b c = false) :
    Calls Tryz.prog 102 #[.agg #[.int .i64 F, .int .i64 a, .int .i64 b, .int .i64 c]] w fun e w' => e = .returned (.tuple #[.agg #[.int .i64 0, .int .i64 0, .int .i64 0, .int .i64 0], .int .i64 1]) ∧ Below w.heap.size w w' := by
  go_enter Tryz.func102, Tryz.ntmps102
  go_wp2_with fail
  refine (refAddresses_no _ _ _ _ _ hv).mono ?_
  rintro e w2 ⟨rfl, hb2⟩
  obtain ⟨hc, hz⟩ := bcell hb2
  go_wp2_with fail
  exact bodyPost_ret (v := .tuple #[.agg #[.int .i64 0, .int .i64 0, .int .i64 0, .int .i64 0], .int .i64 1]) (by simp [results, Tryz.results102, hc, go_sem]) rfl ⟨rfl, (((((((Below.refl _ _).alloc (Nat.le_refl _) _).alloc (by simp) _).trans (hb2.mono (by simp; omega))).setCell (by simp) _).setCell (by simp) _).setCell (by simp) _).setCell (by simp) _⟩
set_option maxHeartbeats 1000000 in
theorem refNormal_yes (f : Nat) (a b c : Int) (w : World) (hv : Ico.Vld f a b c) :
    Calls Tryz.prog 102 #[.agg #[.int .i64 f, .int .i64 a, .int .i64 b, .int .i64 c]] w fun e w' => e = .returned (.tuple #[.agg #[.int .i64 (Ico.nf f a b c : Nat), .int .i64 (nw f a b c 0), .int .i64 (nw f a b c 1), .int .i64 (nw f a b c 2)], .int .i64 0]) ∧ Below w.heap.size w w' := by
  have HV := Lib.hid hv; clear hv
  go_enter Tryz.func102, Tryz.ntmps102
  go_wp2_with fail
  refine (refAddresses_open _ _ _ _ _ HV.out).mono ?_
  rintro e w2 ⟨g, cap, rfl, hb2, g1, g2, g3, g4, hH⟩
  obtain ⟨hc, hz⟩ := bcell hb2
  obtain ⟨q0, q1, q2, q3⟩ := hH.first HV.out
  have hp := Ico.fcs_pos HV.out
  clear hH
  generalize (Ico.fcs f a b c 20).length = len at *
  have hge : w.heap.size + 2 ≤ g := by simp at g1; omega
  clear g1
  go_wp2_with fail
  exact bodyPost_ret (v := .tuple #[.agg #[.int .i64 (Ico.nf f a b c : Nat), .int .i64 (nw f a b c 0), .int .i64 (nw f a b c 1), .int .i64 (nw f a b c 2)], .int .i64 0]) (by simp [results, Tryz.results102, hc, go_sem]) rfl ⟨rfl, (((((((Below.refl _ _).alloc (Nat.le_refl _) _).alloc (by simp) _).trans (hb2.mono (by simp; omega))).setCell (by simp) _).setCell (by simp) _).setCell (by simp) _).setCell (by simp) _⟩
end Go.Proofs.YtfnlgfacadmjpaaGreatDoor.Pl
