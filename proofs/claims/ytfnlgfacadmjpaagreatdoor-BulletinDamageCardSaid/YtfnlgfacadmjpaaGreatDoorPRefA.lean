/- The contract of somewhere: a valid place. Contracts of the reference's Corners, Weights, Same. -/
import Derived.Test.YtfnlgfacadmjpaaGreatDoorSrc
import Derived.Test.YtfnlgfacadmjpaaGreatDoorPNormal
import Derived.Deep.Cut
import Derived.Deep.CutRange
import Derived.Test.YtfnlgfacadmjpaaGreatDoorPBothParse
namespace Go.Proofs.YtfnlgfacadmjpaaGreatDoor.Pl
open Go.RowKit

/-- What somewhere leaves: a valid place, the reader as it should be, and nothing but the reader's block turned. -/
def Sent (W : World) (b : Nat) (w : World) (e : Ending) (w' : World) : Prop := ∃ (f : Nat) (x y z : Int), Ico.Vld f x y z ∧ e = .returned (.agg #[.int .i64 f, .int .i64 x, .int .i64 y, .int .i64 z]) ∧ Src W b w' ∧ w.grownBy w' (some b)
/-- What is known inside. -/
structure In (W : World) (b : Nat) (w0 : World) (gr gp : Nat) (p q r s : Int) (w : World) : Prop where
  src : Src W b w
  gro : w0.grownBy w (some b)
  res : Row w gr 50 #[.int .i64 0, .int .i64 0, .int .i64 0, .int .i64 0]
  pl : Row w gp 50 #[.int .i64 p, .int .i64 q, .int .i64 r, .int .i64 s]
  ne : gr ≠ gp
  nr : w0.heap.size ≤ gr
  np : w0.heap.size ≤ gp
  br : gr ≠ b
  bp : gp ≠ b
  w0W : W.heap.size ≤ w0.heap.size
section
variable {W w0 w w' : World} {b gr gp : Nat} {p q r s : Int}
theorem In.step (h : In W b w0 gr gp p q r s w) (hs : Src W b w') (hg : w.grownBy w' (some b)) : In W b w0 gr gp p q r s w' :=
  ⟨hs, grown_trans h.gro hg, h.res.grown hg (fun e => h.br (by injection e)), h.pl.grown hg (fun e => h.bp (by injection e)), h.ne, h.nr, h.np, h.br, h.bp, h.w0W⟩
theorem grown_set {a c : World} {B : Nat} {row : Option Nat} (h : a.grownBy c row) (g j : Nat) (u : Value) (hg : a.heap.size ≤ g) (hB : B = g) : a.grownBy (c.setCell ⟨B, j, none⟩ u) row := by
  subst hB
  exact ⟨h.os, h.tape, h.output, Nat.le_trans h.size (by simp), fun i hi hr => (Below.heap_setCell c ⟨B, j, none⟩ u i (fun e => by simp at e; omega)).trans (h.block i hi hr)⟩
theorem src_set {c : World} (h : Src W b c) (g j : Nat) (u : Value) (hg : W.heap.size ≤ g) (hb : g ≠ b) : Src W b (c.setCell ⟨g, j, none⟩ u) := by
  obtain ⟨A, n, cp, k, h1, h2, h3, h4⟩ := h.row
  exact ⟨h.base, h.below.setCell (p := ⟨g, j, none⟩) hg _, A, n, cp, k, h1, h2, (Below.heap_setCell c ⟨g, j, none⟩ u b (Ne.symm hb)).trans h3, h4⟩
theorem In.set1 (h : In W b w0 gr gp p q r s w) (x : Int) : In W b w0 gr gp p x r s (w.setCell ⟨gp, 1, none⟩ (.int .i64 x)) :=
  ⟨src_set h.src _ _ _ (Nat.le_trans h.w0W h.np) h.bp, grown_set h.gro gp 1 _ h.np rfl, h.res.far (Ne.symm h.ne) _, h.pl.put 1 _, h.ne, h.nr, h.np, h.br, h.bp, h.w0W⟩
theorem In.set2 (h : In W b w0 gr gp p q r s w) (x : Int) : In W b w0 gr gp p q x s (w.setCell ⟨gp, 2, none⟩ (.int .i64 x)) :=
  ⟨src_set h.src _ _ _ (Nat.le_trans h.w0W h.np) h.bp, grown_set h.gro gp 2 _ h.np rfl, h.res.far (Ne.symm h.ne) _, h.pl.put 2 _, h.ne, h.nr, h.np, h.br, h.bp, h.w0W⟩
theorem In.set3 (h : In W b w0 gr gp p q r s w) (x : Int) : In W b w0 gr gp p q r x (w.setCell ⟨gp, 3, none⟩ (.int .i64 x)) :=
  ⟨src_set h.src _ _ _ (Nat.le_trans h.w0W h.np) h.bp, grown_set h.gro gp 3 _ h.np rfl, h.res.far (Ne.symm h.ne) _, h.pl.put 3 _, h.ne, h.nr, h.np, h.br, h.bp, h.w0W⟩
theorem In.cells (h : In W b w0 gr gp p q r s w) :
    (w.cell? ⟨gp, 0, none⟩ = some (.int .i64 p) ∧ w.cell? ⟨gp, 1, none⟩ = some (.int .i64 q) ∧ w.cell? ⟨gp, 2, none⟩ = some (.int .i64 r) ∧ w.cell? ⟨gp, 3, none⟩ = some (.int .i64 s)) ∧
    (w.frozen? ⟨gp, 1, none⟩ = false ∧ w.frozen? ⟨gp, 2, none⟩ = false ∧ w.frozen? ⟨gp, 3, none⟩ = false) := ⟨row4 h.pl, h.pl.thaw 1, h.pl.thaw 2, h.pl.thaw 3⟩
theorem In.sets (h : In W b w0 gr gp p q r s w) (u0 u1 u2 u3 : Value) :
    Src W b ((((w.setCell ⟨gr, 0, none⟩ u0).setCell ⟨gr, 1, none⟩ u1).setCell ⟨gr, 2, none⟩ u2).setCell ⟨gr, 3, none⟩ u3) ∧ w0.grownBy ((((w.setCell ⟨gr, 0, none⟩ u0).setCell ⟨gr, 1, none⟩ u1).setCell ⟨gr, 2, none⟩ u2).setCell ⟨gr, 3, none⟩ u3) (some b) ∧
    Row ((((w.setCell ⟨gr, 0, none⟩ u0).setCell ⟨gr, 1, none⟩ u1).setCell ⟨gr, 2, none⟩ u2).setCell ⟨gr, 3, none⟩ u3) gr 50 #[u0, u1, u2, u3] := by
  have hW := Nat.le_trans h.w0W h.nr
  have r0 : Row (w.setCell ⟨gr, 0, none⟩ u0) gr 50 #[u0, .int .i64 0, .int .i64 0, .int .i64 0] := h.res.put 0 _
  have r1 : Row ((w.setCell ⟨gr, 0, none⟩ u0).setCell ⟨gr, 1, none⟩ u1) gr 50 #[u0, u1, .int .i64 0, .int .i64 0] := r0.put 1 _
  have r2 : Row (((w.setCell ⟨gr, 0, none⟩ u0).setCell ⟨gr, 1, none⟩ u1).setCell ⟨gr, 2, none⟩ u2) gr 50 #[u0, u1, u2, .int .i64 0] := r1.put 2 _
  exact ⟨src_set (src_set (src_set (src_set h.src _ _ _ hW h.br) _ _ _ hW h.br) _ _ _ hW h.br) _ _ _ hW h.br, grown_set (grown_set (grown_set (grown_set h.gro gr 0 _ h.nr rfl) gr 1 _ h.nr rfl) gr 2 _ h.nr rfl) gr 3 _ h.nr rfl, r2.put 3 _⟩
end
end Go.Proofs.YtfnlgfacadmjpaaGreatDoor.Pl
namespace Go.Proofs.YtfnlgfacadmjpaaGreatDoor.Pl
open Go.RowKit

theorem ret_c3t {f : Nat} {a b c : Int} (h : a = (Ico.cor f 0 : Int) ∧ b = (Ico.cor f 1 : Int) ∧ c = (Ico.cor f 2 : Int)) : Ending.returned (.tuple #[.agg #[.int .i64 a, .int .i64 b, .int .i64 c], .int .i64 0]) = .returned (.tuple #[c3 f, .int .i64 0]) := by
  obtain ⟨rfl, rfl, rfl⟩ := h; rfl
set_option maxHeartbeats 1000000 in
theorem refCorners_yes (f : Nat) (w : World) (hf : f < 20) :
    Calls Tryz.prog 191 #[.int .i64 f] w fun e w' => e = .returned (.tuple #[c3 f, .int .i64 0]) ∧ Below w.heap.size w w' := by
  have hq : (f : Int) / 5 = 0 ∨ (f : Int) / 5 = 1 ∨ (f : Int) / 5 = 2 ∨ (f : Int) / 5 = 3 := by omega
  rcases hq with hq | hq | hq | hq
  · have C := Lib.hid (cor_form0 f hf (by omega))
    have q0 : ((f : Int) / 5 == 0) = true := by rw [hq]; rfl
    clear hq
    go_enter Tryz.func191, Tryz.ntmps191
    go_wp2
    exact bodyPost_ret (v := .tuple #[.agg #[.int .i64 0, .int .i64 (1 + (f : Int) % 5), .int .i64 (1 + ((f : Int) % 5 + 1) % 5)], .int .i64 0]) (by simp [results, Tryz.results191, go_sem]) rfl ⟨ret_c3t (by obtain ⟨c1, c2, c3⟩ := C.out; rw [c1, c2, c3]; omega), (Below.refl _ _).alloc (Nat.le_refl _) _⟩
  · have C := Lib.hid (cor_form1 f hf (by omega))
    have q0 : ((f : Int) / 5 == 0) = false := by rw [hq]; rfl
    have q1 : ((f : Int) / 5 == 1) = true := by rw [hq]; rfl
    clear hq
    go_enter Tryz.func191, Tryz.ntmps191
    go_wp2
    exact bodyPost_ret (v := .tuple #[.agg #[.int .i64 (1 + (f : Int) % 5), .int .i64 (6 + (f : Int) % 5), .int .i64 (1 + ((f : Int) % 5 + 1) % 5)], .int .i64 0]) (by simp [results, Tryz.results191, go_sem]) rfl ⟨ret_c3t (by obtain ⟨c1, c2, c3⟩ := C.out; rw [c1, c2, c3]; omega), (Below.refl _ _).alloc (Nat.le_refl _) _⟩
  · have C := Lib.hid (cor_form2 f hf (by omega))
    have q0 : ((f : Int) / 5 == 0) = false := by rw [hq]; rfl
    have q1 : ((f : Int) / 5 == 1) = false := by rw [hq]; rfl
    have q2 : ((f : Int) / 5 == 2) = true := by rw [hq]; rfl
    clear hq
    go_enter Tryz.func191, Tryz.ntmps191
    go_wp2
    exact bodyPost_ret (v := .tuple #[.agg #[.int .i64 (6 + (f : Int) % 5), .int .i64 (6 + ((f : Int) % 5 + 1) % 5), .int .i64 (1 + ((f : Int) % 5 + 1) % 5)], .int .i64 0]) (by simp [results, Tryz.results191, go_sem]) rfl ⟨ret_c3t (by obtain ⟨c1, c2, c3⟩ := C.out; rw [c1, c2, c3]; omega), (Below.refl _ _).alloc (Nat.le_refl _) _⟩
  · have C := Lib.hid (cor_form3 f hf (by omega))
    have q0 : ((f : Int) / 5 == 0) = false := by rw [hq]; rfl
    have q1 : ((f : Int) / 5 == 1) = false := by rw [hq]; rfl
    have q2 : ((f : Int) / 5 == 2) = false := by rw [hq]; rfl
    clear hq
    go_enter Tryz.func191, Tryz.ntmps191
    go_wp2
    exact bodyPost_ret (v := .tuple #[.agg #[.int .i64 11, .int .i64 (6 + ((f : Int) % 5 + 1) % 5), .int .i64 (6 + (f : Int) % 5)], .int .i64 0]) (by simp [results, Tryz.results191, go_sem]) rfl ⟨ret_c3t (by obtain ⟨c1, c2, c3⟩ := C.out; rw [c1, c2, c3]; omega), (Below.refl _ _).alloc (Nat.le_refl _) _⟩
set_option maxHeartbeats 400000 in
theorem refCorners_no (F : Int) (w : World) (hf : ¬ (0 ≤ F ∧ F < 20)) :
    Calls Tryz.prog 191 #[.int .i64 F] w fun e w' => e = .returned (.tuple #[.agg #[.int .i64 0, .int .i64 0, .int .i64 0], .int .i64 1]) ∧ Below w.heap.size w w' := by
  by_cases h1 : 0 ≤ F
  · have h2 : ¬ F < 20 := fun h => hf ⟨h1, h⟩
    clear hf
    go_enter Tryz.func191, Tryz.ntmps191
    go_wp2
    exact bodyPost_ret (v := .tuple #[.agg #[.int .i64 0, .int .i64 0, .int .i64 0], .int .i64 1]) (by simp [results, Tryz.results191, go_sem]) rfl ⟨rfl, (Below.refl _ _).alloc (Nat.le_refl _) _⟩
  · clear hf
    go_enter Tryz.func191, Tryz.ntmps191
    go_wp2
    exact bodyPost_ret (v := .tuple #[.agg #[.int .i64 0, .int .i64 0, .int .i64 0], .int .i64 1]) (by simp [results, Tryz.results191, go_sem]) rfl ⟨rfl, (Below.refl _ _).alloc (Nat.le_refl _) _⟩
end Go.Proofs.YtfnlgfacadmjpaaGreatDoor.Pl
