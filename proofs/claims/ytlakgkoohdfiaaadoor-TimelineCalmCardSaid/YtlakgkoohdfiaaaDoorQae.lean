/- Texts of this proof. -/
import Derived.Test.YtlakgkoohdfiaaaDoorQad
import Derived.Test.YtlakgkoohdfiaaaDoorQaa
import Derived.Deep.Cut
import Derived.Deep.CutRange
import Derived.Test.YtlakgkoohdfiaaaDoorQaj
namespace Go.Proofs.YtlakgkoohdfiaaaDoor.Pl
open Go.RowKit

theorem flat4 {α : Type} {p : Nat → List α} (hp : ∀ g, (p g).length = 4) : ∀ (l : List Nat) (i r : Nat), r < 4 → (h : i < l.length) → (l.flatMap p)[i * 4 + r]? = (p l[i])[r]?
  | x :: l, 0, r, hr, _ => by
    rw [List.flatMap_cons, List.getElem?_append_left (by rw [hp]; omega)]; simp
  | x :: l, i + 1, r, hr, h => by
    rw [List.flatMap_cons, List.getElem?_append_right (by rw [hp]; omega), hp]
    rw [show (i + 1) * 4 + r - 4 = i * 4 + r by omega, flat4 hp l i r hr (by simpa using h)]
    simp
theorem pl_len (f : Nat) (a b c : Int) (g : Nat) : (pl f a b c g).length = 4 := rfl
/-- Block g holds the addresses. -/
def Has (w : World) (f : Nat) (a b c : Int) (g : Nat) : Prop := ∀ i, (h : i < (Ico.fcs f a b c 20).length) →
  w.cell? ⟨g, i * 4, none⟩ = some (.int .i64 ((Ico.fcs f a b c 20)[i] : Nat)) ∧ w.cell? ⟨g, i * 4 + 1, none⟩ = some (.int .i64 (Ico.wt f a b c (Ico.cor (Ico.fcs f a b c 20)[i] 0))) ∧
  w.cell? ⟨g, i * 4 + 2, none⟩ = some (.int .i64 (Ico.wt f a b c (Ico.cor (Ico.fcs f a b c 20)[i] 1))) ∧ w.cell? ⟨g, i * 4 + 3, none⟩ = some (.int .i64 (Ico.wt f a b c (Ico.cor (Ico.fcs f a b c 20)[i] 2)))
theorem Has.keep {w w' : World} {f : Nat} {a b c : Int} {g : Nat} (h : Has w f a b c g) (hk : ∀ j, w'.cell? ⟨g, j, none⟩ = w.cell? ⟨g, j, none⟩) : Has w' f a b c g := fun i hi => by
  rw [hk, hk, hk, hk]; exact h i hi
theorem Has.under {w w' : World} {f : Nat} {a b c : Int} {g : Nat} (h : Has w f a b c g) (hg : g < w.heap.size) (hb : Below w.heap.size w w') : Has w' f a b c g := h.keep fun j => hb.cell (p := ⟨g, j, none⟩) hg
theorem own_open {w : World} {B size n : Nat} {e : TypeId} {v : Value} {xs : List Value} (h : w.ownsRow B e size v n xs) (hn : 0 < n) :
    ∃ g cap, v = .slice (some ⟨g, 0, none⟩) n cap ∧ B ≤ g ∧ g < w.heap.size ∧ n ≤ cap ∧ cap ≤ maxLen ∧ ∀ j u, xs[j]? = some u → w.cell? ⟨g, j, none⟩ = some u := by
  rcases h.2 with ⟨_, h0⟩ | ⟨g, cap, cur, rfl, hB, hg, hc, hm, _⟩
  · omega
  · refine ⟨g, cap, rfl, hB, (Array.getElem?_eq_some_iff.1 hg).1, hc, hm, fun j u hu => ?_⟩
    have e : (⟨g, 0, none⟩ : Addr).add j = ⟨g, j, none⟩ := by unfold Addr.add; cases j <;> simp
    have := h.cells (g := g) rfl j u hu
    rwa [e] at this
/-- What Addresses leaves: a list in a block of its own. -/
theorem addresses_open (f : Nat) (a b c : Int) (w : World) (hv : Ico.Vld f a b c) :
    Calls Tryd.prog 118 #[.agg #[.int .i64 f, .int .i64 a, .int .i64 b, .int .i64 c]] w fun e w' => ∃ g cap, e = .returned (.tuple #[.slice (some ⟨g, 0, none⟩) (Ico.fcs f a b c 20).length cap, .int .i64 0]) ∧ Below w.heap.size w w' ∧
      w.heap.size ≤ g ∧ g < w'.heap.size ∧ (Ico.fcs f a b c 20).length ≤ cap ∧ cap ≤ 9223372036854775807 ∧ Has w' f a b c g :=
  (addresses_yes f a b c w hv).mono fun e w' ⟨v, he, hb, ho⟩ => by
    obtain ⟨g, cap, rfl, h1, h2, h3, h4, h5⟩ := own_open ho (Ico.fcs_pos hv)
    refine ⟨g, cap, he, hb, h1, h2, h3, by unfold maxLen at h4; exact h4, fun i hi => ⟨?_, ?_, ?_, ?_⟩⟩
    · exact h5 _ _ ((flat4 (pl_len f a b c) _ i 0 (by omega) hi).trans rfl)
    · exact h5 _ _ ((flat4 (pl_len f a b c) _ i 1 (by omega) hi).trans rfl)
    · exact h5 _ _ ((flat4 (pl_len f a b c) _ i 2 (by omega) hi).trans rfl)
    · exact h5 _ _ ((flat4 (pl_len f a b c) _ i 3 (by omega) hi).trans rfl)
theorem nf_eq {f : Nat} {a b c : Int} (h : 0 < (Ico.fcs f a b c 20).length) : (Ico.fcs f a b c 20)[0] = Ico.nf f a b c := by
  unfold Ico.nf
  generalize Ico.fcs f a b c 20 = l at *
  cases l with
  | nil => simp at h
  | cons x l => rfl
/-- The normal place's weights. -/
def nw (f : Nat) (a b c : Int) (k : Nat) : Int := Ico.wt f a b c (Ico.cor (Ico.nf f a b c) k)
theorem Has.first {w : World} {f : Nat} {a b c : Int} {g : Nat} (h : Has w f a b c g) (hv : Ico.Vld f a b c) :
    w.cell? ⟨g, 0, none⟩ = some (.int .i64 (Ico.nf f a b c : Nat)) ∧ w.cell? ⟨g, 1, none⟩ = some (.int .i64 (nw f a b c 0)) ∧ w.cell? ⟨g, 2, none⟩ = some (.int .i64 (nw f a b c 1)) ∧ w.cell? ⟨g, 3, none⟩ = some (.int .i64 (nw f a b c 2)) := by
  have := h 0 (Ico.fcs_pos hv)
  rw [nf_eq (Ico.fcs_pos hv)] at this
  exact this
set_option maxHeartbeats 1000000 in
theorem normal_no (F a b c : Int) (w : World) (hv : vb F a b c = false) :
    Calls Tryd.prog 94 #[.agg #[.int .i64 F, .int .i64 a, .int .i64 b, .int .i64 c]] w fun e w' => e = .returned (.tuple #[.agg #[.int .i64 0, .int .i64 0, .int .i64 0, .int .i64 0], .int .i64 1]) ∧ Below w.heap.size w w' := by
  go_enter Tryd.func94, Tryd.ntmps94
  go_wp2_with fail
  refine (addresses_no _ _ _ _ _ hv).mono ?_
  rintro e w2 ⟨rfl, hb2⟩
  obtain ⟨hc, hz⟩ := bcell hb2
  go_wp2_with fail
  exact bodyPost_ret (v := .tuple #[.agg #[.int .i64 0, .int .i64 0, .int .i64 0, .int .i64 0], .int .i64 1]) (by simp [results, Tryd.results94, hc, go_sem]) rfl ⟨rfl, (((((((Below.refl _ _).alloc (Nat.le_refl _) _).alloc (by simp) _).trans (hb2.mono (by simp; omega))).setCell (by simp) _).setCell (by simp) _).setCell (by simp) _).setCell (by simp) _⟩
set_option maxHeartbeats 1000000 in
theorem normal_yes (f : Nat) (a b c : Int) (w : World) (hv : Ico.Vld f a b c) :
    Calls Tryd.prog 94 #[.agg #[.int .i64 f, .int .i64 a, .int .i64 b, .int .i64 c]] w fun e w' => e = .returned (.tuple #[.agg #[.int .i64 (Ico.nf f a b c : Nat), .int .i64 (nw f a b c 0), .int .i64 (nw f a b c 1), .int .i64 (nw f a b c 2)], .int .i64 0]) ∧ Below w.heap.size w w' := by
  have HV := Lib.hid hv; clear hv
  go_enter Tryd.func94, Tryd.ntmps94
  go_wp2_with fail
  refine (addresses_open _ _ _ _ _ HV.out).mono ?_
  rintro e w2 ⟨g, cap, rfl, hb2, g1, g2, g3, g4, hH⟩
  obtain ⟨hc, hz⟩ := bcell hb2
  obtain ⟨q0, q1, q2, q3⟩ := hH.first HV.out
  have hp := Ico.fcs_pos HV.out
  clear hH
  generalize (Ico.fcs f a b c 20).length = len at *
  have hge : w.heap.size + 2 ≤ g := by simp at g1; omega
  clear g1
  go_wp2_with fail
  exact bodyPost_ret (v := .tuple #[.agg #[.int .i64 (Ico.nf f a b c : Nat), .int .i64 (nw f a b c 0), .int .i64 (nw f a b c 1), .int .i64 (nw f a b c 2)], .int .i64 0]) (by simp [results, Tryd.results94, hc, go_sem]) rfl ⟨rfl, (((((((Below.refl _ _).alloc (Nat.le_refl _) _).alloc (by simp) _).trans (hb2.mono (by simp; omega))).setCell (by simp) _).setCell (by simp) _).setCell (by simp) _).setCell (by simp) _⟩
end Go.Proofs.YtlakgkoohdfiaaaDoor.Pl


namespace Go.Proofs.YtlakgkoohdfiaaaDoor.Pl
open Go.RowKit

/-- What somewhere leaves: a valid place, the reader as it should be, and nothing but the reader's block turned. -/
def Sent (W : World) (b : Nat) (w : World) (e : Ending) (w' : World) : Prop := ∃ (f : Nat) (x y z : Int), Ico.Vld f x y z ∧ e = .returned (.agg #[.int .i64 f, .int .i64 x, .int .i64 y, .int .i64 z]) ∧ Src W b w' ∧ w.grownBy w' (some b)
/-- What is known inside. -/
structure In (W : World) (b : Nat) (w0 : World) (gr gp : Nat) (p q r s : Int) (w : World) : Prop where
  src : Src W b w
  gro : w0.grownBy w (some b)
  res : Row w gr 27 #[.int .i64 0, .int .i64 0, .int .i64 0, .int .i64 0]
  pl : Row w gp 27 #[.int .i64 p, .int .i64 q, .int .i64 r, .int .i64 s]
  ne : gr ≠ gp
  nr : w0.heap.size ≤ gr
  np : w0.heap.size ≤ gp
  br : gr ≠ b
  bp : gp ≠ b
  w0W : W.heap.size ≤ w0.heap.size
section
variable {W w0 w w' : World} {b gr gp : Nat} {p q r s : Int}
theorem In.step (h : In W b w0 gr gp p q r s w) (hs : Src W b w') (hg : w.grownBy w' (some b)) : In W b w0 gr gp p q r s w' :=
  ⟨hs, grown_trans h.gro hg, h.res.grown hg (fun e => h.br (by injection e)), h.pl.grown hg (fun e => h.bp (by injection e)), h.ne, h.nr, h.np, h.br, h.bp, h.w0W⟩
theorem grown_set {a c : World} {B : Nat} {row : Option Nat} (h : a.grownBy c row) (g j : Nat) (u : Value) (hg : a.heap.size ≤ g) (hB : B = g) : a.grownBy (c.setCell ⟨B, j, none⟩ u) row := by
  subst hB
  exact ⟨h.os, h.tape, h.output, Nat.le_trans h.size (by simp), fun i hi hr => (Below.heap_setCell c ⟨B, j, none⟩ u i (fun e => by simp at e; omega)).trans (h.block i hi hr)⟩
theorem src_set {c : World} (h : Src W b c) (g j : Nat) (u : Value) (hg : W.heap.size ≤ g) (hb : g ≠ b) : Src W b (c.setCell ⟨g, j, none⟩ u) := by
  obtain ⟨A, n, cp, k, h1, h2, h3, h4⟩ := h.row
  exact ⟨h.base, h.below.setCell (p := ⟨g, j, none⟩) hg _, A, n, cp, k, h1, h2, (Below.heap_setCell c ⟨g, j, none⟩ u b (Ne.symm hb)).trans h3, h4⟩
theorem In.set1 (h : In W b w0 gr gp p q r s w) (x : Int) : In W b w0 gr gp p x r s (w.setCell ⟨gp, 1, none⟩ (.int .i64 x)) :=
  ⟨src_set h.src _ _ _ (Nat.le_trans h.w0W h.np) h.bp, grown_set h.gro gp 1 _ h.np rfl, h.res.far (Ne.symm h.ne) _, h.pl.put 1 _, h.ne, h.nr, h.np, h.br, h.bp, h.w0W⟩
theorem In.set2 (h : In W b w0 gr gp p q r s w) (x : Int) : In W b w0 gr gp p q x s (w.setCell ⟨gp, 2, none⟩ (.int .i64 x)) :=
  ⟨src_set h.src _ _ _ (Nat.le_trans h.w0W h.np) h.bp, grown_set h.gro gp 2 _ h.np rfl, h.res.far (Ne.symm h.ne) _, h.pl.put 2 _, h.ne, h.nr, h.np, h.br, h.bp, h.w0W⟩
theorem In.set3 (h : In W b w0 gr gp p q r s w) (x : Int) : In W b w0 gr gp p q r x (w.setCell ⟨gp, 3, none⟩ (.int .i64 x)) :=
  ⟨src_set h.src _ _ _ (Nat.le_trans h.w0W h.np) h.bp, grown_set h.gro gp 3 _ h.np rfl, h.res.far (Ne.symm h.ne) _, h.pl.put 3 _, h.ne, h.nr, h.np, h.br, h.bp, h.w0W⟩
theorem In.cells (h : In W b w0 gr gp p q r s w) :
    (w.cell? ⟨gp, 0, none⟩ = some (.int .i64 p) ∧ w.cell? ⟨gp, 1, none⟩ = some (.int .i64 q) ∧ w.cell? ⟨gp, 2, none⟩ = some (.int .i64 r) ∧ w.cell? ⟨gp, 3, none⟩ = some (.int .i64 s)) ∧
    (w.frozen? ⟨gp, 1, none⟩ = false ∧ w.frozen? ⟨gp, 2, none⟩ = false ∧ w.frozen? ⟨gp, 3, none⟩ = false) := ⟨row4 h.pl, h.pl.thaw 1, h.pl.thaw 2, h.pl.thaw 3⟩
theorem In.sets (h : In W b w0 gr gp p q r s w) (u0 u1 u2 u3 : Value) :
    Src W b ((((w.setCell ⟨gr, 0, none⟩ u0).setCell ⟨gr, 1, none⟩ u1).setCell ⟨gr, 2, none⟩ u2).setCell ⟨gr, 3, none⟩ u3) ∧ w0.grownBy ((((w.setCell ⟨gr, 0, none⟩ u0).setCell ⟨gr, 1, none⟩ u1).setCell ⟨gr, 2, none⟩ u2).setCell ⟨gr, 3, none⟩ u3) (some b) ∧
    Row ((((w.setCell ⟨gr, 0, none⟩ u0).setCell ⟨gr, 1, none⟩ u1).setCell ⟨gr, 2, none⟩ u2).setCell ⟨gr, 3, none⟩ u3) gr 27 #[u0, u1, u2, u3] := by
  have hW := Nat.le_trans h.w0W h.nr
  have r0 : Row (w.setCell ⟨gr, 0, none⟩ u0) gr 27 #[u0, .int .i64 0, .int .i64 0, .int .i64 0] := h.res.put 0 _
  have r1 : Row ((w.setCell ⟨gr, 0, none⟩ u0).setCell ⟨gr, 1, none⟩ u1) gr 27 #[u0, u1, .int .i64 0, .int .i64 0] := r0.put 1 _
  have r2 : Row (((w.setCell ⟨gr, 0, none⟩ u0).setCell ⟨gr, 1, none⟩ u1).setCell ⟨gr, 2, none⟩ u2) gr 27 #[u0, u1, u2, .int .i64 0] := r1.put 2 _
  exact ⟨src_set (src_set (src_set (src_set h.src _ _ _ hW h.br) _ _ _ hW h.br) _ _ _ hW h.br) _ _ _ hW h.br, grown_set (grown_set (grown_set (grown_set h.gro gr 0 _ h.nr rfl) gr 1 _ h.nr rfl) gr 2 _ h.nr rfl) gr 3 _ h.nr rfl, r2.put 3 _⟩
end
end Go.Proofs.YtlakgkoohdfiaaaDoor.Pl


namespace Go.Proofs.YtlakgkoohdfiaaaDoor
open Go.RowKit

/-- A byte of a name. -/
def isCh (c : UInt8) : Bool := (decide (65 ≤ c.toNat) && decide (c.toNat ≤ 90)) || (decide (48 ≤ c.toNat) && decide (c.toNat ≤ 57))
def nameOk (s : ByteArray) : Bool := decide (s.size = 5) && s.data.toList.all isCh
/-- A place is valid and its own normal place. -/
def nrm (F A B C : Int) : Bool := Pl.vb F A B C && (((Pl.Ico.nf F.toNat A B C : Nat) : Int) == F && Pl.nw F.toNat A B C 0 == A && Pl.nw F.toNat A B C 1 == B && Pl.nw F.toNat A B C 2 == C)
/-- The place fits the kind. -/
def plOk (k F A B C : Int) : Bool := if k = 1 then (F == 0 && A == 0 && B == 0 && C == 0) else nrm F A B C
/-- A report in a block. -/
abbrev repV (k : Int) (nm : ByteArray) (t F A B C : Int) (u : Value) : Value := .agg #[.int .i64 k, .string nm, .int .i64 t, .int .i64 F, .int .i64 A, .int .i64 B, .int .i64 C, u]
abbrev repC (k : Int) (nm : ByteArray) (t F A B C : Int) (u : Value) : Array Value := #[.int .i64 k, .string nm, .int .i64 t, .int .i64 F, .int .i64 A, .int .i64 B, .int .i64 C, u]
theorem row8 {w : World} {b : Nat} {t : TypeId} {x0 x1 x2 x3 x4 x5 x6 x7 : Value} (h : Row w b t #[x0, x1, x2, x3, x4, x5, x6, x7]) :
    w.cell? ⟨b, 0, none⟩ = some x0 ∧ w.cell? ⟨b, 1, none⟩ = some x1 ∧ w.cell? ⟨b, 2, none⟩ = some x2 ∧ w.cell? ⟨b, 3, none⟩ = some x3 ∧ w.cell? ⟨b, 4, none⟩ = some x4 ∧ w.cell? ⟨b, 5, none⟩ = some x5 ∧ w.cell? ⟨b, 6, none⟩ = some x6 ∧ w.cell? ⟨b, 7, none⟩ = some x7 :=
  ⟨(h.cell 0).trans rfl, (h.cell 1).trans rfl, (h.cell 2).trans rfl, (h.cell 3).trans rfl, (h.cell 4).trans rfl, (h.cell 5).trans rfl, (h.cell 6).trans rfl, (h.cell 7).trans rfl⟩
theorem set8_row {w : World} {g : Nat} {t : TypeId} {y0 y1 y2 y3 y4 y5 y6 y7 : Value} (u0 u1 u2 u3 u4 u5 u6 u7 : Value) (h : Row w g t #[y0, y1, y2, y3, y4, y5, y6, y7]) :
    Row ((((((((w.setCell ⟨g, 0, none⟩ u0).setCell ⟨g, 1, none⟩ u1).setCell ⟨g, 2, none⟩ u2).setCell ⟨g, 3, none⟩ u3).setCell ⟨g, 4, none⟩ u4).setCell ⟨g, 5, none⟩ u5).setCell ⟨g, 6, none⟩ u6).setCell ⟨g, 7, none⟩ u7) g t #[u0, u1, u2, u3, u4, u5, u6, u7] := by
  have h0 : Row (w.setCell ⟨g, 0, none⟩ u0) g t #[u0, y1, y2, y3, y4, y5, y6, y7] := h.put 0 _
  have h1 : Row ((w.setCell ⟨g, 0, none⟩ u0).setCell ⟨g, 1, none⟩ u1) g t #[u0, u1, y2, y3, y4, y5, y6, y7] := h0.put 1 _
  have h2 : Row (((w.setCell ⟨g, 0, none⟩ u0).setCell ⟨g, 1, none⟩ u1).setCell ⟨g, 2, none⟩ u2) g t #[u0, u1, u2, y3, y4, y5, y6, y7] := h1.put 2 _
  have h3 : Row ((((w.setCell ⟨g, 0, none⟩ u0).setCell ⟨g, 1, none⟩ u1).setCell ⟨g, 2, none⟩ u2).setCell ⟨g, 3, none⟩ u3) g t #[u0, u1, u2, u3, y4, y5, y6, y7] := h2.put 3 _
  have h4 : Row (((((w.setCell ⟨g, 0, none⟩ u0).setCell ⟨g, 1, none⟩ u1).setCell ⟨g, 2, none⟩ u2).setCell ⟨g, 3, none⟩ u3).setCell ⟨g, 4, none⟩ u4) g t #[u0, u1, u2, u3, u4, y5, y6, y7] := h3.put 4 _
  have h5 : Row ((((((w.setCell ⟨g, 0, none⟩ u0).setCell ⟨g, 1, none⟩ u1).setCell ⟨g, 2, none⟩ u2).setCell ⟨g, 3, none⟩ u3).setCell ⟨g, 4, none⟩ u4).setCell ⟨g, 5, none⟩ u5) g t #[u0, u1, u2, u3, u4, u5, y6, y7] := h4.put 5 _
  have h6 : Row (((((((w.setCell ⟨g, 0, none⟩ u0).setCell ⟨g, 1, none⟩ u1).setCell ⟨g, 2, none⟩ u2).setCell ⟨g, 3, none⟩ u3).setCell ⟨g, 4, none⟩ u4).setCell ⟨g, 5, none⟩ u5).setCell ⟨g, 6, none⟩ u6) g t #[u0, u1, u2, u3, u4, u5, u6, y7] := h5.put 6 _
  exact h6.put 7 _
/-- A report is valid. -/
structure Vd (k : Int) (nm : ByteArray) (t F A B C : Int) (L : List El.Elt.R) : Prop where
  kind : 1 ≤ k ∧ k ≤ 3
  name : nameOk nm = true
  time : 0 ≤ t ∧ t ≤ 52595999
  place : plOk k F A B C = true
  list : El.Elt.vld L = 0
end Go.Proofs.YtlakgkoohdfiaaaDoor


namespace Go.Proofs.YtlakgkoohdfiaaaDoor
open Go.RowKit

theorem wrap_i64 (n : Int) : I64 (wrap64 n) := by
  have := bounds_i64 (wrap64_wf n)
  exact this
theorem src_lt {W w : World} {b : Nat} (h : Src W b w) : b < w.heap.size := by
  obtain ⟨_, _, _, _, _, _, h3, _⟩ := h.row
  exact (Array.getElem?_eq_some_iff.1 h3).1
set_option maxHeartbeats 800000 in
theorem minute_any (W : World) (b : Nat) (w : World) (h : Src W b w) :
    Calls Tryd.prog 14 #[.pointer (some ⟨b, 0, none⟩)] w (Reads (fun x => 0 ≤ x ∧ x ≤ 52595999) W b w) := by
  go_enter Tryd.func14, Tryd.ntmps14
  go_wp2_with fail
  refine (n_any W b _ _ h (by omega) (by omega)).mono ?_
  rintro e w1 ⟨x, ⟨x1, x2⟩, rfl, hs, hg⟩
  by_cases e0 : x = 0
  · subst e0
    go_wp2_with fail
    refine (raw_any W b _ hs).mono ?_
    rintro e w2 ⟨y, hy, rfl, hs2, hg2⟩
    go_wp2_with fail
    refine (raw_any W b _ hs2).mono ?_
    rintro e w3 ⟨z, hz, rfl, hs3, hg3⟩
    go_wp2_with fail
    refine (mod_any _ _ _ (wrap_i64 _) (by omega) (by omega)).mono ?_
    rintro e w4 ⟨rfl, rfl⟩
    go_wp2_with fail
    go_ret
    exact ⟨_, ⟨Int.emod_nonneg _ (by omega), by have := Int.emod_lt_of_pos (wrap64 (wrap64 (y * 7919) + z)) (show (0 : Int) < 52596000 by omega); omega⟩, rfl, hs3, grown_trans (grown_trans hg hg2) hg3⟩
  · by_cases e1 : x = 1
    · subst e1
      have ba := (Below.refl w1.heap.size w1).alloc (Nat.le_refl _) (.cells #[.int .i64 0, .int .i64 52595999, .int .i64 20160, .int .i64 52575839] 3)
      have rr := Row.new w1 #[.int .i64 0, .int .i64 52595999, .int .i64 20160, .int .i64 52575839] 3
      have hne : w1.heap.size ≠ b := Nat.ne_of_gt (src_lt hs)
      obtain ⟨c0, c1, c2, c3⟩ := row4 rr
      have hlt := rr.lt
      go_wp2_with fail
      refine (pick_any (fun x => 0 ≤ x ∧ x ≤ 52595999) W b _ _ _ _ (hs.under ba) (by omega) (by omega) hne hlt (fun i hi => by
        rcases (by omega : i = 0 ∨ i = 1 ∨ i = 2 ∨ i = 3) with rfl | rfl | rfl | rfl
        · exact ⟨_, c0, by omega, by omega⟩
        · exact ⟨_, c1, by omega, by omega⟩
        · exact ⟨_, c2, by omega, by omega⟩
        · exact ⟨_, c3, by omega, by omega⟩)).mono ?_
      rintro e w2 ⟨y, hy, rfl, hs2, hg2⟩
      go_wp2_with fail
      go_ret
      exact ⟨y, hy, rfl, hs2, grown_trans (grown_trans hg (grown_below ba)) hg2⟩
    · have q0 : (x == 0) = false := beq_eq_false_iff_ne.2 e0
      have q1 : (x == 1) = false := beq_eq_false_iff_ne.2 e1
      clear e0 e1
      go_wp2_with fail
      refine (n_any W b _ _ hs (by omega) (by omega)).mono ?_
      rintro e w2 ⟨y, ⟨y1, y2⟩, rfl, hs2, hg2⟩
      go_wp2_with fail
      go_ret
      exact ⟨_, ⟨by omega, by omega⟩, rfl, hs2, grown_trans hg hg2⟩
set_option maxHeartbeats 800000 in
theorem near_any (W : World) (b : Nat) (w : World) (m : Int) (h : Src W b w) (m1 : 0 ≤ m) (m2 : m ≤ 52595999) :
    Calls Tryd.prog 53 #[.pointer (some ⟨b, 0, none⟩), .int .i64 m] w (Reads (fun x => (0 ≤ x ∧ x ≤ 52595999) ∧ m - 20160 < x ∧ x < m + 20160) W b w) := by
  go_enter Tryd.func53, Tryd.ntmps53
  go_wp2_with fail
  refine (range_any W b _ _ _ h (by omega) (by omega) (by omega) (by omega)).mono ?_
  rintro e w1 ⟨p, ⟨p1, p2⟩, rfl, hs, hg⟩
  go_wp2_with fail
  refine (range_any W b _ _ _ hs (by omega) (by omega) (by omega) (by omega)).mono ?_
  rintro e w2 ⟨q, ⟨q1, q2⟩, rfl, hs2, hg2⟩
  have ba := (Below.refl w2.heap.size w2).alloc (Nat.le_refl _) (.cells #[.int .i64 0, .int .i64 p, .int .i64 q] 3)
  have rr := Row.new w2 #[.int .i64 0, .int .i64 p, .int .i64 q] 3
  have hne : w2.heap.size ≠ b := Nat.ne_of_gt (src_lt hs2)
  obtain ⟨c0, c1, c2⟩ := row3 rr
  have hlt := rr.lt
  go_wp2_with fail
  refine (pick_any (fun x => -20160 < x ∧ x < 20160) W b _ _ _ _ (hs2.under ba) (by omega) (by omega) hne hlt (fun i hi => by
    rcases (by omega : i = 0 ∨ i = 1 ∨ i = 2) with rfl | rfl | rfl
    · exact ⟨_, c0, by omega, by omega⟩
    · exact ⟨_, c1, by omega, by omega⟩
    · exact ⟨_, c2, by omega, by omega⟩)).mono ?_
  rintro e w3 ⟨d, ⟨d1, d2⟩, rfl, hs3, hg3⟩
  have G := Lib.hid (grown_trans (grown_trans (grown_trans hg hg2) (grown_below ba)) hg3)
  go_wp2_with fail
  all_goals go_ret
  all_goals exact ⟨_, ⟨⟨by omega, by omega⟩, by omega, by omega⟩, rfl, hs3, G.out⟩
/-- A text out of some. -/
def Txd (p : ByteArray → Prop) (W : World) (b : Nat) (w : World) (e : Ending) (w' : World) : Prop := ∃ x : ByteArray, p x ∧ e = .returned (.string x) ∧ Src W b w' ∧ w.grownBy w' (some b)
set_option maxHeartbeats 400000 in
theorem text_any (p : ByteArray → Prop) (W : World) (b : Nat) (w : World) (g n c : Nat) (h : Src W b w) (n1 : 1 ≤ n) (n2 : n ≤ 1000) (hgb : g ≠ b) (hgl : g < w.heap.size)
    (hp : ∀ i, i < n → ∃ x, w.cell? ⟨g, i, none⟩ = some (.string x) ∧ p x) :
    Calls Tryd.prog 51 #[.pointer (some ⟨b, 0, none⟩), .slice (some ⟨g, 0, none⟩) n c] w (Txd p W b w) := by
  have HP := Lib.hid hp; clear hp
  go_enter Tryd.func51, Tryd.ntmps51
  go_wp2_with fail
  refine (n_any W b _ _ h (by omega) (by omega)).mono ?_
  rintro e w1 ⟨x, ⟨x1, x2⟩, rfl, hs, hg⟩
  obtain ⟨k, rfl⟩ := Int.eq_ofNat_of_zero_le x1
  obtain ⟨v, hv, hpv⟩ := HP.out k (by omega)
  have hc : w1.cell? ⟨g, k, none⟩ = some (.string v) := (World.cell?_of_block (hg.block g hgl (by simpa using hgb))).trans hv
  clear hv
  go_wp2_with fail
  go_ret
  exact ⟨v, hpv, rfl, hs, hg⟩
theorem row6 {w : World} {b : Nat} {t : TypeId} {x0 x1 x2 x3 x4 x5 : Value} (h : Row w b t #[x0, x1, x2, x3, x4, x5]) :
    w.cell? ⟨b, 0, none⟩ = some x0 ∧ w.cell? ⟨b, 1, none⟩ = some x1 ∧ w.cell? ⟨b, 2, none⟩ = some x2 ∧ w.cell? ⟨b, 3, none⟩ = some x3 ∧ w.cell? ⟨b, 4, none⟩ = some x4 ∧ w.cell? ⟨b, 5, none⟩ = some x5 :=
  ⟨(h.cell 0).trans rfl, (h.cell 1).trans rfl, (h.cell 2).trans rfl, (h.cell 3).trans rfl, (h.cell 4).trans rfl, (h.cell 5).trans rfl⟩
def nms : List ByteArray := [⟨#[65, 76, 80, 72, 65]⟩, ⟨#[66, 82, 65, 86, 79]⟩, ⟨#[48, 49, 50, 51, 52]⟩, ⟨#[68, 69, 76, 84, 65]⟩, ⟨#[69, 67, 72, 79, 55]⟩, ⟨#[55, 55, 55, 55, 55]⟩]
theorem nms_ok : ∀ x ∈ nms, nameOk x = true := by decide +kernel
set_option maxHeartbeats 400000 in
theorem name_any (W : World) (b : Nat) (w : World) (h : Src W b w) :
    Calls Tryd.prog 52 #[.pointer (some ⟨b, 0, none⟩)] w (Txd (fun x => nameOk x = true) W b w) := by
  have ba := (Below.refl w.heap.size w).alloc (Nat.le_refl _) (.cells #[.string ⟨#[65, 76, 80, 72, 65]⟩, .string ⟨#[66, 82, 65, 86, 79]⟩, .string ⟨#[48, 49, 50, 51, 52]⟩, .string ⟨#[68, 69, 76, 84, 65]⟩, .string ⟨#[69, 67, 72, 79, 55]⟩, .string ⟨#[55, 55, 55, 55, 55]⟩] 9)
  have rr := Row.new w #[.string ⟨#[65, 76, 80, 72, 65]⟩, .string ⟨#[66, 82, 65, 86, 79]⟩, .string ⟨#[48, 49, 50, 51, 52]⟩, .string ⟨#[68, 69, 76, 84, 65]⟩, .string ⟨#[69, 67, 72, 79, 55]⟩, .string ⟨#[55, 55, 55, 55, 55]⟩] 9
  have hne : w.heap.size ≠ b := Nat.ne_of_gt (src_lt h)
  obtain ⟨c0, c1, c2, c3, c4, c5⟩ := row6 rr
  have hlt := rr.lt
  go_enter Tryd.func52, Tryd.ntmps52
  go_wp2_with fail
  refine (text_any (fun x => nameOk x = true) W b _ _ _ _ (h.under ba) (by omega) (by omega) hne hlt (fun i hi => by
    rcases (by omega : i = 0 ∨ i = 1 ∨ i = 2 ∨ i = 3 ∨ i = 4 ∨ i = 5) with rfl | rfl | rfl | rfl | rfl | rfl
    · exact ⟨_, c0, nms_ok _ (by simp [nms])⟩
    · exact ⟨_, c1, nms_ok _ (by simp [nms])⟩
    · exact ⟨_, c2, nms_ok _ (by simp [nms])⟩
    · exact ⟨_, c3, nms_ok _ (by simp [nms])⟩
    · exact ⟨_, c4, nms_ok _ (by simp [nms])⟩
    · exact ⟨_, c5, nms_ok _ (by simp [nms])⟩)).mono ?_
  rintro e w2 ⟨x, hx, rfl, hs2, hg2⟩
  go_wp2_with fail
  go_ret
  exact ⟨x, hx, rfl, hs2, grown_trans (grown_below ba) hg2⟩
end Go.Proofs.YtlakgkoohdfiaaaDoor

