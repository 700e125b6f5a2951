/- Texts of this proof. -/
import Derived.Test.YtlakgkoohdfiaaaDoorQaj
import Derived.Test.YtlakgkoohdfiaaaDoorGPlc
import Derived.Test.YtlakgkoohdfiaaaDoorQae
namespace Go.Proofs.YtlakgkoohdfiaaaDoor.El
open Go.RowKit

/-- A good list, its codes below k. -/
structure Good (k : Int) (M : List Elt.R) : Prop where
  val : ∀ r ∈ M, Elt.Val r.1 r.2
  lt : ∀ r ∈ M, r.1 < k
  asc : Elt.Asc M
  len : (M.length : Int) ≤ k - 1
theorem Good.nil : Good 1 [] := ⟨fun r h => (by cases h), fun r h => (by cases h), fun j h => absurd h (by simp), by simp⟩
theorem Good.skip {k : Int} {M : List Elt.R} (h : Good k M) : Good (k + 1) M := ⟨h.val, fun r hr => by have := h.lt r hr; omega, h.asc, by have := h.len; omega⟩
theorem asc_snoc {M : List Elt.R} {x : Elt.R} (h : Elt.Asc M) (hl : ∀ r ∈ M, r.1 < x.1) : Elt.Asc (M ++ [x]) := by
  intro j hj
  have hjl : j < M.length := by simpa using hj
  rw [List.getElem_append_left hjl]
  by_cases hj1 : j + 1 < M.length
  · rw [List.getElem_append_left hj1]; exact h j hj1
  · rw [List.getElem_append_right (by omega)]
    simp only [show j + 1 - M.length = 0 by omega, List.getElem_cons_zero]
    exact hl _ (List.getElem_mem _)
theorem Good.snoc {k : Int} {M : List Elt.R} {v : Int} (h : Good k M) (hv : Elt.Val k v) : Good (k + 1) (M ++ [(k, v)]) := by
  refine ⟨fun r hr => ?_, fun r hr => ?_, asc_snoc h.asc h.lt, by have := h.len; simp; omega⟩
  · rcases List.mem_append.1 hr with hr | hr
    · exact h.val r hr
    · obtain rfl := List.mem_singleton.1 hr
      exact hv
  · rcases List.mem_append.1 hr with hr | hr
    · have := h.lt r hr; omega
    · obtain rfl := List.mem_singleton.1 hr
      show k < k + 1
      omega
/-- What is known while the list grows: the reader, the list. -/
structure Gl (W : World) (b : Nat) (w0 : World) (M : List Elt.R) (u : Value) (w : World) : Prop where
  src : Src W b w
  gro : w0.grownBy w (some b)
  own : w.ownsRow w0.heap.size 81 2 u M.length (rdc M)
theorem src_row {W w : World} {b : Nat} (h : Src W b w) : ∃ cs, Row w b 87 cs := by
  obtain ⟨A, n, c, k, h1, h2, h3, h4⟩ := h.row
  exact ⟨_, h3⟩
theorem Gl.step {W w0 w w' : World} {b : Nat} {M : List Elt.R} {u : Value} (h : Gl W b w0 M u w) (hs : Src W b w') (hg : w.grownBy w' (some b)) : Gl W b w0 M u w' := by
  obtain ⟨cs, hr⟩ := src_row h.src
  exact ⟨hs, grown_trans h.gro hg, h.own.kept hg (.inr (fun e => own_ne h.own hr (by decide) e.symm))⟩
theorem Gl.under {W w0 w w' : World} {b : Nat} {M : List Elt.R} {u : Value} (h : Gl W b w0 M u w) (hb : Below w.heap.size w w') : Gl W b w0 M u w' := h.step (h.src.under hb) (grown_below hb)
theorem src_kept {W w w' : World} {b : Nat} {r : Option Nat} (h : Src W b w) (hg : w.grownBy w' r) (hr : r ≠ some b) (hW : ∀ i, r = some i → W.heap.size ≤ i) : Src W b w' := by
  obtain ⟨A, n, c, k, h1, h2, h3, h4⟩ := h.row
  have hbl : b < w.heap.size := (Array.getElem?_eq_some_iff.1 h3).1
  refine ⟨h.base, ⟨hg.os.trans h.below.os, hg.tape.trans h.below.tape, hg.output.trans h.below.output, Nat.le_trans h.below.size hg.size, fun i hi => (hg.block i (Nat.lt_of_lt_of_le hi h.below.size) (fun e => ?_)).trans (h.below.block i hi)⟩, A, n, c, k, h1, h2, (hg.block b hbl (Ne.symm hr)).trans h3, h4⟩
  have := hW i e.symm
  omega
theorem Gl.more {W w0 w w' : World} {b : Nat} {M : List Elt.R} {u : Value} {g' cap' : Nat} {x : Elt.R} (h : Gl W b w0 M u w) (hW : W.heap.size ≤ w0.heap.size)
    (hown : w'.ownsRow w0.heap.size 81 2 (.slice (some ⟨g', 0, none⟩) (M.length + 1) cap') (M.length + 1) (rdc M ++ [.int .i64 x.1, .int .i64 x.2])) (hg : w.grownBy w' u.ownBlock) : Gl W b w0 (M ++ [x]) (.slice (some ⟨g', 0, none⟩) (M.length + 1) cap') w' := by
  obtain ⟨cs, hr⟩ := src_row h.src
  have hlo : ∀ i, u.ownBlock = some i → w0.heap.size ≤ i := fun i e => (h.own.lt i e).1
  refine ⟨src_kept h.src hg (fun e => own_ne h.own hr (by decide) e.symm) (fun i e => Nat.le_trans hW (hlo i e)), ?_, by rw [rdc_snoc]; simpa using hown⟩
  exact ⟨hg.os.trans h.gro.os, hg.tape.trans h.gro.tape, hg.output.trans h.gro.output, Nat.le_trans h.gro.size hg.size, fun i hi hne => (hg.block i (Nat.lt_of_lt_of_le hi h.gro.size) (fun e => by have := hlo i e.symm; omega)).trans (h.gro.block i hi hne)⟩
/-- What List leaves. -/
def Lst (W : World) (b : Nat) (w : World) (e : Ending) (w' : World) : Prop := ∃ u M, e = .returned u ∧ Good 12 M ∧ Gl W b w M u w'
set_option maxRecDepth 100000 in
set_option maxHeartbeats 2000000 in
theorem list_any (W : World) (b : Nat) (w : World) (h : Src W b w) :
    Calls Tryd.prog 54 #[.pointer (some ⟨b, 0, none⟩)] w (Lst W b w) := by
  obtain ⟨i0, hi, hz0, hz1, hz2⟩ := info_parts infoReading
  have hW := h.below.size
  go_enter Tryd.func54, Tryd.ntmps54
  go_wp2_with fail
  go_loopw [3, 4] (fun u t wr => ∃ (k : Int) (M : List Elt.R), 1 ≤ k ∧ k ≤ 12 ∧ t = .int .i64 k ∧ Good k M ∧ Gl W b w M u wr) (fun _ t _ => (12 - intOf t).toNat)
  case atStart => exact ⟨1, [], by omega, by omega, rfl, Good.nil, h, grown_refl _ _, World.ownsRow_nil _ _ _ _⟩
  case round =>
    clear h
    obtain ⟨k, M, k1, k2, rfl, hG, hS⟩ := hrel
    have HG := Lib.hid hG; clear hG
    by_cases k3 : k ≤ 11
    · go_wp2_with fail
      refine (n_any W b _ _ hS.src (by omega) (by omega)).mono ?_
      rintro e w1 ⟨x, ⟨x1, x2⟩, rfl, s1, g1⟩
      have S1 := Lib.hid (hS.step s1 g1)
      clear hS s1 g1
      by_cases hx : x = 0
      · subst hx
        clear x1 x2
        go_wp2_with fail
        refine (some_any W b _ k S1.out.src ⟨k1, k3⟩).mono ?_
        rintro e w2 ⟨v, hv, rfl, s2, g2⟩
        have S2 := Lib.hid (S1.out.step s2 g2)
        have HN := Lib.hid (HG.out.snoc hv)
        have hml : M.length ≤ 11 := by have := HG.out.len; omega
        have S3 := Lib.hid (S2.out.under ((Below.refl _ _).alloc (Nat.le_refl _) (.cells #[.int .i64 k, .int .i64 v] 81)))
        clear s2 g2 hv S1 S2
        go_wp2_with (at_builtin; refine wpList_append_lies _ rfl (.tmp 12) (.tmp 16) 36 rfl w.heap.size 81 i0 _ 2 16 Tryd.underlying36 hi hz0 hz1 hz2 rfl (by decide) «u3» M.length (rdc M) rfl S3.out.own ⟨w2.heap.size, 0, none⟩ 1 1 [.int .i64 k, .int .i64 v] rfl rfl (World.news_of_block (cs := #[.int .i64 k, .int .i64 v]) (t := 81) (fr := (0, 0)) (heap_alloc_new w2 _)) (by simp [Value.oneCell']) (by omega) (by unfold maxLen; omega) (by omega) S3.out.gro.size (w2.heap.size + 1) (by simp) ?_; intro g' cap' w4 hown4 hgrow4 hat4 hlt4; have S4 := Lib.hid (S3.out.more (x := (k, v)) hW hown4 hgrow4); clear hown4 hgrow4 hat4 hlt4)
        go_roundw
        case rel => exact ⟨k + 1, M ++ [(k, v)], by omega, by omega, by go_num, HN.out, S4.out⟩
        case measure => simp [intOf]; omega
      · have q : (x == 0) = false := beq_eq_false_iff_ne.2 hx
        clear x1 x2 hx
        go_wp2_with fail
        go_roundw
        case rel => exact ⟨k + 1, M, by omega, by omega, by go_num, HG.out.skip, S1.out⟩
        case measure => simp [intOf]; omega
    · obtain rfl : k = 12 := by omega
      have HS := Lib.hid hS; clear hS
      go_wp2_with fail
      go_ret
      exact ⟨_, M, rfl, HG.out, HS.out⟩
theorem asc_pw {M : List Elt.R} (h : Elt.Asc M) : M.Pairwise (fun a b : Elt.R => a.1 < b.1) := by
  rw [List.pairwise_iff_getElem]
  intro i j hi hj hij
  obtain ⟨d, rfl⟩ : ∃ d, j = i + 1 + d := ⟨j - (i + 1), by omega⟩
  induction d with
  | zero => exact h i hj
  | succ d ih =>
    have h1 := ih (by omega) (by omega)
    have h2 := h (i + 1 + d) hj
    exact Int.lt_trans h1 h2
theorem pw_asc {M : List Elt.R} (h : M.Pairwise (fun a b : Elt.R => a.1 < b.1)) : Elt.Asc M := fun j hj => List.pairwise_iff_getElem.1 h j (j + 1) (by omega) hj (by omega)
theorem Good.vld {k : Int} {M : List Elt.R} (h : Good k M) : Elt.vld M = 0 := (Elt.vld_good h.val).1 h.asc
theorem Good.wout {k : Int} {M : List Elt.R} (h : Good k M) (C : List Int) : Elt.vld (Elt.wout M C) = 0 :=
  (Elt.vld_good (fun r hr => h.val r (List.mem_filter.1 hr).1)).1 (pw_asc ((asc_pw h.asc).filter _))
theorem fnd_wout (M : List Elt.R) (C : List Int) (c : Int) : Elt.fnd (Elt.wout M C) c = if C.contains c then none else Elt.fnd M c := by
  unfold Elt.fnd Elt.wout
  rw [List.find?_filter]
  cases hc : C.contains c with
  | true =>
    rw [if_pos rfl]
    have : M.find? (fun a => decide ((!C.contains a.1) = true ∧ (a.1 == c) = true)) = none := List.find?_eq_none.2 (fun r _ h => by
      have h := of_decide_eq_true h
      have e := beq_iff_eq.1 h.2
      rw [e, hc] at h
      exact absurd h.1 (by decide))
    rw [this]; rfl
  | false =>
    rw [if_neg (by decide)]
    congr 2
    funext a
    by_cases h : a.1 = c
    · rw [h, hc]; simp
    · have : (a.1 == c) = false := beq_eq_false_iff_ne.2 h
      rw [this]
      exact decide_eq_false (fun h => by cases h.2)
end Go.Proofs.YtlakgkoohdfiaaaDoor.El


namespace Go.Proofs.YtlakgkoohdfiaaaDoor
open Go.RowKit

theorem own_far {w w' : World} {base size n : Nat} {e : TypeId} {v : Value} {xs : List Value} (h : w.ownsRow base e size v n xs) (hk : ∀ g, v.ownBlock = some g → w'.heap[g]? = w.heap[g]?) : w'.ownsRow base e size v n xs := by
  refine ⟨h.1, ?_⟩
  rcases h.2 with h0 | ⟨g, cap, cur, rfl, h1, h2, h3⟩
  · exact .inl h0
  · exact .inr ⟨g, cap, cur, rfl, h1, (hk g rfl).trans h2, h3⟩
theorem own_base {w : World} {base base' size n : Nat} {e : TypeId} {v : Value} {xs : List Value} (h : w.ownsRow base e size v n xs) (hb : base' ≤ base) : w.ownsRow base' e size v n xs := by
  refine ⟨h.1, ?_⟩
  rcases h.2 with h0 | ⟨g, cap, cur, rfl, h1, h3⟩
  · exact .inl h0
  · exact .inr ⟨g, cap, cur, rfl, Nat.le_trans hb h1, h3⟩
theorem gl_set {W w0 w : World} {b : Nat} {M : List El.Elt.R} {u : Value} (h : El.Gl W b w0 M u w) (g j : Nat) (x : Value) (hW : W.heap.size ≤ w0.heap.size) (hg : w0.heap.size ≤ g) (hb : g ≠ b) (hne : some g ≠ u.ownBlock) : El.Gl W b w0 M u (w.setCell ⟨g, j, none⟩ x) :=
  ⟨Pl.src_set h.src g j x (Nat.le_trans hW hg) hb, Pl.grown_set h.gro g j x hg rfl, own_far h.own fun i hi => Below.heap_setCell w ⟨g, j, none⟩ x i (fun e => hne (by rw [hi]; simp at e; rw [e]))⟩
/-- What is known while a report is drawn. -/
structure Rs (W : World) (b : Nat) (w0 : World) (gr gp : Nat) (k : Int) (nm : ByteArray) (t F A B C : Int) (u : Value) (L : List El.Elt.R) (w : World) : Prop where
  gl : El.Gl W b w0 L u w
  res : Row w gr 38 (repC 0 ⟨#[]⟩ 0 0 0 0 0 (.slice none 0 0))
  rep : Row w gp 38 (repC k nm t F A B C u)
  ne : gr ≠ gp
  nr : w0.heap.size ≤ gr
  np : w0.heap.size ≤ gp
  br : gr ≠ b
  bp : gp ≠ b
  w0W : W.heap.size ≤ w0.heap.size
section
variable {W w0 w w' : World} {b gr gp : Nat} {k : Int} {nm : ByteArray} {t F A B C : Int} {u : Value} {L : List El.Elt.R}
theorem Rs.step (h : Rs W b w0 gr gp k nm t F A B C u L w) (hs : Src W b w') (hg : w.grownBy w' (some b)) : Rs W b w0 gr gp k nm t F A B C u L w' :=
  ⟨h.gl.step hs hg, h.res.grown hg (fun e => h.br (by injection e)), h.rep.grown hg (fun e => h.bp (by injection e)), h.ne, h.nr, h.np, h.br, h.bp, h.w0W⟩
theorem Rs.put (h : Rs W b w0 gr gp k nm t F A B C u L w) (F' A' B' C' : Int) : Rs W b w0 gr gp k nm t F' A' B' C' u L ((((w.setCell ⟨gp, 3, none⟩ (.int .i64 F')).setCell ⟨gp, 4, none⟩ (.int .i64 A')).setCell ⟨gp, 5, none⟩ (.int .i64 B')).setCell ⟨gp, 6, none⟩ (.int .i64 C')) := by
  have hne : some gp ≠ u.ownBlock := El.own_ne h.gl.own h.rep (by decide)
  have g1 := gl_set h.gl gp 3 (.int .i64 F') h.w0W h.np h.bp hne
  have g2 := gl_set g1 gp 4 (.int .i64 A') h.w0W h.np h.bp hne
  have g3 := gl_set g2 gp 5 (.int .i64 B') h.w0W h.np h.bp hne
  have g4 := gl_set g3 gp 6 (.int .i64 C') h.w0W h.np h.bp hne
  have r1 : Row (w.setCell ⟨gp, 3, none⟩ (.int .i64 F')) gp 38 (repC k nm t F' A B C u) := h.rep.put 3 _
  have r2 : Row ((w.setCell ⟨gp, 3, none⟩ (.int .i64 F')).setCell ⟨gp, 4, none⟩ (.int .i64 A')) gp 38 (repC k nm t F' A' B C u) := r1.put 4 _
  have r3 : Row (((w.setCell ⟨gp, 3, none⟩ (.int .i64 F')).setCell ⟨gp, 4, none⟩ (.int .i64 A')).setCell ⟨gp, 5, none⟩ (.int .i64 B')) gp 38 (repC k nm t F' A' B' C u) := r2.put 5 _
  exact ⟨g4, (((h.res.far (p := ⟨gp, 3, none⟩) (Ne.symm h.ne) _).far (p := ⟨gp, 4, none⟩) (Ne.symm h.ne) _).far (p := ⟨gp, 5, none⟩) (Ne.symm h.ne) _).far (p := ⟨gp, 6, none⟩) (Ne.symm h.ne) _, r3.put 6 _, h.ne, h.nr, h.np, h.br, h.bp, h.w0W⟩
theorem Rs.fin (h : Rs W b w0 gr gp k nm t F A B C u L w) (u0 u1 u2 u3 u4 u5 u6 u7 : Value) :
    El.Gl W b w0 L u ((((((((w.setCell ⟨gr, 0, none⟩ u0).setCell ⟨gr, 1, none⟩ u1).setCell ⟨gr, 2, none⟩ u2).setCell ⟨gr, 3, none⟩ u3).setCell ⟨gr, 4, none⟩ u4).setCell ⟨gr, 5, none⟩ u5).setCell ⟨gr, 6, none⟩ u6).setCell ⟨gr, 7, none⟩ u7) ∧
    Row ((((((((w.setCell ⟨gr, 0, none⟩ u0).setCell ⟨gr, 1, none⟩ u1).setCell ⟨gr, 2, none⟩ u2).setCell ⟨gr, 3, none⟩ u3).setCell ⟨gr, 4, none⟩ u4).setCell ⟨gr, 5, none⟩ u5).setCell ⟨gr, 6, none⟩ u6).setCell ⟨gr, 7, none⟩ u7) gr 38 #[u0, u1, u2, u3, u4, u5, u6, u7] := by
  have hne : some gr ≠ u.ownBlock := El.own_ne h.gl.own h.res (by decide)
  refine ⟨?_, set8_row u0 u1 u2 u3 u4 u5 u6 u7 h.res⟩
  exact gl_set (gl_set (gl_set (gl_set (gl_set (gl_set (gl_set (gl_set h.gl gr 0 u0 h.w0W h.nr h.br hne) gr 1 u1 h.w0W h.nr h.br hne) gr 2 u2 h.w0W h.nr h.br hne) gr 3 u3 h.w0W h.nr h.br hne) gr 4 u4 h.w0W h.nr h.br hne) gr 5 u5 h.w0W h.nr h.br hne) gr 6 u6 h.w0W h.nr h.br hne) gr 7 u7 h.w0W h.nr h.br hne
end
/-- What Report leaves: a valid report that is less than 14 days from the minute. -/
def Rpt (W : World) (b : Nat) (m : Int) (w : World) (e : Ending) (w' : World) : Prop := ∃ (k : Int) (nm : ByteArray) (t F A B C : Int) (u : Value) (L : List El.Elt.R), Vd k nm t F A B C L ∧ (m - 20160 < t ∧ t < m + 20160) ∧ e = .returned (repV k nm t F A B C u) ∧ El.Gl W b w L u w'
set_option maxRecDepth 100000 in
set_option maxHeartbeats 2000000 in
theorem report_any (W : World) (b : Nat) (w : World) (m : Int) (h : Src W b w) (m1 : 0 ≤ m) (m2 : m ≤ 52595999) :
    Calls Tryd.prog 18 #[.pointer (some ⟨b, 0, none⟩), .int .i64 m] w (Rpt W b m w) := by
  have hbl := src_lt h
  have hW := h.below.size
  have b0 := (Below.refl w.heap.size w).alloc (Nat.le_refl _) (.cells (repC 0 ⟨#[]⟩ 0 0 0 0 0 (.slice none 0 0)) 38)
  have r0 := Row.new w (repC 0 ⟨#[]⟩ 0 0 0 0 0 (.slice none 0 0)) 38
  have s0 := h.under b0
  have hgb : w.heap.size ≠ b := Nat.ne_of_gt hbl
  go_enter Tryd.func18, Tryd.ntmps18
  go_wp2_with fail
  generalize w.alloc (.cells (repC 0 ⟨#[]⟩ 0 0 0 0 0 (.slice none 0 0)) 38) = W0 at *
  refine (range_any W b _ _ _ s0 (by omega) (by omega) (by omega) (by omega)).mono ?_
  rintro e w1 ⟨k, ⟨k1, k2⟩, rfl, s1, g1⟩
  go_wp2_with fail
  refine (name_any W b _ s1).mono ?_
  rintro e w2 ⟨nm, hnm, rfl, s2, g2⟩
  go_wp2_with fail
  refine (near_any W b _ m s2 m1 m2).mono ?_
  rintro e w3 ⟨t, ⟨ht, t3, t4⟩, rfl, s3, g3⟩
  go_wp2_with fail
  refine (El.list_any W b _ s3).mono ?_
  rintro e w4 ⟨u, L, rfl, hG, hS⟩
  have hL := Lib.hid hG.vld
  have G := grown_trans (grown_trans (grown_trans (grown_below b0) g1) g2) g3
  have r3 := ((r0.grown g1 (fun e => hgb (by injection e))).grown g2 (fun e => hgb (by injection e))).grown g3 (fun e => hgb (by injection e))
  have h3 : w.heap.size ≤ w3.heap.size := G.size
  have gl4 : El.Gl W b w L u w4 := ⟨hS.src, grown_trans G hS.gro, own_base hS.own h3⟩
  have r4 := r3.grown hS.gro (fun e => hgb (by injection e))
  obtain ⟨Au, cu, rfl, -⟩ := id (El.RdIn.own hS.own)
  have ba := (Below.refl w4.heap.size w4).alloc (Nat.le_refl _) (.cells (repC k nm t 0 0 0 0 (.slice Au L.length cu)) 38)
  have I0 : Rs W b w w.heap.size w4.heap.size k nm t 0 0 0 0 (.slice Au L.length cu) L (w4.alloc (.cells (repC k nm t 0 0 0 0 (.slice Au L.length cu)) 38)) :=
    ⟨gl4.under ba, r4.alloc _, Row.new _ _ _, Nat.ne_of_lt r4.lt, Nat.le_refl _, Nat.le_of_lt r4.lt, hgb, Nat.ne_of_gt (src_lt hS.src), hW⟩
  go_upto_region 2 with fail
  refine forget (Rs W b w w.heap.size w4.heap.size k nm t 0 0 0 0 (.slice Au L.length cu) L) I0 ?_
  clear I0 ba gl4 r4 r3 G h3 hS hG s3 g3 s2 g2 s1 g1 s0 r0 b0 h hgb hbl hW
  generalize w4.heap.size = gp at *
  obtain ⟨gr, hgr⟩ : ∃ g, w.heap.size = g := ⟨_, rfl⟩
  rw [hgr]
  clear hgr
  rintro Y I
  by_cases hk : k = 1
  · subst hk
    obtain ⟨p0, p1, p2, p3, p4, p5, p6, p7⟩ := row8 I.rep
    have hV : Vd 1 nm t 0 0 0 0 L := ⟨by omega, hnm, ht, rfl, hL.out⟩
    have HV := Lib.hid hV; clear hV
    have f0 := I.res.thaw 0
    have f1 := I.res.thaw 1
    have f2 := I.res.thaw 2
    have f3 := I.res.thaw 3
    have f4 := I.res.thaw 4
    have f5 := I.res.thaw 5
    have f6 := I.res.thaw 6
    have f7 := I.res.thaw 7
    obtain ⟨q0, q1, q2, q3, q4, q5, q6, q7⟩ := row8 I.res
    have HZ := Lib.hid (I.fin (.int .i64 1) (.string nm) (.int .i64 t) (.int .i64 0) (.int .i64 0) (.int .i64 0) (.int .i64 0) (.slice Au L.length cu))
    clear I
    go_wp2_with fail
    clear f0 f1 f2 f3 f4 f5 f6 f7 q0 q1 q2 q3 q4 q5 q6 q7 p0 p1 p2 p3 p4 p5 p6 p7
    exact bodyPost_ret (v := repV 1 nm t 0 0 0 0 (.slice Au L.length cu)) (results_cell_row Tryd.results18 _ _ gr 38 _ (0, 0) _ rfl HZ.out.2 Tryd.underlying38 rfl (by kernel_rfl)) rfl ⟨1, nm, t, 0, 0, 0, 0, _, L, HV.out, ⟨t3, t4⟩, rfl, HZ.out.1⟩
  · have q : (k != 1) = true := by rw [bne_iff_ne]; exact hk
    obtain ⟨p0, p1, p2, p3, p4, p5, p6, p7⟩ := row8 I.rep
    go_wp2_with fail
    refine (place_any W b _ I.gl.src).mono ?_
    rintro e w5 ⟨F, A, B, C, hn, rfl, s5, g5⟩
    have I5 := I.step s5 g5
    have hV : Vd k nm t F A B C L := ⟨by omega, hnm, ht, by unfold plOk; rw [if_neg hk]; exact hn, hL.out⟩
    have HV := Lib.hid hV; clear hV hn
    clear I s5 g5 p0 p1 p2 p3 p4 p5 p6 p7
    obtain ⟨p0, p1, p2, p3, p4, p5, p6, p7⟩ := row8 I5.rep
    have e3 := I5.rep.thaw 3
    have e4 := I5.rep.thaw 4
    have e5 := I5.rep.thaw 5
    have e6 := I5.rep.thaw 6
    have I6 := Lib.hid (I5.put F A B C)
    clear I5
    go_upto_region 4 with fail
    refine forget (Rs W b w gr gp k nm t F A B C (.slice Au L.length cu) L) I6.out ?_
    clear I6 p0 p1 p2 p3 p4 p5 p6 p7 e3 e4 e5 e6
    rintro Z I
    obtain ⟨p0, p1, p2, p3, p4, p5, p6, p7⟩ := row8 I.rep
    have f0 := I.res.thaw 0
    have f1 := I.res.thaw 1
    have f2 := I.res.thaw 2
    have f3 := I.res.thaw 3
    have f4 := I.res.thaw 4
    have f5 := I.res.thaw 5
    have f6 := I.res.thaw 6
    have f7 := I.res.thaw 7
    obtain ⟨q0, q1, q2, q3, q4, q5, q6, q7⟩ := row8 I.res
    have HZ := Lib.hid (I.fin (.int .i64 k) (.string nm) (.int .i64 t) (.int .i64 F) (.int .i64 A) (.int .i64 B) (.int .i64 C) (.slice Au L.length cu))
    clear I
    go_wp2_with fail
    clear f0 f1 f2 f3 f4 f5 f6 f7 q0 q1 q2 q3 q4 q5 q6 q7 p0 p1 p2 p3 p4 p5 p6 p7
    exact bodyPost_ret (v := repV k nm t F A B C (.slice Au L.length cu)) (results_cell_row Tryd.results18 _ _ gr 38 _ (0, 0) _ rfl HZ.out.2 Tryd.underlying38 rfl (by kernel_rfl)) rfl ⟨k, nm, t, F, A, B, C, _, L, HV.out, ⟨t3, t4⟩, rfl, HZ.out.1⟩
end Go.Proofs.YtlakgkoohdfiaaaDoor

