/- The contract of the reference's List: valid readings of some elements, ascending. -/
import Derived.Test.YtngbjccfmglbaaaDoorWith
namespace Go.Proofs.YtngbjccfmglbaaaDoor
open Go.RowKit

/-- A good list, its codes below k. -/
structure Good (k : Int) (M : List Elt.R) : Prop where
  val : ∀ r ∈ M, Elt.Val r.1 r.2
  lt : ∀ r ∈ M, r.1 < k
  asc : Elt.Asc M
  len : (M.length : Int) ≤ k - 1
theorem Good.nil : Good 1 [] := ⟨fun r h => (by cases h), fun r h => (by cases h), fun j h => absurd h (by simp), by simp⟩
theorem Good.skip {k : Int} {M : List Elt.R} (h : Good k M) : Good (k + 1) M := ⟨h.val, fun r hr => by have := h.lt r hr; omega, h.asc, by have := h.len; omega⟩
theorem asc_snoc {M : List Elt.R} {x : Elt.R} (h : Elt.Asc M) (hl : ∀ r ∈ M, r.1 < x.1) : Elt.Asc (M ++ [x]) := by
  intro j hj
  have hjl : j < M.length := by simpa using hj
  rw [List.getElem_append_left hjl]
  by_cases hj1 : j + 1 < M.length
  · rw [List.getElem_append_left hj1]; exact h j hj1
  · rw [List.getElem_append_right (by omega)]
    simp only [show j + 1 - M.length = 0 by omega, List.getElem_cons_zero]
    exact hl _ (List.getElem_mem _)
theorem Good.snoc {k : Int} {M : List Elt.R} {v : Int} (h : Good k M) (hv : Elt.Val k v) : Good (k + 1) (M ++ [(k, v)]) := by
  refine ⟨fun r hr => ?_, fun r hr => ?_, asc_snoc h.asc h.lt, by have := h.len; simp; omega⟩
  · rcases List.mem_append.1 hr with hr | hr
    · exact h.val r hr
    · obtain rfl := List.mem_singleton.1 hr
      exact hv
  · rcases List.mem_append.1 hr with hr | hr
    · have := h.lt r hr; omega
    · obtain rfl := List.mem_singleton.1 hr
      show k < k + 1
      omega
/-- What is known while the list grows: the reader, the list. -/
structure Gl (W : World) (b : Nat) (w0 : World) (M : List Elt.R) (u : Value) (w : World) : Prop where
  src : Src W b w
  gro : w0.grownBy w (some b)
  own : w.ownsRow w0.heap.size 30 2 u M.length (rdc M)
theorem src_row {W w : World} {b : Nat} (h : Src W b w) : ∃ cs, Row w b 45 cs := by
  obtain ⟨A, n, c, k, h1, h2, h3, h4⟩ := h.row
  exact ⟨_, h3⟩
theorem Gl.step {W w0 w w' : World} {b : Nat} {M : List Elt.R} {u : Value} (h : Gl W b w0 M u w) (hs : Src W b w') (hg : w.grownBy w' (some b)) : Gl W b w0 M u w' := by
  obtain ⟨cs, hr⟩ := src_row h.src
  exact ⟨hs, grown_trans h.gro hg, h.own.kept hg (.inr (fun e => own_ne h.own hr (by decide) e.symm))⟩
theorem Gl.under {W w0 w w' : World} {b : Nat} {M : List Elt.R} {u : Value} (h : Gl W b w0 M u w) (hb : Below w.heap.size w w') : Gl W b w0 M u w' := h.step (h.src.under hb) (grown_below hb)
theorem src_kept {W w w' : World} {b : Nat} {r : Option Nat} (h : Src W b w) (hg : w.grownBy w' r) (hr : r ≠ some b) (hW : ∀ i, r = some i → W.heap.size ≤ i) : Src W b w' := by
  obtain ⟨A, n, c, k, h1, h2, h3, h4⟩ := h.row
  have hbl : b < w.heap.size := (Array.getElem?_eq_some_iff.1 h3).1
  refine ⟨h.base, ⟨hg.os.trans h.below.os, hg.tape.trans h.below.tape, hg.output.trans h.below.output, Nat.le_trans h.below.size hg.size, fun i hi => (hg.block i (Nat.lt_of_lt_of_le hi h.below.size) (fun e => ?_)).trans (h.below.block i hi)⟩, A, n, c, k, h1, h2, (hg.block b hbl (Ne.symm hr)).trans h3, h4⟩
  have := hW i e.symm
  omega
theorem Gl.more {W w0 w w' : World} {b : Nat} {M : List Elt.R} {u : Value} {g' cap' : Nat} {x : Elt.R} (h : Gl W b w0 M u w) (hW : W.heap.size ≤ w0.heap.size)
    (hown : w'.ownsRow w0.heap.size 30 2 (.slice (some ⟨g', 0, none⟩) (M.length + 1) cap') (M.length + 1) (rdc M ++ [.int .i64 x.1, .int .i64 x.2])) (hg : w.grownBy w' u.ownBlock) : Gl W b w0 (M ++ [x]) (.slice (some ⟨g', 0, none⟩) (M.length + 1) cap') w' := by
  obtain ⟨cs, hr⟩ := src_row h.src
  have hlo : ∀ i, u.ownBlock = some i → w0.heap.size ≤ i := fun i e => (h.own.lt i e).1
  refine ⟨src_kept h.src hg (fun e => own_ne h.own hr (by decide) e.symm) (fun i e => Nat.le_trans hW (hlo i e)), ?_, by rw [rdc_snoc]; simpa using hown⟩
  exact ⟨hg.os.trans h.gro.os, hg.tape.trans h.gro.tape, hg.output.trans h.gro.output, Nat.le_trans h.gro.size hg.size, fun i hi hne => (hg.block i (Nat.lt_of_lt_of_le hi h.gro.size) (fun e => by have := hlo i e.symm; omega)).trans (h.gro.block i hi hne)⟩
/-- What List leaves. -/
def Lst (W : World) (b : Nat) (w : World) (e : Ending) (w' : World) : Prop := ∃ u M, e = .returned u ∧ Good 12 M ∧ Gl W b w M u w'
set_option maxRecDepth 100000 in
set_option maxHeartbeats 2000000 in
theorem list_any (W : World) (b : Nat) (w : World) (h : Src W b w) :
    Calls Tryd.prog 7 #[.pointer (some ⟨b, 0, none⟩)] w (Lst W b w) := by
  obtain ⟨i0, hi, hz0, hz1, hz2⟩ := info_parts infoReading
  have hW := h.below.size
  go_enter Tryd.func7, Tryd.ntmps7
  go_wp2_with fail
  go_loopw [3, 4] (fun u t wr => ∃ (k : Int) (M : List Elt.R), 1 ≤ k ∧ k ≤ 12 ∧ t = .int .i64 k ∧ Good k M ∧ Gl W b w M u wr) (fun _ t _ => (12 - intOf t).toNat)
  case atStart => exact ⟨1, [], by omega, by omega, rfl, Good.nil, h, grown_refl _ _, World.ownsRow_nil _ _ _ _⟩
  case round =>
    clear h
    obtain ⟨k, M, k1, k2, rfl, hG, hS⟩ := hrel
    have HG := Lib.hid hG; clear hG
    by_cases k3 : k ≤ 11
    · go_wp2_with fail
      refine (n_any W b _ _ hS.src (by omega) (by omega)).mono ?_
      rintro e w1 ⟨x, ⟨x1, x2⟩, rfl, s1, g1⟩
      have S1 := Lib.hid (hS.step s1 g1)
      clear hS s1 g1
      by_cases hx : x = 0
      · subst hx
        clear x1 x2
        go_wp2_with fail
        refine (some_any W b _ k S1.out.src ⟨k1, k3⟩).mono ?_
        rintro e w2 ⟨v, hv, rfl, s2, g2⟩
        have S2 := Lib.hid (S1.out.step s2 g2)
        have HN := Lib.hid (HG.out.snoc hv)
        have hml : M.length ≤ 11 := by have := HG.out.len; omega
        have S3 := Lib.hid (S2.out.under ((Below.refl _ _).alloc (Nat.le_refl _) (.cells #[.int .i64 k, .int .i64 v] 30)))
        clear s2 g2 hv S1 S2
        go_wp2_with (at_builtin; refine wpList_append_lies _ rfl (.tmp 12) (.tmp 16) 25 rfl w.heap.size 30 i0 _ 2 16 Tryd.underlying25 hi hz0 hz1 hz2 rfl (by decide) «u3» M.length (rdc M) rfl S3.out.own ⟨w2.heap.size, 0, none⟩ 1 1 [.int .i64 k, .int .i64 v] rfl rfl (World.news_of_block (cs := #[.int .i64 k, .int .i64 v]) (t := 30) (fr := (0, 0)) (heap_alloc_new w2 _)) (by simp [Value.oneCell']) (by omega) (by unfold maxLen; omega) (by omega) S3.out.gro.size (w2.heap.size + 1) (by simp) ?_; intro g' cap' w4 hown4 hgrow4 hat4 hlt4; have S4 := Lib.hid (S3.out.more (x := (k, v)) hW hown4 hgrow4); clear hown4 hgrow4 hat4 hlt4)
        go_roundw
        case rel => exact ⟨k + 1, M ++ [(k, v)], by omega, by omega, by go_num, HN.out, S4.out⟩
        case measure => simp [intOf]; omega
      · have q : (x == 0) = false := beq_eq_false_iff_ne.2 hx
        clear x1 x2 hx
        go_wp2_with fail
        go_roundw
        case rel => exact ⟨k + 1, M, by omega, by omega, by go_num, HG.out.skip, S1.out⟩
        case measure => simp [intOf]; omega
    · obtain rfl : k = 12 := by omega
      have HS := Lib.hid hS; clear hS
      go_wp2_with fail
      go_ret
      exact ⟨_, M, rfl, HG.out, HS.out⟩
theorem asc_pw {M : List Elt.R} (h : Elt.Asc M) : M.Pairwise (fun a b : Elt.R => a.1 < b.1) := by
  rw [List.pairwise_iff_getElem]
  intro i j hi hj hij
  obtain ⟨d, rfl⟩ : ∃ d, j = i + 1 + d := ⟨j - (i + 1), by omega⟩
  induction d with
  | zero => exact h i hj
  | succ d ih =>
    have h1 := ih (by omega) (by omega)
    have h2 := h (i + 1 + d) hj
    exact Int.lt_trans h1 h2
theorem pw_asc {M : List Elt.R} (h : M.Pairwise (fun a b : Elt.R => a.1 < b.1)) : Elt.Asc M := fun j hj => List.pairwise_iff_getElem.1 h j (j + 1) (by omega) hj (by omega)
theorem Good.vld {k : Int} {M : List Elt.R} (h : Good k M) : Elt.vld M = 0 := (Elt.vld_good h.val).1 h.asc
theorem Good.wout {k : Int} {M : List Elt.R} (h : Good k M) (C : List Int) : Elt.vld (Elt.wout M C) = 0 :=
  (Elt.vld_good (fun r hr => h.val r (List.mem_filter.1 hr).1)).1 (pw_asc ((asc_pw h.asc).filter _))
theorem fnd_wout (M : List Elt.R) (C : List Int) (c : Int) : Elt.fnd (Elt.wout M C) c = if C.contains c then none else Elt.fnd M c := by
  unfold Elt.fnd Elt.wout
  rw [List.find?_filter]
  cases hc : C.contains c with
  | true =>
    rw [if_pos rfl]
    have : M.find? (fun a => decide ((!C.contains a.1) = true ∧ (a.1 == c) = true)) = none := List.find?_eq_none.2 (fun r _ h => by
      have h := of_decide_eq_true h
      have e := beq_iff_eq.1 h.2
      rw [e, hc] at h
      exact absurd h.1 (by decide))
    rw [this]; rfl
  | false =>
    rw [if_neg (by decide)]
    congr 2
    funext a
    by_cases h : a.1 = c
    · rw [h, hc]; simp
    · have : (a.1 == c) = false := beq_eq_false_iff_ne.2 h
      rw [this]
      exact decide_eq_false (fun h => by cases h.2)
end Go.Proofs.YtngbjccfmglbaaaDoor


