/- What the statements draw: a control. -/
import Derived.Test.YtlakgkoohdfiaaaDoorQam
import Derived.Test.YtlakgkoohdfiaaaDoorQae
import Derived.Great.BuildSlice
import Derived.Deep.WholeRow
namespace Go.Proofs.YtlakgkoohdfiaaaDoor.Tm
open Go.RowKit Go.Great

/-- Picking from a list that has just been written. -/
theorem pick_new (p : Int → Prop) (W : World) (b : Nat) (w : World) (h : Src W b w) (cs : Array Value) (n c : Nat) (n1 : 1 ≤ n) (n2 : n ≤ 1000) (hp : ∀ i, i < n → ∃ x, cs[i]? = some (.int .i64 x) ∧ p x) :
    Calls Tryd.prog 50 #[.pointer (some ⟨b, 0, none⟩), .slice (some ⟨w.heap.size, 0, none⟩) n c] (w.alloc (.cells cs 3)) (Reads p W b w) := by
  have ba := (Below.refl w.heap.size w).alloc (Nat.le_refl _) (.cells cs 3)
  have rr := Row.new w cs 3
  refine (pick_any p W b _ w.heap.size n c (h.under ba) n1 n2 (Nat.ne_of_gt (src_lt h)) rr.lt (fun i hi => by
    obtain ⟨x, hx, hpx⟩ := hp i hi
    exact ⟨x, (rr.cell i).trans hx, hpx⟩)).mono ?_
  rintro e w' ⟨x, hx, he, hs, hg⟩
  exact ⟨x, hx, he, hs, grown_trans (grown_below ba) hg⟩
/-- A control whose limits are in their range. -/
structure CtB (cs : Array Value) (S P : Int → Int) : Prop where
  ct : Ct cs S P
  s : ∀ j : Nat, j < 12 → 0 ≤ S j ∧ S j ≤ 10000
  p : ∀ j : Nat, j < 12 → 0 ≤ P j ∧ P j ≤ 10000
  one : ∀ (i : Nat) v, cs[i]? = some v → v.oneCell' = true
theorem one_set {cs : Array Value} (h : ∀ (i : Nat) v, cs[i]? = some v → v.oneCell' = true) (k : Nat) (x : Int) : ∀ (i : Nat) v, (cs.setIfInBounds k (.int .i64 x))[i]? = some v → v.oneCell' = true := fun i v hv => by
  rw [Array.getElem?_setIfInBounds] at hv
  split at hv
  · split at hv
    · injection hv with hv; subst hv; rfl
    · cases hv
  · exact h i v hv
theorem CtB.setS {cs : Array Value} {S P : Int → Int} (h : CtB cs S P) {c : Nat} (hc : c < 12) {x : Int} (h0 : 0 ≤ x) (h1 : x ≤ 10000) : CtB (cs.setIfInBounds (1 + c) (.int .i64 x)) (fun j => if j = (c : Int) then x else S j) P := by
  have hz := h.ct.size
  refine ⟨⟨by rw [Array.size_setIfInBounds]; exact hz, fun j hj => ?_, fun j hj => ?_⟩, fun j hj => ?_, h.p, one_set h.one _ _⟩
  · rw [Array.getElem?_setIfInBounds]
    by_cases e : c = j
    · subst e; rw [if_pos rfl, if_pos (by omega), if_pos rfl]
    · rw [if_neg (by omega), h.ct.s j hj, if_neg (by omega)]
  · rw [Array.getElem?_setIfInBounds, if_neg (by omega), h.ct.p j hj]
  · by_cases e : (j : Int) = (c : Int)
    · simp only [e, if_true]; exact ⟨h0, h1⟩
    · simp only [e, if_false]; exact h.s j hj
theorem CtB.setP {cs : Array Value} {S P : Int → Int} (h : CtB cs S P) {c : Nat} (hc : c < 12) {x : Int} (h0 : 0 ≤ x) (h1 : x ≤ 10000) : CtB (cs.setIfInBounds (13 + c) (.int .i64 x)) S (fun j => if j = (c : Int) then x else P j) := by
  have hz := h.ct.size
  refine ⟨⟨by rw [Array.size_setIfInBounds]; exact hz, fun j hj => ?_, fun j hj => ?_⟩, h.s, fun j hj => ?_, one_set h.one _ _⟩
  · rw [Array.getElem?_setIfInBounds, if_neg (by omega), h.ct.s j hj]
  · rw [Array.getElem?_setIfInBounds]
    by_cases e : c = j
    · subst e; rw [if_pos rfl, if_pos (by omega), if_pos rfl]
    · rw [if_neg (by omega), h.ct.p j hj, if_neg (by omega)]
  · by_cases e : (j : Int) = (c : Int)
    · simp only [e, if_true]; exact ⟨h0, h1⟩
    · simp only [e, if_false]; exact h.p j hj
theorem CtB.setB {cs : Array Value} {S P : Int → Int} (h : CtB cs S P) (c : Nat) (x : Int) : CtB (cs.setIfInBounds (26 + c) (.int .i64 x)) S P := by
  refine ⟨⟨by rw [Array.size_setIfInBounds]; exact h.ct.size, fun j hj => ?_, fun j hj => ?_⟩, h.s, h.p, one_set h.one _ _⟩
  · rw [Array.getElem?_setIfInBounds, if_neg (by omega), h.ct.s j hj]
  · rw [Array.getElem?_setIfInBounds, if_neg (by omega), h.ct.p j hj]
def cs0 : Array Value := #[.int .i64 0, .int .i64 0, .int .i64 0, .int .i64 0, .int .i64 0, .int .i64 0, .int .i64 0, .int .i64 0, .int .i64 0, .int .i64 0, .int .i64 0, .int .i64 0, .int .i64 0, .int .i64 0, .int .i64 0, .int .i64 0, .int .i64 0, .int .i64 0, .int .i64 0, .int .i64 0, .int .i64 0, .int .i64 0, .int .i64 0, .int .i64 0, .int .i64 0, .int .i64 0, .int .i64 0, .int .i64 0, .int .i64 0, .int .i64 0, .int .i64 0, .int .i64 0, .int .i64 0, .int .i64 0, .int .i64 0, .int .i64 0, .int .i64 0, .int .i64 0, .int .i64 0, .int .i64 0, .int .i64 0]
def cs1 (h th fr en le : Int) : Array Value := #[.int .i64 h, .int .i64 0, .int .i64 0, .int .i64 0, .int .i64 0, .int .i64 0, .int .i64 0, .int .i64 0, .int .i64 0, .int .i64 0, .int .i64 0, .int .i64 0, .int .i64 0, .int .i64 0, .int .i64 0, .int .i64 0, .int .i64 0, .int .i64 0, .int .i64 0, .int .i64 0, .int .i64 0, .int .i64 0, .int .i64 0, .int .i64 0, .int .i64 0, .int .i64 th, .int .i64 0, .int .i64 0, .int .i64 0, .int .i64 0, .int .i64 0, .int .i64 0, .int .i64 0, .int .i64 0, .int .i64 0, .int .i64 0, .int .i64 0, .int .i64 0, .int .i64 fr, .int .i64 en, .int .i64 le]
theorem cs1_ok (h th fr en le : Int) : CtB (cs1 h th fr en le) (fun _ => 0) (fun _ => 0) := by
  refine ⟨⟨rfl, fun j hj => ?_, fun j hj => ?_⟩, fun _ _ => ⟨by omega, by omega⟩, fun _ _ => ⟨by omega, by omega⟩, fun i v hv => ?_⟩
  · rcases (by omega : j = 0 ∨ j = 1 ∨ j = 2 ∨ j = 3 ∨ j = 4 ∨ j = 5 ∨ j = 6 ∨ j = 7 ∨ j = 8 ∨ j = 9 ∨ j = 10 ∨ j = 11) with rfl | rfl | rfl | rfl | rfl | rfl | rfl | rfl | rfl | rfl | rfl | rfl <;> rfl
  · rcases (by omega : j = 0 ∨ j = 1 ∨ j = 2 ∨ j = 3 ∨ j = 4 ∨ j = 5 ∨ j = 6 ∨ j = 7 ∨ j = 8 ∨ j = 9 ∨ j = 10 ∨ j = 11) with rfl | rfl | rfl | rfl | rfl | rfl | rfl | rfl | rfl | rfl | rfl | rfl <;> rfl
  · have h2 : ∀ v ∈ (cs1 h th fr en le).toList, v.oneCell' = true := by
      intro v hv
      unfold cs1 at hv
      simp only [List.mem_cons, List.not_mem_nil, or_false] at hv
      rcases hv with rfl | rfl | rfl | rfl | rfl | rfl | rfl | rfl | rfl | rfl | rfl | rfl | rfl | rfl | rfl | rfl | rfl | rfl | rfl | rfl | rfl | rfl | rfl | rfl | rfl | rfl | rfl | rfl | rfl | rfl | rfl | rfl | rfl | rfl | rfl | rfl | rfl | rfl | rfl | rfl | rfl <;> rfl
    exact h2 v (by rw [← Array.getElem?_toList] at hv; exact List.mem_of_getElem? hv)
theorem src_setRow {W Y : World} {b g : Nat} (h : Src W b Y) (hW : W.heap.size ≤ g) (hg : g ≠ b) (cs : Array Value) : Src W b (Y.setRow g cs) := by
  obtain ⟨A, n, c, k, h1, h2, h3, h4⟩ := h.row
  exact ⟨h.base, h.below.trans ⟨rfl, rfl, rfl, by simp, fun k hk => setRow_other Y g k cs (by omega)⟩, A, n, c, k, h1, h2, (setRow_other Y g b cs (Ne.symm hg)).trans h3, h4⟩
theorem grown_setRow {w Y : World} {r : Option Nat} {g : Nat} (h : w.grownBy Y r) (hg : w.heap.size ≤ g) (cs : Array Value) : w.grownBy (Y.setRow g cs) r :=
  ⟨h.os, h.tape, h.output, by rw [size_setRow]; exact h.size, fun i hi hr => (setRow_other Y g i cs (by omega)).trans (h.block i hi hr)⟩
/-- What is known while a control is drawn. -/
structure Cs (W : World) (b : Nat) (w0 : World) (gr gk : Nat) (Y : World) : Prop where
  src : Src W b Y
  gro : w0.grownBy Y (some b)
  res : Row Y gr 67 cs0
  box : ∃ cs S P, Row Y gk 67 cs ∧ CtB cs S P
  ne : gr ≠ gk
  nr : w0.heap.size ≤ gr
  nk : w0.heap.size ≤ gk
  hb : b < w0.heap.size
  hW : W.heap.size ≤ w0.heap.size
section
variable {W w0 Y Y' : World} {b gr gk : Nat}
theorem Cs.step (h : Cs W b w0 gr gk Y) (hs : Src W b Y') (hg : Y.grownBy Y' (some b)) : Cs W b w0 gr gk Y' := by
  obtain ⟨cs, S, P, h1, h2⟩ := h.box
  have hb := h.hb
  have nr := h.nr
  have nk := h.nk
  exact ⟨hs, grown_trans h.gro hg, h.res.grown hg (fun e => by injection e with e; omega), ⟨cs, S, P, h1.grown hg (fun e => by injection e with e; omega), h2⟩, h.ne, h.nr, h.nk, h.hb, h.hW⟩
theorem Cs.set (h : Cs W b w0 gr gk Y) {cs' : Array Value} {S P : Int → Int} {j : Nat} {x : Value} (hr : Row (Y.setCell ⟨gk, j, none⟩ x) gk 67 cs') (hc : CtB cs' S P) : Cs W b w0 gr gk (Y.setCell ⟨gk, j, none⟩ x) := by
  have hb := h.hb
  have nk := h.nk
  exact ⟨Pl.src_set h.src gk j x (Nat.le_trans h.hW h.nk) (by omega), Pl.grown_set h.gro gk j x h.nk rfl, h.res.far (p := ⟨gk, j, none⟩) (Ne.symm h.ne) _, ⟨cs', S, P, hr, hc⟩, h.ne, h.nr, h.nk, h.hb, h.hW⟩
end
/-- What Control leaves. -/
def CtO (W : World) (b : Nat) (w : World) (e : Ending) (w' : World) : Prop := ∃ cs S P, e = .returned (.agg cs) ∧ CtB cs S P ∧ Src W b w' ∧ w.grownBy w' (some b)
theorem is5 {i : Nat} {p : Int → Prop} {a0 a1 a2 a3 a4 : Int} (hi : i < 5) (h0 : p a0) (h1 : p a1) (h2 : p a2) (h3 : p a3) (h4 : p a4) : ∃ x, (#[.int .i64 a0, .int .i64 a1, .int .i64 a2, .int .i64 a3, .int .i64 a4] : Array Value)[i]? = some (.int .i64 x) ∧ p x := by
  rcases (by omega : i = 0 ∨ i = 1 ∨ i = 2 ∨ i = 3 ∨ i = 4) with rfl | rfl | rfl | rfl | rfl
  · exact ⟨_, rfl, h0⟩
  · exact ⟨_, rfl, h1⟩
  · exact ⟨_, rfl, h2⟩
  · exact ⟨_, rfl, h3⟩
  · exact ⟨_, rfl, h4⟩
theorem is4 {i : Nat} {p : Int → Prop} {a0 a1 a2 a3 : Int} (hi : i < 4) (h0 : p a0) (h1 : p a1) (h2 : p a2) (h3 : p a3) : ∃ x, (#[.int .i64 a0, .int .i64 a1, .int .i64 a2, .int .i64 a3] : Array Value)[i]? = some (.int .i64 x) ∧ p x := by
  rcases (by omega : i = 0 ∨ i = 1 ∨ i = 2 ∨ i = 3) with rfl | rfl | rfl | rfl
  · exact ⟨_, rfl, h0⟩
  · exact ⟨_, rfl, h1⟩
  · exact ⟨_, rfl, h2⟩
  · exact ⟨_, rfl, h3⟩
theorem is3 {i : Nat} {p : Int → Prop} {a0 a1 a2 : Int} (hi : i < 3) (h0 : p a0) (h1 : p a1) (h2 : p a2) : ∃ x, (#[.int .i64 a0, .int .i64 a1, .int .i64 a2] : Array Value)[i]? = some (.int .i64 x) ∧ p x := by
  rcases (by omega : i = 0 ∨ i = 1 ∨ i = 2) with rfl | rfl | rfl
  · exact ⟨_, rfl, h0⟩
  · exact ⟨_, rfl, h1⟩
  · exact ⟨_, rfl, h2⟩
theorem is2 {i : Nat} {p : Int → Prop} {a0 a1 : Int} (hi : i < 2) (h0 : p a0) (h1 : p a1) : ∃ x, (#[.int .i64 a0, .int .i64 a1] : Array Value)[i]? = some (.int .i64 x) ∧ p x := by
  rcases (by omega : i = 0 ∨ i = 1) with rfl | rfl
  · exact ⟨_, rfl, h0⟩
  · exact ⟨_, rfl, h1⟩
def Lm (x : Int) : Prop := 0 ≤ x ∧ x ≤ 10000
instance (x : Int) : Decidable (Lm x) := inferInstanceAs (Decidable (_ ∧ _))
set_option maxRecDepth 100000 in
set_option maxHeartbeats 4000000 in
theorem control_any (W : World) (b : Nat) (w : World) (h : Src W b w) :
    Calls Tryd.prog 40 #[.pointer (some ⟨b, 0, none⟩)] w (CtO W b w) := by
  have hbl := src_lt h
  have hW := h.below.size
  have b0 := (Below.refl w.heap.size w).alloc (Nat.le_refl _) (.cells cs0 67)
  have I0 : Hid (Src W b (w.alloc (.cells cs0 67)) ∧ w.grownBy (w.alloc (.cells cs0 67)) (some b) ∧ Row (w.alloc (.cells cs0 67)) w.heap.size 67 cs0) := Lib.hid ⟨h.under b0, grown_below b0, Row.new _ _ _⟩
  clear b0 h
  go_enter Tryd.func40, Tryd.ntmps40
  go_upto_region 1 with fail
  refine forget (fun Y => Hid (Src W b Y ∧ w.grownBy Y (some b) ∧ Row Y w.heap.size 67 cs0)) I0 ?_
  clear I0
  obtain ⟨gr, hgr⟩ : ∃ g, w.heap.size = g := ⟨_, rfl⟩
  rw [hgr]
  have HGR : Hid (w.heap.size = gr) := Lib.hid hgr
  clear hgr
  rintro Y HY
  go_wp2_with fail
  refine (pick_new Lm W b _ HY.out.1 #[.int .i64 4, .int .i64 24, .int .i64 100] 3 3 (by decide) (by decide) (fun i hi => is3 hi (by decide) (by decide) (by decide))).mono ?_
  rintro e w1 ⟨p1, h1, rfl, s1, g1⟩
  have H1 : Hid (Src W b w1 ∧ w.grownBy w1 (some b) ∧ Row w1 gr 67 cs0) := Lib.hid ⟨s1, grown_trans HY.out.2.1 g1, HY.out.2.2.grown g1 (fun e => by injection e with e; have := HGR.out; omega)⟩
  clear s1 g1 HY
  go_wp2_with fail
  refine (pick_new Lm W b _ H1.out.1 #[.int .i64 20, .int .i64 40, .int .i64 5] 3 3 (by decide) (by decide) (fun i hi => is3 hi (by decide) (by decide) (by decide))).mono ?_
  rintro e w2 ⟨p2, h2, rfl, s2, g2⟩
  have H2 : Hid (Src W b w2 ∧ w.grownBy w2 (some b) ∧ Row w2 gr 67 cs0) := Lib.hid ⟨s2, grown_trans H1.out.2.1 g2, H1.out.2.2.grown g2 (fun e => by injection e with e; have := HGR.out; omega)⟩
  clear s2 g2 H1
  go_wp2_with fail
  refine (range_any W b _ _ _ H2.out.1 (by omega) (by omega) (by omega) (by omega)).mono ?_
  rintro e w3 ⟨p3, -, rfl, s3, g3⟩
  have H3 : Hid (Src W b w3 ∧ w.grownBy w3 (some b) ∧ Row w3 gr 67 cs0) := Lib.hid ⟨s3, grown_trans H2.out.2.1 g3, H2.out.2.2.grown g3 (fun e => by injection e with e; have := HGR.out; omega)⟩
  clear s3 g3 H2
  go_wp2_with fail
  refine (pick_new Lm W b _ H3.out.1 #[.int .i64 50, .int .i64 80] 2 2 (by decide) (by decide) (fun i hi => is2 hi (by decide) (by decide))).mono ?_
  rintro e w4 ⟨p4, h4, rfl, s4, g4⟩
  have H4 : Hid (Src W b w4 ∧ w.grownBy w4 (some b) ∧ Row w4 gr 67 cs0) := Lib.hid ⟨s4, grown_trans H3.out.2.1 g4, H3.out.2.2.grown g4 (fun e => by injection e with e; have := HGR.out; omega)⟩
  clear s4 g4 H3
  go_wp2_with fail
  refine (pick_new Lm W b _ H4.out.1 #[.int .i64 20, .int .i64 50] 2 2 (by decide) (by decide) (fun i hi => is2 hi (by decide) (by decide))).mono ?_
  rintro e w5 ⟨p5, h5, rfl, s5, g5⟩
  have H5 : Hid (Src W b w5 ∧ w.grownBy w5 (some b) ∧ Row w5 gr 67 cs0) := Lib.hid ⟨s5, grown_trans H4.out.2.1 g5, H4.out.2.2.grown g5 (fun e => by injection e with e; have := HGR.out; omega)⟩
  clear s5 g5 H4
  have b6 := (Below.refl w5.heap.size w5).alloc (Nat.le_refl _) (.cells (cs1 p1 p2 p3 p4 p5) 67)
  have C6 : Hid (Cs W b w gr w5.heap.size (w5.alloc (.cells (cs1 p1 p2 p3 p4 p5) 67))) := Lib.hid ⟨H5.out.1.under b6, grown_trans H5.out.2.1 (grown_below b6), H5.out.2.2.under b6, ⟨_, _, _, Row.new _ _ _, cs1_ok _ _ _ _ _⟩, by have := H5.out.2.2.lt; omega, by have := HGR.out; omega, H5.out.2.1.size, hbl, hW⟩
  clear b6 H5 h1 h2 h4 h5
  have hsc := run_storeCells_new (P := Tryd.prog) w5 67 cs0 (cs1 p1 p2 p3 p4 p5) (by kernel_rfl) rfl (by kernel_rfl)
  unfold cs0 at hsc
  go_upto_region 2 with (refine wpList_buildTo rfl 67 #[(0, .tmp 7), (3, .tmp 10), (5, .tmp 12), (6, .tmp 15), (7, .tmp 18)] rfl (some 19) rfl (cs1 p1 p2 p3 p4 p5) (by kernel_rfl) ?_; go_frame)
  clear hsc
  refine forget (fun Y => Hid (Cs W b w gr w5.heap.size Y)) C6 ?_
  clear C6
  generalize w5.heap.size = gk at *
  rintro Y6 C6
  clear HGR hW hbl
  go_wp2_with fail
  go_loopw [4] (fun t wr => ∃ c : Nat, 1 ≤ c ∧ c ≤ 12 ∧ t = .int .i64 (c : Int) ∧ Hid (Cs W b w gr gk wr)) (fun t _ => 12 - (intOf t).toNat)
  case atStart => exact ⟨1, by omega, by omega, rfl, C6⟩
  case round =>
    clear C6
    obtain ⟨c, hc1, hc2, rfl, H1⟩ := hrel
    by_cases hlt : c ≤ 11
    · have k0 : (c : Int) ≤ 11 := by omega
      have k1 : (0 : Int) ≤ (c : Int) := by omega
      have k2 : (c : Int) < 12 := by omega
      go_wp2_with fail
      refine (pick_new Lm W b _ H1.out.src #[.int .i64 0, .int .i64 10, .int .i64 30, .int .i64 100, .int .i64 1000] 5 5 (by decide) (by decide) (fun i hi => is5 hi (by decide) (by decide) (by decide) (by decide) (by decide))).mono ?_
      rintro e y1 ⟨x1, hx1, rfl, s1, g1⟩
      have C1 := Lib.hid (H1.out.step s1 g1)
      clear s1 g1 H1
      obtain ⟨cs, S, P, hr, hc⟩ := C1.out.box
      have H2 : Hid (Cs W b w gr gk (y1.setCell ⟨gk, 1 + c, none⟩ (.int .i64 x1))) := Lib.hid (C1.out.set (hr.put (1 + c) _) (hc.setS (show c < 12 by omega) hx1.1 hx1.2))
      have q0 := (hr.cell (1 + c)).trans (hc.ct.s c (by omega))
      have f0 := hr.thaw (1 + c)
      clear hr hc C1
      go_upto_region 6 with fail
      clear q0 f0 hx1
      generalize y1.setCell ⟨gk, 1 + c, none⟩ (.int .i64 x1) = Z1 at *
      go_wp2_with fail
      refine (pick_new Lm W b _ H2.out.src #[.int .i64 0, .int .i64 20, .int .i64 60, .int .i64 300] 4 4 (by decide) (by decide) (fun i hi => is4 hi (by decide) (by decide) (by decide) (by decide))).mono ?_
      rintro e y2 ⟨x2, hx2, rfl, s2, g2⟩
      have C2 := Lib.hid (H2.out.step s2 g2)
      clear s2 g2 H2
      obtain ⟨cs, S, P, hr, hc⟩ := C2.out.box
      have H3 : Hid (Cs W b w gr gk (y2.setCell ⟨gk, 13 + c, none⟩ (.int .i64 x2))) := Lib.hid (C2.out.set (hr.put (13 + c) _) (hc.setP (show c < 12 by omega) hx2.1 hx2.2))
      have q0 := (hr.cell (13 + c)).trans (hc.ct.p c (by omega))
      have f0 := hr.thaw (13 + c)
      clear hr hc C2
      go_upto_region 7 with fail
      clear q0 f0 hx2
      generalize y2.setCell ⟨gk, 13 + c, none⟩ (.int .i64 x2) = Z2 at *
      go_wp2_with fail
      refine (pick_new Lm W b _ H3.out.src #[.int .i64 0, .int .i64 5, .int .i64 30, .int .i64 200] 4 4 (by decide) (by decide) (fun i hi => is4 hi (by decide) (by decide) (by decide) (by decide))).mono ?_
      rintro e y3 ⟨x3, hx3, rfl, s3, g3⟩
      have C3 := Lib.hid (H3.out.step s3 g3)
      clear s3 g3 H3
      obtain ⟨cs, S, P, hr, hc⟩ := C3.out.box
      have H4 : Hid (Cs W b w gr gk (y3.setCell ⟨gk, 26 + c, none⟩ (.int .i64 x3))) := Lib.hid (C3.out.set (hr.put (26 + c) _) (hc.setB c x3))
      obtain ⟨u, hu⟩ : ∃ u, cs[26 + c]? = some u := ⟨_, Array.getElem?_eq_getElem (by have := hc.ct.size; omega)⟩
      have q0 := (hr.cell (26 + c)).trans hu
      have f0 := hr.thaw (26 + c)
      clear hr hc C3
      go_upto_region 4 with fail
      clear q0 f0 hx3
      generalize y3.setCell ⟨gk, 26 + c, none⟩ (.int .i64 x3) = Z3 at *
      go_wp2_with fail
      go_roundw
      case rel => exact ⟨c + 1, by omega, by omega, by go_num, H4⟩
      case measure => simp [intOf]; omega
    · obtain rfl : c = 12 := by omega
      obtain ⟨cs, S, P, hr, hc⟩ := H1.out.box
      have HF : Hid (CtO W b w (.returned (.agg cs)) (wr.setRow gr cs)) := Lib.hid ⟨cs, S, P, rfl, hc, src_setRow H1.out.src (Nat.le_trans H1.out.hW H1.out.nr) (by have := H1.out.hb; have := H1.out.nr; omega) cs, grown_setRow H1.out.gro H1.out.nr cs⟩
      have hR : Row (wr.setRow gr cs) gr 67 cs := setRow_heap wr gr cs0 cs _ _ H1.out.res
      have hcs : (Tryd.prog.info? 67).map (·.size) = some cs.size := by rw [hc.ct.size]; kernel_rfl
      have hall : cs.all (·.oneCell') = true := by
        rw [Array.all_eq_true]
        intro i hi
        exact hc.one i _ (Array.getElem?_eq_getElem hi)
      have hsz : cs0.size = cs.size := by rw [hc.ct.size]; rfl
      have HRR := Lib.hid hR
      have hbox : wr.heap[gk]? = some (.cells cs 67 (0, 0)) := hr
      have hres : wr.heap[gr]? = some (.cells cs0 67 (0, 0)) := H1.out.res
      clear hr hc hR H1
      go_wp2_with (first | (refine wpList_load_row rfl 67 (.tmp 3) rfl gk rfl 67 cs (0, 0) _ hbox Tryd.underlying67 rfl hcs ?_; go_frame) | (refine wpList_store_rowTo rfl 67 (.tmp 2) (.tmp 42) rfl rfl gr cs rfl rfl 67 cs0 hres hcs hsz hall ?_))
      exact bodyPost_ret (v := .agg cs) (results_cell_row Tryd.results40 _ _ gr 67 cs (0, 0) _ rfl HRR.out Tryd.underlying67 rfl hcs) rfl HF.out
end Go.Proofs.YtlakgkoohdfiaaaDoor.Tm
