/- What the statements draw: a minute, a minute near it, a name. What the statements draw: a normal place. What the statements draw: a valid report near a minute. Lists of readings in memory of their own: appended to, nothing or more; an element changed. -/
import Derived.Test.YtfnlgfacadmjpaaGreatDoorSrc
import Derived.Test.YtfnlgfacadmjpaaGreatDoorGVali
import Derived.Test.YtfnlgfacadmjpaaGreatDoorPRefD
import Derived.Test.YtfnlgfacadmjpaaGreatDoorGNa
import Derived.Test.YtfnlgfacadmjpaaGreatDoorPParseTwo
import Derived.Deep.Upon
import Derived.ArgAppend
namespace Go.Proofs.YtfnlgfacadmjpaaGreatDoor
open Go.RowKit

theorem wrap_i64 (n : Int) : I64 (wrap64 n) := by
  have := bounds_i64 (wrap64_wf n)
  exact this
theorem src_lt {W w : World} {b : Nat} (h : Src W b w) : b < w.heap.size := by
  obtain ⟨_, _, _, _, _, _, h3, _⟩ := h.row
  exact (Array.getElem?_eq_some_iff.1 h3).1
set_option maxHeartbeats 800000 in
theorem minute_any (W : World) (b : Nat) (w : World) (h : Src W b w) :
    Calls Tryz.prog 31 #[.pointer (some ⟨b, 0, none⟩)] w (Reads (fun x => 0 ≤ x ∧ x ≤ 52595999) W b w) := by
  go_enter Tryz.func31, Tryz.ntmps31
  go_wp2_with fail
  refine (n_any W b _ _ h (by omega) (by omega)).mono ?_
  rintro e w1 ⟨x, ⟨x1, x2⟩, rfl, hs, hg⟩
  by_cases e0 : x = 0
  · subst e0
    go_wp2_with fail
    refine (raw_any W b _ hs).mono ?_
    rintro e w2 ⟨y, hy, rfl, hs2, hg2⟩
    go_wp2_with fail
    refine (raw_any W b _ hs2).mono ?_
    rintro e w3 ⟨z, hz, rfl, hs3, hg3⟩
    go_wp2_with fail
    refine (mod_any _ _ _ (wrap_i64 _) (by omega) (by omega)).mono ?_
    rintro e w4 ⟨rfl, rfl⟩
    go_wp2_with fail
    go_ret
    exact ⟨_, ⟨Int.emod_nonneg _ (by omega), by have := Int.emod_lt_of_pos (wrap64 (wrap64 (y * 7919) + z)) (show (0 : Int) < 52596000 by omega); omega⟩, rfl, hs3, grown_trans (grown_trans hg hg2) hg3⟩
  · by_cases e1 : x = 1
    · subst e1
      have ba := (Below.refl w1.heap.size w1).alloc (Nat.le_refl _) (.cells #[.int .i64 0, .int .i64 52595999, .int .i64 20160, .int .i64 52575839] 3)
      have rr := Row.new w1 #[.int .i64 0, .int .i64 52595999, .int .i64 20160, .int .i64 52575839] 3
      have hne : w1.heap.size ≠ b := Nat.ne_of_gt (src_lt hs)
      obtain ⟨c0, c1, c2, c3⟩ := row4 rr
      have hlt := rr.lt
      go_wp2_with fail
      refine (pick_any (fun x => 0 ≤ x ∧ x ≤ 52595999) W b _ _ _ _ (hs.under ba) (by omega) (by omega) hne hlt (fun i hi => by
        rcases (by omega : i = 0 ∨ i = 1 ∨ i = 2 ∨ i = 3) with rfl | rfl | rfl | rfl
        · exact ⟨_, c0, by omega, by omega⟩
        · exact ⟨_, c1, by omega, by omega⟩
        · exact ⟨_, c2, by omega, by omega⟩
        · exact ⟨_, c3, by omega, by omega⟩)).mono ?_
      rintro e w2 ⟨y, hy, rfl, hs2, hg2⟩
      go_wp2_with fail
      go_ret
      exact ⟨y, hy, rfl, hs2, grown_trans (grown_trans hg (grown_below ba)) hg2⟩
    · have q0 : (x == 0) = false := beq_eq_false_iff_ne.2 e0
      have q1 : (x == 1) = false := beq_eq_false_iff_ne.2 e1
      clear e0 e1
      go_wp2_with fail
      refine (n_any W b _ _ hs (by omega) (by omega)).mono ?_
      rintro e w2 ⟨y, ⟨y1, y2⟩, rfl, hs2, hg2⟩
      go_wp2_with fail
      go_ret
      exact ⟨_, ⟨by omega, by omega⟩, rfl, hs2, grown_trans hg hg2⟩
set_option maxHeartbeats 800000 in
theorem near_any (W : World) (b : Nat) (w : World) (m : Int) (h : Src W b w) (m1 : 0 ≤ m) (m2 : m ≤ 52595999) :
    Calls Tryz.prog 25 #[.pointer (some ⟨b, 0, none⟩), .int .i64 m] w (Reads (fun x => (0 ≤ x ∧ x ≤ 52595999) ∧ m - 20160 < x ∧ x < m + 20160) W b w) := by
  go_enter Tryz.func25, Tryz.ntmps25
  go_wp2_with fail
  refine (range_any W b _ _ _ h (by omega) (by omega) (by omega) (by omega)).mono ?_
  rintro e w1 ⟨p, ⟨p1, p2⟩, rfl, hs, hg⟩
  go_wp2_with fail
  refine (range_any W b _ _ _ hs (by omega) (by omega) (by omega) (by omega)).mono ?_
  rintro e w2 ⟨q, ⟨q1, q2⟩, rfl, hs2, hg2⟩
  have ba := (Below.refl w2.heap.size w2).alloc (Nat.le_refl _) (.cells #[.int .i64 0, .int .i64 p, .int .i64 q] 3)
  have rr := Row.new w2 #[.int .i64 0, .int .i64 p, .int .i64 q] 3
  have hne : w2.heap.size ≠ b := Nat.ne_of_gt (src_lt hs2)
  obtain ⟨c0, c1, c2⟩ := row3 rr
  have hlt := rr.lt
  go_wp2_with fail
  refine (pick_any (fun x => -20160 < x ∧ x < 20160) W b _ _ _ _ (hs2.under ba) (by omega) (by omega) hne hlt (fun i hi => by
    rcases (by omega : i = 0 ∨ i = 1 ∨ i = 2) with rfl | rfl | rfl
    · exact ⟨_, c0, by omega, by omega⟩
    · exact ⟨_, c1, by omega, by omega⟩
    · exact ⟨_, c2, by omega, by omega⟩)).mono ?_
  rintro e w3 ⟨d, ⟨d1, d2⟩, rfl, hs3, hg3⟩
  have G := Lib.hid (grown_trans (grown_trans (grown_trans hg hg2) (grown_below ba)) hg3)
  go_wp2_with fail
  all_goals go_ret
  all_goals exact ⟨_, ⟨⟨by omega, by omega⟩, by omega, by omega⟩, rfl, hs3, G.out⟩
/-- A text out of some. -/
def Txd (p : ByteArray → Prop) (W : World) (b : Nat) (w : World) (e : Ending) (w' : World) : Prop := ∃ x : ByteArray, p x ∧ e = .returned (.string x) ∧ Src W b w' ∧ w.grownBy w' (some b)
set_option maxHeartbeats 400000 in
theorem text_any (p : ByteArray → Prop) (W : World) (b : Nat) (w : World) (g n c : Nat) (h : Src W b w) (n1 : 1 ≤ n) (n2 : n ≤ 1000) (hgb : g ≠ b) (hgl : g < w.heap.size)
    (hp : ∀ i, i < n → ∃ x, w.cell? ⟨g, i, none⟩ = some (.string x) ∧ p x) :
    Calls Tryz.prog 32 #[.pointer (some ⟨b, 0, none⟩), .slice (some ⟨g, 0, none⟩) n c] w (Txd p W b w) := by
  have HP := Lib.hid hp; clear hp
  go_enter Tryz.func32, Tryz.ntmps32
  go_wp2_with fail
  refine (n_any W b _ _ h (by omega) (by omega)).mono ?_
  rintro e w1 ⟨x, ⟨x1, x2⟩, rfl, hs, hg⟩
  obtain ⟨k, rfl⟩ := Int.eq_ofNat_of_zero_le x1
  obtain ⟨v, hv, hpv⟩ := HP.out k (by omega)
  have hc : w1.cell? ⟨g, k, none⟩ = some (.string v) := (World.cell?_of_block (hg.block g hgl (by simpa using hgb))).trans hv
  clear hv
  go_wp2_with fail
  go_ret
  exact ⟨v, hpv, rfl, hs, hg⟩
theorem row6 {w : World} {b : Nat} {t : TypeId} {x0 x1 x2 x3 x4 x5 : Value} (h : Row w b t #[x0, x1, x2, x3, x4, x5]) :
    w.cell? ⟨b, 0, none⟩ = some x0 ∧ w.cell? ⟨b, 1, none⟩ = some x1 ∧ w.cell? ⟨b, 2, none⟩ = some x2 ∧ w.cell? ⟨b, 3, none⟩ = some x3 ∧ w.cell? ⟨b, 4, none⟩ = some x4 ∧ w.cell? ⟨b, 5, none⟩ = some x5 :=
  ⟨(h.cell 0).trans rfl, (h.cell 1).trans rfl, (h.cell 2).trans rfl, (h.cell 3).trans rfl, (h.cell 4).trans rfl, (h.cell 5).trans rfl⟩
def nms : List ByteArray := [⟨#[65, 76, 80, 72, 65]⟩, ⟨#[66, 82, 65, 86, 79]⟩, ⟨#[48, 49, 50, 51, 52]⟩, ⟨#[68, 69, 76, 84, 65]⟩, ⟨#[69, 67, 72, 79, 55]⟩, ⟨#[55, 55, 55, 55, 55]⟩]
theorem nms_ok : ∀ x ∈ nms, nameOk x = true := by decide +kernel
set_option maxHeartbeats 400000 in
theorem name_any (W : World) (b : Nat) (w : World) (h : Src W b w) :
    Calls Tryz.prog 98 #[.pointer (some ⟨b, 0, none⟩)] w (Txd (fun x => nameOk x = true) W b w) := by
  have ba := (Below.refl w.heap.size w).alloc (Nat.le_refl _) (.cells #[.string ⟨#[65, 76, 80, 72, 65]⟩, .string ⟨#[66, 82, 65, 86, 79]⟩, .string ⟨#[48, 49, 50, 51, 52]⟩, .string ⟨#[68, 69, 76, 84, 65]⟩, .string ⟨#[69, 67, 72, 79, 55]⟩, .string ⟨#[55, 55, 55, 55, 55]⟩] 9)
  have rr := Row.new w #[.string ⟨#[65, 76, 80, 72, 65]⟩, .string ⟨#[66, 82, 65, 86, 79]⟩, .string ⟨#[48, 49, 50, 51, 52]⟩, .string ⟨#[68, 69, 76, 84, 65]⟩, .string ⟨#[69, 67, 72, 79, 55]⟩, .string ⟨#[55, 55, 55, 55, 55]⟩] 9
  have hne : w.heap.size ≠ b := Nat.ne_of_gt (src_lt h)
  obtain ⟨c0, c1, c2, c3, c4, c5⟩ := row6 rr
  have hlt := rr.lt
  go_enter Tryz.func98, Tryz.ntmps98
  go_wp2_with fail
  refine (text_any (fun x => nameOk x = true) W b _ _ _ _ (h.under ba) (by omega) (by omega) hne hlt (fun i hi => by
    rcases (by omega : i = 0 ∨ i = 1 ∨ i = 2 ∨ i = 3 ∨ i = 4 ∨ i = 5) with rfl | rfl | rfl | rfl | rfl | rfl
    · exact ⟨_, c0, nms_ok _ (by simp [nms])⟩
    · exact ⟨_, c1, nms_ok _ (by simp [nms])⟩
    · exact ⟨_, c2, nms_ok _ (by simp [nms])⟩
    · exact ⟨_, c3, nms_ok _ (by simp [nms])⟩
    · exact ⟨_, c4, nms_ok _ (by simp [nms])⟩
    · exact ⟨_, c5, nms_ok _ (by simp [nms])⟩)).mono ?_
  rintro e w2 ⟨x, hx, rfl, hs2, hg2⟩
  go_wp2_with fail
  go_ret
  exact ⟨x, hx, rfl, hs2, grown_trans (grown_below ba) hg2⟩
end Go.Proofs.YtfnlgfacadmjpaaGreatDoor
namespace Go.Proofs.YtfnlgfacadmjpaaGreatDoor
open Go.RowKit

theorem nrm_nrm {f : Nat} {A B C : Int} (h : Pl.Ico.Vld f A B C) : nrm (Pl.Ico.nf f A B C : Nat) (Pl.nw f A B C 0) (Pl.nw f A B C 1) (Pl.nw f A B C 2) = true := by
  obtain ⟨k1, k2⟩ := Pl.Ico.nf_ok h
  have hs := Pl.Ico.wt_on h k1 k2
  have hn := Pl.Ico.nf_same hs
  have hv := Pl.Ico.vld_on h k1 k2
  have e : ∀ k, Pl.nw (Pl.Ico.nf f A B C) (Pl.Ico.wt f A B C (Pl.Ico.cor (Pl.Ico.nf f A B C) 0)) (Pl.Ico.wt f A B C (Pl.Ico.cor (Pl.Ico.nf f A B C) 1)) (Pl.Ico.wt f A B C (Pl.Ico.cor (Pl.Ico.nf f A B C) 2)) k = Pl.nw f A B C k := fun k => by unfold Pl.nw; rw [hn, hs]
  unfold nrm
  have h0 : ((Pl.Ico.nf f A B C : Nat) : Int).toNat = Pl.Ico.nf f A B C := by omega
  rw [h0]
  have e0 : ∀ k, Pl.nw f A B C k = Pl.Ico.wt f A B C (Pl.Ico.cor (Pl.Ico.nf f A B C) k) := fun k => rfl
  rw [e0 0, e0 1, e0 2, e 0, e 1, e 2, hn, Pl.vb_of hv]
  simp [e0]
/-- What Place leaves: a normal place. -/
def Plc (W : World) (b : Nat) (w : World) (e : Ending) (w' : World) : Prop := ∃ F A B C : Int, nrm F A B C = true ∧ e = .returned (.agg #[.int .i64 F, .int .i64 A, .int .i64 B, .int .i64 C]) ∧ Src W b w' ∧ w.grownBy w' (some b)
set_option maxRecDepth 100000 in
set_option maxHeartbeats 4000000 in
theorem place_any (W : World) (b : Nat) (w : World) (h : Src W b w) :
    Calls Tryz.prog 63 #[.pointer (some ⟨b, 0, none⟩)] w (Plc W b w) := by
  have hbl := src_lt h
  have hW := h.below.size
  go_enter Tryz.func63, Tryz.ntmps63
  go_wp2_with fail
  refine (n_any W b _ _ (h.under ((Below.refl _ _).alloc (Nat.le_refl _) _)) (by omega) (by omega)).mono ?_
  rintro e w1 ⟨x0, ⟨a1, a2⟩, rfl, s1, g1⟩
  obtain ⟨f, rfl⟩ := Int.eq_ofNat_of_zero_le a1
  have hf : f < 20 := by omega
  have hz1 : w.heap.size + 1 ≤ w1.heap.size := by have := g1.size; simp at this; omega
  go_wp2_with fail
  refine (n_any W b _ _ s1 (by omega) (by omega)).mono ?_
  rintro e w2 ⟨A, ⟨A1, A2⟩, rfl, s2, g2⟩
  have hz2 : w.heap.size + 1 ≤ w2.heap.size := Nat.le_trans hz1 g2.size
  have I0 : Pl.In W b w w.heap.size w2.heap.size f A 0 0 (w2.alloc (.cells #[.int .i64 f, .int .i64 A, .int .i64 0, .int .i64 0] 50)) :=
    ⟨s2.under ((Below.refl _ _).alloc (Nat.le_refl _) _), grown_trans (grown_trans (grown_trans (grown_below ((Below.refl _ _).alloc (Nat.le_refl _) _)) g1) g2) (grown_below ((Below.refl _ _).alloc (Nat.le_refl _) _)),
      (((Row.new w _ _).grown g1 (by simp; omega)).grown g2 (by simp; omega)).alloc _, Row.new _ _ _, by omega, Nat.le_refl _, by omega, by omega, by omega, hW⟩
  go_upto_region 2 with fail
  refine forget (Pl.In W b w w.heap.size w2.heap.size f A 0 0) I0 ?_
  clear I0 s1 g1 a1 a2 hW hbl h hz1 s2 g2 hz2
  generalize w2.heap.size = gp at *
  obtain ⟨gr, hgr⟩ : ∃ g, w.heap.size = g := ⟨_, rfl⟩
  rw [hgr]
  clear hgr
  rintro Y I
  go_wp2_with fail
  refine (n_any W b _ _ I.src (by omega) (by omega)).mono ?_
  rintro e w3 ⟨x1, ⟨a1, a2⟩, rfl, s3, g3⟩
  have I3 := I.step s3 g3
  clear I s3 g3
  rcases (by omega : x1 = 0 ∨ x1 = 1 ∨ (x1 ≠ 0 ∧ x1 ≠ 1)) with rfl | rfl | ⟨n0, n1⟩
  · clear a1 a2
    go_wp2_with fail
    refine (n_any W b _ _ I3.src (by omega) (by omega)).mono ?_
    rintro e w4 ⟨z, ⟨z1, z2⟩, rfl, s4, g4⟩
    have I4 := I3.step s4 g4
    clear I3 s4 g4
    obtain ⟨⟨c0, c1, c2, c3⟩, f1, f2, f3⟩ := I4.cells
    go_upto_region 7 with fail
    refine forget (fun Y => ∃ A : Int, 0 ≤ A ∧ A ≤ 840 ∧ Pl.In W b w gr gp f A 0 0 Y) ⟨_, by omega, by omega, I4.set1 _⟩ ?_
    clear I4 c0 c1 c2 c3 f1 f2 f3 A1 A2
    rintro V ⟨A, h1, h2, I⟩
    obtain ⟨⟨c0, c1, c2, c3⟩, f1, f2, f3⟩ := I.cells
    go_wp2_with fail
    refine (n_any W b _ _ I.src (by omega) (by omega)).mono ?_
    rintro e w5 ⟨B, ⟨k1, k2⟩, rfl, s5, g5⟩
    have I5 := I.step s5 g5
    clear I s5 g5 c0 c1 c2 c3 f1 f2 f3
    obtain ⟨⟨c0, c1, c2, c3⟩, f1, f2, f3⟩ := I5.cells
    go_upto_region 8 with fail
    refine forget (Pl.In W b w gr gp f A B 0) (I5.set2 _) ?_
    clear I5 c0 c1 c2 c3 f1 f2 f3
    rintro U I
    go_wp2_with fail
    refine (n_any W b _ _ I.src (by omega) (by omega)).mono ?_
    rintro e w6 ⟨y, ⟨y1, y2⟩, rfl, s6, g6⟩
    have I6 := I.step s6 g6
    clear I s6 g6
    obtain ⟨⟨c0, c1, c2, c3⟩, f1, f2, f3⟩ := I6.cells
    by_cases hy : y = 0
    · subst hy
      clear y1 y2
      have tm := Int.tmod_eq_emod_of_nonneg (a := B) (b := 105) (by omega)
      have tb := Int.emod_lt_of_pos B (show (0 : Int) < 105 by omega)
      have tc := Int.emod_nonneg B (show (105 : Int) ≠ 0 by omega)
      go_upto_region 10 with fail
      refine forget (fun Z => ∃ B : Int, 0 ≤ B ∧ A + B ≤ 840 ∧ Pl.In W b w gr gp f A B 0 Z) ⟨_, ?_, ?_, I6.set2 _⟩ ?_
      · omega
      · omega
      clear I6 c0 c1 c2 c3 f1 f2 f3 k1 k2 tm tb tc
      rintro Z ⟨B, h3, h4, I⟩
      obtain ⟨⟨c0, c1, c2, c3⟩, f1, f2, f3⟩ := I.cells
      go_upto_region 11 with fail
      refine forget (Pl.In W b w gr gp f A B (840 - A - B)) (I.set3 _) ?_
      clear I c0 c1 c2 c3 f1 f2 f3
      rintro T I
      have hv : Pl.Ico.Vld f A B (840 - A - B) := by unfold Pl.Ico.Vld; omega
      generalize 840 - A - B = C at *
      obtain ⟨⟨c0, c1, c2, c3⟩, -⟩ := I.cells
      go_wp2_with fail
      refine (Pl.refNormal_yes f A B C _ hv).mono ?_
      rintro e w9 ⟨rfl, g9⟩
      have HN := Lib.hid (nrm_nrm hv)
      generalize ((Pl.Ico.nf f A B C : Nat) : Int) = n0 at *
      generalize Pl.nw f A B C 0 = n1 at *
      generalize Pl.nw f A B C 1 = n2 at *
      generalize Pl.nw f A B C 2 = n3 at *
      have I9 := (I.step (I.src.under g9) (grown_below g9)).step ((I.src.under g9).under ((Below.refl _ _).alloc (Nat.le_refl _) (.cells #[.int .i64 n0, .int .i64 n1, .int .i64 n2, .int .i64 n3] 50))) (grown_below ((Below.refl _ _).alloc (Nat.le_refl _) _))
      have rn := Row.new w9 #[.int .i64 n0, .int .i64 n1, .int .i64 n2, .int .i64 n3] 50
      clear I g9 c0 c1 c2 c3 hv h1 h2 h3 h4
      go_upto_region 12 with fail
      generalize w9.alloc (.cells #[.int .i64 n0, .int .i64 n1, .int .i64 n2, .int .i64 n3] 50) = W9 at *
      generalize w9.heap.size = g9 at *
      obtain ⟨p0, p1, p2, p3⟩ := row4 rn
      have z0 := I9.res.thaw 0
      have z1 := I9.res.thaw 1
      have z2 := I9.res.thaw 2
      have z3 := I9.res.thaw 3
      obtain ⟨d0, d1, d2, d3⟩ := row4 I9.res
      have HZ := Lib.hid (I9.sets (.int .i64 n0) (.int .i64 n1) (.int .i64 n2) (.int .i64 n3))
      clear I9 rn
      go_wp2_with fail
      exact bodyPost_ret (v := .agg #[.int .i64 n0, .int .i64 n1, .int .i64 n2, .int .i64 n3]) (results_cell_row Tryz.results63 _ _ gr 50 _ (0, 0) _ rfl HZ.out.2.2 Tryz.underlying50 rfl (by kernel_rfl)) rfl ⟨n0, n1, n2, n3, HN.out, rfl, HZ.out.1, HZ.out.2.1⟩
    · have q : (y == 0) = false := beq_eq_false_iff_ne.2 hy
      clear y1 y2 hy
      go_upto_region 10 with fail
      refine forget (fun Z => ∃ B : Int, 0 ≤ B ∧ A + B ≤ 840 ∧ Pl.In W b w gr gp f A B 0 Z) ⟨B, by omega, by omega, I6⟩ ?_
      clear I6 c0 c1 c2 c3 f1 f2 f3 k1 k2
      rintro Z ⟨B, h3, h4, I⟩
      obtain ⟨⟨c0, c1, c2, c3⟩, f1, f2, f3⟩ := I.cells
      go_upto_region 11 with fail
      refine forget (Pl.In W b w gr gp f A B (840 - A - B)) (I.set3 _) ?_
      clear I c0 c1 c2 c3 f1 f2 f3
      rintro T I
      have hv : Pl.Ico.Vld f A B (840 - A - B) := by unfold Pl.Ico.Vld; omega
      generalize 840 - A - B = C at *
      obtain ⟨⟨c0, c1, c2, c3⟩, -⟩ := I.cells
      go_wp2_with fail
      refine (Pl.refNormal_yes f A B C _ hv).mono ?_
      rintro e w9 ⟨rfl, g9⟩
      have HN := Lib.hid (nrm_nrm hv)
      generalize ((Pl.Ico.nf f A B C : Nat) : Int) = n0 at *
      generalize Pl.nw f A B C 0 = n1 at *
      generalize Pl.nw f A B C 1 = n2 at *
      generalize Pl.nw f A B C 2 = n3 at *
      have I9 := (I.step (I.src.under g9) (grown_below g9)).step ((I.src.under g9).under ((Below.refl _ _).alloc (Nat.le_refl _) (.cells #[.int .i64 n0, .int .i64 n1, .int .i64 n2, .int .i64 n3] 50))) (grown_below ((Below.refl _ _).alloc (Nat.le_refl _) _))
      have rn := Row.new w9 #[.int .i64 n0, .int .i64 n1, .int .i64 n2, .int .i64 n3] 50
      clear I g9 c0 c1 c2 c3 hv h1 h2 h3 h4
      go_upto_region 12 with fail
      generalize w9.alloc (.cells #[.int .i64 n0, .int .i64 n1, .int .i64 n2, .int .i64 n3] 50) = W9 at *
      generalize w9.heap.size = g9 at *
      obtain ⟨p0, p1, p2, p3⟩ := row4 rn
      have z0 := I9.res.thaw 0
      have z1 := I9.res.thaw 1
      have z2 := I9.res.thaw 2
      have z3 := I9.res.thaw 3
      obtain ⟨d0, d1, d2, d3⟩ := row4 I9.res
      have HZ := Lib.hid (I9.sets (.int .i64 n0) (.int .i64 n1) (.int .i64 n2) (.int .i64 n3))
      clear I9 rn
      go_wp2_with fail
      exact bodyPost_ret (v := .agg #[.int .i64 n0, .int .i64 n1, .int .i64 n2, .int .i64 n3]) (results_cell_row Tryz.results63 _ _ gr 50 _ (0, 0) _ rfl HZ.out.2.2 Tryz.underlying50 rfl (by kernel_rfl)) rfl ⟨n0, n1, n2, n3, HN.out, rfl, HZ.out.1, HZ.out.2.1⟩
  · clear a1 a2
    go_wp2_with fail
    refine (n_any W b _ _ I3.src (by omega) (by omega)).mono ?_
    rintro e w4 ⟨z, ⟨z1, z2⟩, rfl, s4, g4⟩
    have I4 := I3.step s4 g4
    clear I3 s4 g4
    obtain ⟨⟨c0, c1, c2, c3⟩, f1, f2, f3⟩ := I4.cells
    go_upto_region 7 with fail
    refine forget (fun Y => ∃ A : Int, 0 ≤ A ∧ A ≤ 840 ∧ Pl.In W b w gr gp f A 0 0 Y) ⟨_, by omega, by omega, I4.set1 _⟩ ?_
    clear I4 c0 c1 c2 c3 f1 f2 f3 A1 A2
    rintro V ⟨A, h1, h2, I⟩
    obtain ⟨⟨c0, c1, c2, c3⟩, f1, f2, f3⟩ := I.cells
    go_wp2_with fail
    refine (n_any W b _ _ I.src (by omega) (by omega)).mono ?_
    rintro e w5 ⟨B, ⟨k1, k2⟩, rfl, s5, g5⟩
    have I5 := I.step s5 g5
    clear I s5 g5 c0 c1 c2 c3 f1 f2 f3
    obtain ⟨⟨c0, c1, c2, c3⟩, f1, f2, f3⟩ := I5.cells
    go_upto_region 8 with fail
    refine forget (Pl.In W b w gr gp f A B 0) (I5.set2 _) ?_
    clear I5 c0 c1 c2 c3 f1 f2 f3
    rintro U I
    go_wp2_with fail
    refine (n_any W b _ _ I.src (by omega) (by omega)).mono ?_
    rintro e w6 ⟨y, ⟨y1, y2⟩, rfl, s6, g6⟩
    have I6 := I.step s6 g6
    clear I s6 g6
    obtain ⟨⟨c0, c1, c2, c3⟩, f1, f2, f3⟩ := I6.cells
    by_cases hy : y = 0
    · subst hy
      clear y1 y2
      have tm := Int.tmod_eq_emod_of_nonneg (a := B) (b := 105) (by omega)
      have tb := Int.emod_lt_of_pos B (show (0 : Int) < 105 by omega)
      have tc := Int.emod_nonneg B (show (105 : Int) ≠ 0 by omega)
      go_upto_region 10 with fail
      refine forget (fun Z => ∃ B : Int, 0 ≤ B ∧ A + B ≤ 840 ∧ Pl.In W b w gr gp f A B 0 Z) ⟨_, ?_, ?_, I6.set2 _⟩ ?_
      · omega
      · omega
      clear I6 c0 c1 c2 c3 f1 f2 f3 k1 k2 tm tb tc
      rintro Z ⟨B, h3, h4, I⟩
      obtain ⟨⟨c0, c1, c2, c3⟩, f1, f2, f3⟩ := I.cells
      go_upto_region 11 with fail
      refine forget (Pl.In W b w gr gp f A B (840 - A - B)) (I.set3 _) ?_
      clear I c0 c1 c2 c3 f1 f2 f3
      rintro T I
      have hv : Pl.Ico.Vld f A B (840 - A - B) := by unfold Pl.Ico.Vld; omega
      generalize 840 - A - B = C at *
      obtain ⟨⟨c0, c1, c2, c3⟩, -⟩ := I.cells
      go_wp2_with fail
      refine (Pl.refNormal_yes f A B C _ hv).mono ?_
      rintro e w9 ⟨rfl, g9⟩
      have HN := Lib.hid (nrm_nrm hv)
      generalize ((Pl.Ico.nf f A B C : Nat) : Int) = n0 at *
      generalize Pl.nw f A B C 0 = n1 at *
      generalize Pl.nw f A B C 1 = n2 at *
      generalize Pl.nw f A B C 2 = n3 at *
      have I9 := (I.step (I.src.under g9) (grown_below g9)).step ((I.src.under g9).under ((Below.refl _ _).alloc (Nat.le_refl _) (.cells #[.int .i64 n0, .int .i64 n1, .int .i64 n2, .int .i64 n3] 50))) (grown_below ((Below.refl _ _).alloc (Nat.le_refl _) _))
      have rn := Row.new w9 #[.int .i64 n0, .int .i64 n1, .int .i64 n2, .int .i64 n3] 50
      clear I g9 c0 c1 c2 c3 hv h1 h2 h3 h4
      go_upto_region 12 with fail
      generalize w9.alloc (.cells #[.int .i64 n0, .int .i64 n1, .int .i64 n2, .int .i64 n3] 50) = W9 at *
      generalize w9.heap.size = g9 at *
      obtain ⟨p0, p1, p2, p3⟩ := row4 rn
      have z0 := I9.res.thaw 0
      have z1 := I9.res.thaw 1
      have z2 := I9.res.thaw 2
      have z3 := I9.res.thaw 3
      obtain ⟨d0, d1, d2, d3⟩ := row4 I9.res
      have HZ := Lib.hid (I9.sets (.int .i64 n0) (.int .i64 n1) (.int .i64 n2) (.int .i64 n3))
      clear I9 rn
      go_wp2_with fail
      exact bodyPost_ret (v := .agg #[.int .i64 n0, .int .i64 n1, .int .i64 n2, .int .i64 n3]) (results_cell_row Tryz.results63 _ _ gr 50 _ (0, 0) _ rfl HZ.out.2.2 Tryz.underlying50 rfl (by kernel_rfl)) rfl ⟨n0, n1, n2, n3, HN.out, rfl, HZ.out.1, HZ.out.2.1⟩
    · have q : (y == 0) = false := beq_eq_false_iff_ne.2 hy
      clear y1 y2 hy
      go_upto_region 10 with fail
      refine forget (fun Z => ∃ B : Int, 0 ≤ B ∧ A + B ≤ 840 ∧ Pl.In W b w gr gp f A B 0 Z) ⟨B, by omega, by omega, I6⟩ ?_
      clear I6 c0 c1 c2 c3 f1 f2 f3 k1 k2
      rintro Z ⟨B, h3, h4, I⟩
      obtain ⟨⟨c0, c1, c2, c3⟩, f1, f2, f3⟩ := I.cells
      go_upto_region 11 with fail
      refine forget (Pl.In W b w gr gp f A B (840 - A - B)) (I.set3 _) ?_
      clear I c0 c1 c2 c3 f1 f2 f3
      rintro T I
      have hv : Pl.Ico.Vld f A B (840 - A - B) := by unfold Pl.Ico.Vld; omega
      generalize 840 - A - B = C at *
      obtain ⟨⟨c0, c1, c2, c3⟩, -⟩ := I.cells
      go_wp2_with fail
      refine (Pl.refNormal_yes f A B C _ hv).mono ?_
      rintro e w9 ⟨rfl, g9⟩
      have HN := Lib.hid (nrm_nrm hv)
      generalize ((Pl.Ico.nf f A B C : Nat) : Int) = n0 at *
      generalize Pl.nw f A B C 0 = n1 at *
      generalize Pl.nw f A B C 1 = n2 at *
      generalize Pl.nw f A B C 2 = n3 at *
      have I9 := (I.step (I.src.under g9) (grown_below g9)).step ((I.src.under g9).under ((Below.refl _ _).alloc (Nat.le_refl _) (.cells #[.int .i64 n0, .int .i64 n1, .int .i64 n2, .int .i64 n3] 50))) (grown_below ((Below.refl _ _).alloc (Nat.le_refl _) _))
      have rn := Row.new w9 #[.int .i64 n0, .int .i64 n1, .int .i64 n2, .int .i64 n3] 50
      clear I g9 c0 c1 c2 c3 hv h1 h2 h3 h4
      go_upto_region 12 with fail
      generalize w9.alloc (.cells #[.int .i64 n0, .int .i64 n1, .int .i64 n2, .int .i64 n3] 50) = W9 at *
      generalize w9.heap.size = g9 at *
      obtain ⟨p0, p1, p2, p3⟩ := row4 rn
      have z0 := I9.res.thaw 0
      have z1 := I9.res.thaw 1
      have z2 := I9.res.thaw 2
      have z3 := I9.res.thaw 3
      obtain ⟨d0, d1, d2, d3⟩ := row4 I9.res
      have HZ := Lib.hid (I9.sets (.int .i64 n0) (.int .i64 n1) (.int .i64 n2) (.int .i64 n3))
      clear I9 rn
      go_wp2_with fail
      exact bodyPost_ret (v := .agg #[.int .i64 n0, .int .i64 n1, .int .i64 n2, .int .i64 n3]) (results_cell_row Tryz.results63 _ _ gr 50 _ (0, 0) _ rfl HZ.out.2.2 Tryz.underlying50 rfl (by kernel_rfl)) rfl ⟨n0, n1, n2, n3, HN.out, rfl, HZ.out.1, HZ.out.2.1⟩
  · have q0 : (x1 == 0) = false := beq_eq_false_iff_ne.2 n0
    have q1 : (x1 == 1) = false := beq_eq_false_iff_ne.2 n1
    clear a1 a2 n0 n1
    go_upto_region 7 with fail
    refine forget (fun Y => ∃ A : Int, 0 ≤ A ∧ A ≤ 840 ∧ Pl.In W b w gr gp f A 0 0 Y) ⟨A, by omega, by omega, I3⟩ ?_
    clear I3 A1 A2
    rintro V ⟨A, h1, h2, I⟩
    obtain ⟨⟨c0, c1, c2, c3⟩, f1, f2, f3⟩ := I.cells
    go_wp2_with fail
    refine (n_any W b _ _ I.src (by omega) (by omega)).mono ?_
    rintro e w5 ⟨B, ⟨k1, k2⟩, rfl, s5, g5⟩
    have I5 := I.step s5 g5
    clear I s5 g5 c0 c1 c2 c3 f1 f2 f3
    obtain ⟨⟨c0, c1, c2, c3⟩, f1, f2, f3⟩ := I5.cells
    go_upto_region 8 with fail
    refine forget (Pl.In W b w gr gp f A B 0) (I5.set2 _) ?_
    clear I5 c0 c1 c2 c3 f1 f2 f3
    rintro U I
    go_wp2_with fail
    refine (n_any W b _ _ I.src (by omega) (by omega)).mono ?_
    rintro e w6 ⟨y, ⟨y1, y2⟩, rfl, s6, g6⟩
    have I6 := I.step s6 g6
    clear I s6 g6
    obtain ⟨⟨c0, c1, c2, c3⟩, f1, f2, f3⟩ := I6.cells
    by_cases hy : y = 0
    · subst hy
      clear y1 y2
      have tm := Int.tmod_eq_emod_of_nonneg (a := B) (b := 105) (by omega)
      have tb := Int.emod_lt_of_pos B (show (0 : Int) < 105 by omega)
      have tc := Int.emod_nonneg B (show (105 : Int) ≠ 0 by omega)
      go_upto_region 10 with fail
      refine forget (fun Z => ∃ B : Int, 0 ≤ B ∧ A + B ≤ 840 ∧ Pl.In W b w gr gp f A B 0 Z) ⟨_, ?_, ?_, I6.set2 _⟩ ?_
      · omega
      · omega
      clear I6 c0 c1 c2 c3 f1 f2 f3 k1 k2 tm tb tc
      rintro Z ⟨B, h3, h4, I⟩
      obtain ⟨⟨c0, c1, c2, c3⟩, f1, f2, f3⟩ := I.cells
      go_upto_region 11 with fail
      refine forget (Pl.In W b w gr gp f A B (840 - A - B)) (I.set3 _) ?_
      clear I c0 c1 c2 c3 f1 f2 f3
      rintro T I
      have hv : Pl.Ico.Vld f A B (840 - A - B) := by unfold Pl.Ico.Vld; omega
      generalize 840 - A - B = C at *
      obtain ⟨⟨c0, c1, c2, c3⟩, -⟩ := I.cells
      go_wp2_with fail
      refine (Pl.refNormal_yes f A B C _ hv).mono ?_
      rintro e w9 ⟨rfl, g9⟩
      have HN := Lib.hid (nrm_nrm hv)
      generalize ((Pl.Ico.nf f A B C : Nat) : Int) = n0 at *
      generalize Pl.nw f A B C 0 = n1 at *
      generalize Pl.nw f A B C 1 = n2 at *
      generalize Pl.nw f A B C 2 = n3 at *
      have I9 := (I.step (I.src.under g9) (grown_below g9)).step ((I.src.under g9).under ((Below.refl _ _).alloc (Nat.le_refl _) (.cells #[.int .i64 n0, .int .i64 n1, .int .i64 n2, .int .i64 n3] 50))) (grown_below ((Below.refl _ _).alloc (Nat.le_refl _) _))
      have rn := Row.new w9 #[.int .i64 n0, .int .i64 n1, .int .i64 n2, .int .i64 n3] 50
      clear I g9 c0 c1 c2 c3 hv h1 h2 h3 h4
      go_upto_region 12 with fail
      generalize w9.alloc (.cells #[.int .i64 n0, .int .i64 n1, .int .i64 n2, .int .i64 n3] 50) = W9 at *
      generalize w9.heap.size = g9 at *
      obtain ⟨p0, p1, p2, p3⟩ := row4 rn
      have z0 := I9.res.thaw 0
      have z1 := I9.res.thaw 1
      have z2 := I9.res.thaw 2
      have z3 := I9.res.thaw 3
      obtain ⟨d0, d1, d2, d3⟩ := row4 I9.res
      have HZ := Lib.hid (I9.sets (.int .i64 n0) (.int .i64 n1) (.int .i64 n2) (.int .i64 n3))
      clear I9 rn
      go_wp2_with fail
      exact bodyPost_ret (v := .agg #[.int .i64 n0, .int .i64 n1, .int .i64 n2, .int .i64 n3]) (results_cell_row Tryz.results63 _ _ gr 50 _ (0, 0) _ rfl HZ.out.2.2 Tryz.underlying50 rfl (by kernel_rfl)) rfl ⟨n0, n1, n2, n3, HN.out, rfl, HZ.out.1, HZ.out.2.1⟩
    · have q : (y == 0) = false := beq_eq_false_iff_ne.2 hy
      clear y1 y2 hy
      go_upto_region 10 with fail
      refine forget (fun Z => ∃ B : Int, 0 ≤ B ∧ A + B ≤ 840 ∧ Pl.In W b w gr gp f A B 0 Z) ⟨B, by omega, by omega, I6⟩ ?_
      clear I6 c0 c1 c2 c3 f1 f2 f3 k1 k2
      rintro Z ⟨B, h3, h4, I⟩
      obtain ⟨⟨c0, c1, c2, c3⟩, f1, f2, f3⟩ := I.cells
      go_upto_region 11 with fail
      refine forget (Pl.In W b w gr gp f A B (840 - A - B)) (I.set3 _) ?_
      clear I c0 c1 c2 c3 f1 f2 f3
      rintro T I
      have hv : Pl.Ico.Vld f A B (840 - A - B) := by unfold Pl.Ico.Vld; omega
      generalize 840 - A - B = C at *
      obtain ⟨⟨c0, c1, c2, c3⟩, -⟩ := I.cells
      go_wp2_with fail
      refine (Pl.refNormal_yes f A B C _ hv).mono ?_
      rintro e w9 ⟨rfl, g9⟩
      have HN := Lib.hid (nrm_nrm hv)
      generalize ((Pl.Ico.nf f A B C : Nat) : Int) = n0 at *
      generalize Pl.nw f A B C 0 = n1 at *
      generalize Pl.nw f A B C 1 = n2 at *
      generalize Pl.nw f A B C 2 = n3 at *
      have I9 := (I.step (I.src.under g9) (grown_below g9)).step ((I.src.under g9).under ((Below.refl _ _).alloc (Nat.le_refl _) (.cells #[.int .i64 n0, .int .i64 n1, .int .i64 n2, .int .i64 n3] 50))) (grown_below ((Below.refl _ _).alloc (Nat.le_refl _) _))
      have rn := Row.new w9 #[.int .i64 n0, .int .i64 n1, .int .i64 n2, .int .i64 n3] 50
      clear I g9 c0 c1 c2 c3 hv h1 h2 h3 h4
      go_upto_region 12 with fail
      generalize w9.alloc (.cells #[.int .i64 n0, .int .i64 n1, .int .i64 n2, .int .i64 n3] 50) = W9 at *
      generalize w9.heap.size = g9 at *
      obtain ⟨p0, p1, p2, p3⟩ := row4 rn
      have z0 := I9.res.thaw 0
      have z1 := I9.res.thaw 1
      have z2 := I9.res.thaw 2
      have z3 := I9.res.thaw 3
      obtain ⟨d0, d1, d2, d3⟩ := row4 I9.res
      have HZ := Lib.hid (I9.sets (.int .i64 n0) (.int .i64 n1) (.int .i64 n2) (.int .i64 n3))
      clear I9 rn
      go_wp2_with fail
      exact bodyPost_ret (v := .agg #[.int .i64 n0, .int .i64 n1, .int .i64 n2, .int .i64 n3]) (results_cell_row Tryz.results63 _ _ gr 50 _ (0, 0) _ rfl HZ.out.2.2 Tryz.underlying50 rfl (by kernel_rfl)) rfl ⟨n0, n1, n2, n3, HN.out, rfl, HZ.out.1, HZ.out.2.1⟩
end Go.Proofs.YtfnlgfacadmjpaaGreatDoor
namespace Go.Proofs.YtfnlgfacadmjpaaGreatDoor
open Go.RowKit

theorem own_far {w w' : World} {base size n : Nat} {e : TypeId} {v : Value} {xs : List Value} (h : w.ownsRow base e size v n xs) (hk : ∀ g, v.ownBlock = some g → w'.heap[g]? = w.heap[g]?) : w'.ownsRow base e size v n xs := by
  refine ⟨h.1, ?_⟩
  rcases h.2 with h0 | ⟨g, cap, cur, rfl, h1, h2, h3⟩
  · exact .inl h0
  · exact .inr ⟨g, cap, cur, rfl, h1, (hk g rfl).trans h2, h3⟩
theorem own_base {w : World} {base base' size n : Nat} {e : TypeId} {v : Value} {xs : List Value} (h : w.ownsRow base e size v n xs) (hb : base' ≤ base) : w.ownsRow base' e size v n xs := by
  refine ⟨h.1, ?_⟩
  rcases h.2 with h0 | ⟨g, cap, cur, rfl, h1, h3⟩
  · exact .inl h0
  · exact .inr ⟨g, cap, cur, rfl, Nat.le_trans hb h1, h3⟩
theorem gl_set {W w0 w : World} {b : Nat} {M : List El.Elt.R} {u : Value} (h : El.Gl W b w0 M u w) (g j : Nat) (x : Value) (hW : W.heap.size ≤ w0.heap.size) (hg : w0.heap.size ≤ g) (hb : g ≠ b) (hne : some g ≠ u.ownBlock) : El.Gl W b w0 M u (w.setCell ⟨g, j, none⟩ x) :=
  ⟨Pl.src_set h.src g j x (Nat.le_trans hW hg) hb, Pl.grown_set h.gro g j x hg rfl, own_far h.own fun i hi => Below.heap_setCell w ⟨g, j, none⟩ x i (fun e => hne (by rw [hi]; simp at e; rw [e]))⟩
/-- What is known while a report is drawn. -/
structure Rs (W : World) (b : Nat) (w0 : World) (gr gp : Nat) (k : Int) (nm : ByteArray) (t F A B C : Int) (u : Value) (L : List El.Elt.R) (w : World) : Prop where
  gl : El.Gl W b w0 L u w
  res : Row w gr 53 (repC 0 ⟨#[]⟩ 0 0 0 0 0 (.slice none 0 0))
  rep : Row w gp 53 (repC k nm t F A B C u)
  ne : gr ≠ gp
  nr : w0.heap.size ≤ gr
  np : w0.heap.size ≤ gp
  br : gr ≠ b
  bp : gp ≠ b
  w0W : W.heap.size ≤ w0.heap.size
section
variable {W w0 w w' : World} {b gr gp : Nat} {k : Int} {nm : ByteArray} {t F A B C : Int} {u : Value} {L : List El.Elt.R}
theorem Rs.step (h : Rs W b w0 gr gp k nm t F A B C u L w) (hs : Src W b w') (hg : w.grownBy w' (some b)) : Rs W b w0 gr gp k nm t F A B C u L w' :=
  ⟨h.gl.step hs hg, h.res.grown hg (fun e => h.br (by injection e)), h.rep.grown hg (fun e => h.bp (by injection e)), h.ne, h.nr, h.np, h.br, h.bp, h.w0W⟩
theorem Rs.put (h : Rs W b w0 gr gp k nm t F A B C u L w) (F' A' B' C' : Int) : Rs W b w0 gr gp k nm t F' A' B' C' u L ((((w.setCell ⟨gp, 3, none⟩ (.int .i64 F')).setCell ⟨gp, 4, none⟩ (.int .i64 A')).setCell ⟨gp, 5, none⟩ (.int .i64 B')).setCell ⟨gp, 6, none⟩ (.int .i64 C')) := by
  have hne : some gp ≠ u.ownBlock := El.own_ne h.gl.own h.rep (by decide)
  have g1 := gl_set h.gl gp 3 (.int .i64 F') h.w0W h.np h.bp hne
  have g2 := gl_set g1 gp 4 (.int .i64 A') h.w0W h.np h.bp hne
  have g3 := gl_set g2 gp 5 (.int .i64 B') h.w0W h.np h.bp hne
  have g4 := gl_set g3 gp 6 (.int .i64 C') h.w0W h.np h.bp hne
  have r1 : Row (w.setCell ⟨gp, 3, none⟩ (.int .i64 F')) gp 53 (repC k nm t F' A B C u) := h.rep.put 3 _
  have r2 : Row ((w.setCell ⟨gp, 3, none⟩ (.int .i64 F')).setCell ⟨gp, 4, none⟩ (.int .i64 A')) gp 53 (repC k nm t F' A' B C u) := r1.put 4 _
  have r3 : Row (((w.setCell ⟨gp, 3, none⟩ (.int .i64 F')).setCell ⟨gp, 4, none⟩ (.int .i64 A')).setCell ⟨gp, 5, none⟩ (.int .i64 B')) gp 53 (repC k nm t F' A' B' C u) := r2.put 5 _
  exact ⟨g4, (((h.res.far (p := ⟨gp, 3, none⟩) (Ne.symm h.ne) _).far (p := ⟨gp, 4, none⟩) (Ne.symm h.ne) _).far (p := ⟨gp, 5, none⟩) (Ne.symm h.ne) _).far (p := ⟨gp, 6, none⟩) (Ne.symm h.ne) _, r3.put 6 _, h.ne, h.nr, h.np, h.br, h.bp, h.w0W⟩
theorem Rs.fin (h : Rs W b w0 gr gp k nm t F A B C u L w) (u0 u1 u2 u3 u4 u5 u6 u7 : Value) :
    El.Gl W b w0 L u ((((((((w.setCell ⟨gr, 0, none⟩ u0).setCell ⟨gr, 1, none⟩ u1).setCell ⟨gr, 2, none⟩ u2).setCell ⟨gr, 3, none⟩ u3).setCell ⟨gr, 4, none⟩ u4).setCell ⟨gr, 5, none⟩ u5).setCell ⟨gr, 6, none⟩ u6).setCell ⟨gr, 7, none⟩ u7) ∧
    Row ((((((((w.setCell ⟨gr, 0, none⟩ u0).setCell ⟨gr, 1, none⟩ u1).setCell ⟨gr, 2, none⟩ u2).setCell ⟨gr, 3, none⟩ u3).setCell ⟨gr, 4, none⟩ u4).setCell ⟨gr, 5, none⟩ u5).setCell ⟨gr, 6, none⟩ u6).setCell ⟨gr, 7, none⟩ u7) gr 53 #[u0, u1, u2, u3, u4, u5, u6, u7] := by
  have hne : some gr ≠ u.ownBlock := El.own_ne h.gl.own h.res (by decide)
  refine ⟨?_, set8_row u0 u1 u2 u3 u4 u5 u6 u7 h.res⟩
  exact gl_set (gl_set (gl_set (gl_set (gl_set (gl_set (gl_set (gl_set h.gl gr 0 u0 h.w0W h.nr h.br hne) gr 1 u1 h.w0W h.nr h.br hne) gr 2 u2 h.w0W h.nr h.br hne) gr 3 u3 h.w0W h.nr h.br hne) gr 4 u4 h.w0W h.nr h.br hne) gr 5 u5 h.w0W h.nr h.br hne) gr 6 u6 h.w0W h.nr h.br hne) gr 7 u7 h.w0W h.nr h.br hne
end
/-- What Report leaves: a valid report that is less than 14 days from the minute. -/
def Rpt (W : World) (b : Nat) (m : Int) (w : World) (e : Ending) (w' : World) : Prop := ∃ (k : Int) (nm : ByteArray) (t F A B C : Int) (u : Value) (L : List El.Elt.R), Vd k nm t F A B C L ∧ (m - 20160 < t ∧ t < m + 20160) ∧ e = .returned (repV k nm t F A B C u) ∧ El.Gl W b w L u w'
set_option maxRecDepth 100000 in
set_option maxHeartbeats 2000000 in
theorem report_any (W : World) (b : Nat) (w : World) (m : Int) (h : Src W b w) (m1 : 0 ≤ m) (m2 : m ≤ 52595999) :
    Calls Tryz.prog 59 #[.pointer (some ⟨b, 0, none⟩), .int .i64 m] w (Rpt W b m w) := by
  have hbl := src_lt h
  have hW := h.below.size
  have b0 := (Below.refl w.heap.size w).alloc (Nat.le_refl _) (.cells (repC 0 ⟨#[]⟩ 0 0 0 0 0 (.slice none 0 0)) 53)
  have r0 := Row.new w (repC 0 ⟨#[]⟩ 0 0 0 0 0 (.slice none 0 0)) 53
  have s0 := h.under b0
  have hgb : w.heap.size ≠ b := Nat.ne_of_gt hbl
  go_enter Tryz.func59, Tryz.ntmps59
  go_wp2_with fail
  generalize w.alloc (.cells (repC 0 ⟨#[]⟩ 0 0 0 0 0 (.slice none 0 0)) 53) = W0 at *
  refine (range_any W b _ _ _ s0 (by omega) (by omega) (by omega) (by omega)).mono ?_
  rintro e w1 ⟨k, ⟨k1, k2⟩, rfl, s1, g1⟩
  go_wp2_with fail
  refine (name_any W b _ s1).mono ?_
  rintro e w2 ⟨nm, hnm, rfl, s2, g2⟩
  go_wp2_with fail
  refine (near_any W b _ m s2 m1 m2).mono ?_
  rintro e w3 ⟨t, ⟨ht, t3, t4⟩, rfl, s3, g3⟩
  go_wp2_with fail
  refine (El.list_any W b _ s3).mono ?_
  rintro e w4 ⟨u, L, rfl, hG, hS⟩
  have hL := Lib.hid hG.vld
  have G := grown_trans (grown_trans (grown_trans (grown_below b0) g1) g2) g3
  have r3 := ((r0.grown g1 (fun e => hgb (by injection e))).grown g2 (fun e => hgb (by injection e))).grown g3 (fun e => hgb (by injection e))
  have h3 : w.heap.size ≤ w3.heap.size := G.size
  have gl4 : El.Gl W b w L u w4 := ⟨hS.src, grown_trans G hS.gro, own_base hS.own h3⟩
  have r4 := r3.grown hS.gro (fun e => hgb (by injection e))
  obtain ⟨Au, cu, rfl, -⟩ := id (El.RdIn.own hS.own)
  have ba := (Below.refl w4.heap.size w4).alloc (Nat.le_refl _) (.cells (repC k nm t 0 0 0 0 (.slice Au L.length cu)) 53)
  have I0 : Rs W b w w.heap.size w4.heap.size k nm t 0 0 0 0 (.slice Au L.length cu) L (w4.alloc (.cells (repC k nm t 0 0 0 0 (.slice Au L.length cu)) 53)) :=
    ⟨gl4.under ba, r4.alloc _, Row.new _ _ _, Nat.ne_of_lt r4.lt, Nat.le_refl _, Nat.le_of_lt r4.lt, hgb, Nat.ne_of_gt (src_lt hS.src), hW⟩
  go_upto_region 2 with fail
  refine forget (Rs W b w w.heap.size w4.heap.size k nm t 0 0 0 0 (.slice Au L.length cu) L) I0 ?_
  clear I0 ba gl4 r4 r3 G h3 hS hG s3 g3 s2 g2 s1 g1 s0 r0 b0 h hgb hbl hW
  generalize w4.heap.size = gp at *
  obtain ⟨gr, hgr⟩ : ∃ g, w.heap.size = g := ⟨_, rfl⟩
  rw [hgr]
  clear hgr
  rintro Y I
  by_cases hk : k = 1
  · subst hk
    obtain ⟨p0, p1, p2, p3, p4, p5, p6, p7⟩ := row8 I.rep
    have hV : Vd 1 nm t 0 0 0 0 L := ⟨by omega, hnm, ht, rfl, hL.out⟩
    have HV := Lib.hid hV; clear hV
    have f0 := I.res.thaw 0
    have f1 := I.res.thaw 1
    have f2 := I.res.thaw 2
    have f3 := I.res.thaw 3
    have f4 := I.res.thaw 4
    have f5 := I.res.thaw 5
    have f6 := I.res.thaw 6
    have f7 := I.res.thaw 7
    obtain ⟨q0, q1, q2, q3, q4, q5, q6, q7⟩ := row8 I.res
    have HZ := Lib.hid (I.fin (.int .i64 1) (.string nm) (.int .i64 t) (.int .i64 0) (.int .i64 0) (.int .i64 0) (.int .i64 0) (.slice Au L.length cu))
    clear I
    go_wp2_with fail
    clear f0 f1 f2 f3 f4 f5 f6 f7 q0 q1 q2 q3 q4 q5 q6 q7 p0 p1 p2 p3 p4 p5 p6 p7
    exact bodyPost_ret (v := repV 1 nm t 0 0 0 0 (.slice Au L.length cu)) (results_cell_row Tryz.results59 _ _ gr 53 _ (0, 0) _ rfl HZ.out.2 Tryz.underlying53 rfl (by kernel_rfl)) rfl ⟨1, nm, t, 0, 0, 0, 0, _, L, HV.out, ⟨t3, t4⟩, rfl, HZ.out.1⟩
  · have q : (k != 1) = true := by rw [bne_iff_ne]; exact hk
    obtain ⟨p0, p1, p2, p3, p4, p5, p6, p7⟩ := row8 I.rep
    go_wp2_with fail
    refine (place_any W b _ I.gl.src).mono ?_
    rintro e w5 ⟨F, A, B, C, hn, rfl, s5, g5⟩
    have I5 := I.step s5 g5
    have hV : Vd k nm t F A B C L := ⟨by omega, hnm, ht, by unfold plOk; rw [if_neg hk]; exact hn, hL.out⟩
    have HV := Lib.hid hV; clear hV hn
    clear I s5 g5 p0 p1 p2 p3 p4 p5 p6 p7
    obtain ⟨p0, p1, p2, p3, p4, p5, p6, p7⟩ := row8 I5.rep
    have e3 := I5.rep.thaw 3
    have e4 := I5.rep.thaw 4
    have e5 := I5.rep.thaw 5
    have e6 := I5.rep.thaw 6
    have I6 := Lib.hid (I5.put F A B C)
    clear I5
    go_upto_region 4 with fail
    refine forget (Rs W b w gr gp k nm t F A B C (.slice Au L.length cu) L) I6.out ?_
    clear I6 p0 p1 p2 p3 p4 p5 p6 p7 e3 e4 e5 e6
    rintro Z I
    obtain ⟨p0, p1, p2, p3, p4, p5, p6, p7⟩ := row8 I.rep
    have f0 := I.res.thaw 0
    have f1 := I.res.thaw 1
    have f2 := I.res.thaw 2
    have f3 := I.res.thaw 3
    have f4 := I.res.thaw 4
    have f5 := I.res.thaw 5
    have f6 := I.res.thaw 6
    have f7 := I.res.thaw 7
    obtain ⟨q0, q1, q2, q3, q4, q5, q6, q7⟩ := row8 I.res
    have HZ := Lib.hid (I.fin (.int .i64 k) (.string nm) (.int .i64 t) (.int .i64 F) (.int .i64 A) (.int .i64 B) (.int .i64 C) (.slice Au L.length cu))
    clear I
    go_wp2_with fail
    clear f0 f1 f2 f3 f4 f5 f6 f7 q0 q1 q2 q3 q4 q5 q6 q7 p0 p1 p2 p3 p4 p5 p6 p7
    exact bodyPost_ret (v := repV k nm t F A B C (.slice Au L.length cu)) (results_cell_row Tryz.results59 _ _ gr 53 _ (0, 0) _ rfl HZ.out.2 Tryz.underlying53 rfl (by kernel_rfl)) rfl ⟨k, nm, t, F, A, B, C, _, L, HV.out, ⟨t3, t4⟩, rfl, HZ.out.1⟩
end Go.Proofs.YtfnlgfacadmjpaaGreatDoor
namespace Go.Proofs.YtfnlgfacadmjpaaGreatDoor.El
open Go.RowKit
theorem rdc_app (A B : List Elt.R) : rdc (A ++ B) = rdc A ++ rdc B := by simp [rdc]
theorem rdc_len : ∀ (L : List Elt.R), (rdc L).length = L.length * 2
  | [] => rfl
  | x :: r => by
    have e : rdc (x :: r) = .int .i64 x.1 :: .int .i64 x.2 :: rdc r := rfl
    rw [e, List.length_cons, List.length_cons, rdc_len r, List.length_cons]; omega
theorem rdc_one (L : List Elt.R) : ∀ u ∈ rdc L, u.oneCell' = true := by
  intro u hu
  obtain ⟨x, -, hx⟩ := List.mem_flatMap.1 hu
  unfold encR at hx
  rcases List.mem_cons.1 hx with rfl | hx
  · rfl
  · obtain rfl := List.mem_singleton.1 hx
    rfl
/-- Where a list's cells lie. -/
def CellsAt (w : World) (g off : Nat) (L : List Elt.R) : Prop := g < w.heap.size ∧ ∀ (j : Nat) (u : Value), (rdc L)[j]? = some u → w.cell? ⟨g, off + j, none⟩ = some u
theorem CellsAt.under {w w' : World} {g off : Nat} {L : List Elt.R} (h : CellsAt w g off L) (hb : Below w.heap.size w w') : CellsAt w' g off L :=
  ⟨Nat.lt_of_lt_of_le h.1 hb.size, fun j u hu => (hb.cell (p := ⟨g, off + j, none⟩) h.1).trans (h.2 j u hu)⟩
theorem CellsAt.of {w : World} {g off : Nat} {L : List Elt.R} (hg : g < w.heap.size) (h : ∀ i (h : i < L.length), w.cell? ⟨g, off + i * 2, none⟩ = some (.int .i64 (L[i]).1) ∧ w.cell? ⟨g, off + i * 2 + 1, none⟩ = some (.int .i64 (L[i]).2)) : CellsAt w g off L := by
  refine ⟨hg, fun j u hu => ?_⟩
  have hj := (List.getElem?_eq_some_iff.1 hu).1
  rw [rdc_len] at hj
  have hi : j / 2 < L.length := by omega
  obtain ⟨c0, c1⟩ := h (j / 2) hi
  obtain ⟨r0, r1⟩ := rdc_at L (j / 2) hi
  rcases (by omega : j = j / 2 * 2 ∨ j = j / 2 * 2 + 1) with e | e
  · rw [e] at hu ⊢
    rw [r0] at hu
    injection hu with hu
    rw [c0, hu]
  · rw [e] at hu ⊢
    rw [r1] at hu
    injection hu with hu
    rw [← Nat.add_assoc, c1, hu]
theorem CellsAt.take {w : World} {g off : Nat} {L : List Elt.R} (h : CellsAt w g off L) (k : Nat) : CellsAt w g off (L.take k) := by
  refine ⟨h.1, fun j u hu => h.2 j u ?_⟩
  have e := rdc_app (L.take k) (L.drop k)
  rw [List.take_append_drop] at e
  rw [e, List.getElem?_append_left (List.getElem?_eq_some_iff.1 hu).1]
  exact hu
theorem CellsAt.drop {w : World} {g off : Nat} {L : List Elt.R} (h : CellsAt w g off L) (k : Nat) (hk : k ≤ L.length) : CellsAt w g (off + k * 2) (L.drop k) := by
  refine ⟨h.1, fun j u hu => ?_⟩
  have e := rdc_app (L.take k) (L.drop k)
  rw [List.take_append_drop] at e
  have hl : (rdc (L.take k)).length = k * 2 := by rw [rdc_len, List.length_take]; omega
  rw [Nat.add_assoc]
  refine h.2 _ u ?_
  rw [e, List.getElem?_append_right (by omega), hl, Nat.add_sub_cancel_left]
  exact hu
theorem CellsAt.adds {w : World} {g off : Nat} {L : List Elt.R} (h : CellsAt w g off L) : ∀ (j : Nat) (u : Value), (rdc L)[j]? = some u → w.cell? ((⟨g, off, none⟩ : Addr).add j) = some u := fun j u hu => by
  rw [Addr.add_lit]
  exact h.2 j u hu
theorem CellsAt.kept {w w' : World} {g off : Nat} {L : List Elt.R} {r : Option Nat} (h : CellsAt w g off L) (hg : w.grownBy w' r) (hr : r ≠ some g) : CellsAt w' g off L := by
  have hb := hg.block g h.1 (Ne.symm hr)
  refine ⟨Nat.lt_of_lt_of_le h.1 hg.size, fun j u hu => ?_⟩
  rw [← h.2 j u hu]
  unfold World.cell?
  rw [show (⟨g, off + j, none⟩ : Addr).block = g from rfl, hb]
theorem CellsAt.new (w : World) (x : Elt.R) : CellsAt (w.alloc (.cells #[.int .i64 x.1, .int .i64 x.2] 99)) w.heap.size 0 [x] := by
  have r := Row.new w #[.int .i64 x.1, .int .i64 x.2] 99
  obtain ⟨c0, c1⟩ := row2 r
  refine CellsAt.of r.lt (fun i hi => ?_)
  have hi' : i < 1 := hi
  obtain rfl : i = 0 := by omega
  exact ⟨c0, c1⟩
/-- The cells behind the k-th, wherever the slice of nothing points to. -/
theorem CellsAt.rest {w : World} {g off cap k : Nat} {M : List Elt.R} (h : CellsAt w g off M) (hc : M.length ≤ cap) (hk : k < M.length) : ∀ (j : Nat) (u : Value), (rdc (M.drop (k + 1)))[j]? = some u → w.cell? ((if cap = k + 1 then (⟨g, off, none⟩ : Addr) else ⟨g, off + (k + 1) * 2, none⟩).add j) = some u := by
  intro j u hu
  by_cases hq : cap = k + 1
  · have : M.drop (k + 1) = [] := List.drop_eq_nil_of_le (by omega)
    rw [this] at hu
    simp [rdc] at hu
  · rw [if_neg hq]
    exact (h.drop (k + 1) (by omega)).adds j u hu
theorem genH {P : Program} {ops : Array Oper} {Q : Exit → Act → World → Prop} {md : Region.Mode} {S : World → Prop} {fuel : Nat} {listed : Array Bool} {a : Act} {w : World} (R : World → Prop) (h : R w)
    (hK : ∀ X, R X → wpAnyH P md ops Q S fuel listed a X) : wpAnyH P md ops Q S fuel listed a w := hK w h
/-- APPEND TO AN OWNED ROW, NOTHING OR MORE, AS ONE STEP OF A DRAWN REGION. -/
theorem step_append_own {P : Program} {ops : Array Oper} {o : Oper} {a : Act} {w : World} {K : Act → World → Prop} {Q : Exit → Act → World → Prop} {E : Prop} (hgd : o.guard = none) (s x : Operand) (t : TypeId)
    (ho : o.op = .call { callee := .builtin .append, args := #[s, x], argTypes := #[t, t] })
    (base : Nat) (e : TypeId) (i : TypeInfo) (z : Value) (size bytes : Nat) (ht : P.underlying t = some (.slice e)) (hi : P.info? e = some i) (hz : i.zero = some z)
    (hsize : i.size = size) (hby : i.bytes = bytes) (hzs : z.cells.size = size) (hsz : 0 < size)
    (v : Value) (n : Nat) (xs : List Value) (hs : a.eval s = v) (hown : w.ownsRow base e size v n xs)
    (ad : Addr) (m c : Nat) (news : List Value) (hx : a.eval x = .slice (some ad) m c) (hl : news.length = m * size) (hnews : ∀ j u, news[j]? = some u → w.cell? (ad.add j) = some u) (h1 : ∀ u ∈ news, u.oneCell' = true)
    (h63 : n + m ≤ maxLen) (hbytes : (n + m) * bytes ≤ 140737488355328) (hbase : base ≤ w.heap.size)
    (h : ∀ v' w', w'.ownsRow base e size v' (n + m) (xs ++ news) → w.grownBy w' v.ownBlock → K (a.put o.dst v') w') :
    if Region.wanted o (yielded ops a.tmps) = true then Oper.wp P o a w K Q else E := by
  have hw : Region.wanted o (yielded ops a.tmps) = true := by simp [Region.wanted, hgd]
  rw [if_pos hw]
  obtain ⟨v', w', hr, h2, h3, -⟩ := run_append_own (P := P) w base t o.type e i z size bytes ht hi hz hsize hby hzs hsz v n xs hown ad m c news hl hnews h1 h63 hbytes hbase
  unfold Oper.wp execOp
  simp only [ho, resolve, invoke, builtin, Sem.run_bind, Sem.run_pure, Result.andThen_ok, List.map_toArray, List.map_cons, List.map_nil, hs, hx, hr]
  exact h v' w' h2 h3
/-- APPEND TO AN OWNED ROW, NOTHING OR MORE, FOR THE WALK. -/
theorem wpList_append_own' {P : Program} {ops : Array Oper} {rest : List Oper} {o : Oper} {a : Act} {w : World} {Q : Exit → Act → World → Prop} (hgd : o.guard = none) (s x : Operand) (t : TypeId)
    (ho : o.op = .call { callee := .builtin .append, args := #[s, x], argTypes := #[t, t] })
    (base : Nat) (e : TypeId) (i : TypeInfo) (z : Value) (size bytes : Nat) (ht : P.underlying t = some (.slice e)) (hi : P.info? e = some i) (hz : i.zero = some z)
    (hsize : i.size = size) (hby : i.bytes = bytes) (hzs : z.cells.size = size) (hsz : 0 < size)
    (v : Value) (n : Nat) (xs : List Value) (hs : a.eval s = v) (hown : w.ownsRow base e size v n xs)
    (ad : Addr) (m c : Nat) (news : List Value) (hx : a.eval x = .slice (some ad) m c) (hl : news.length = m * size) (hnews : ∀ j u, news[j]? = some u → w.cell? (ad.add j) = some u) (h1 : ∀ u ∈ news, u.oneCell' = true)
    (h63 : n + m ≤ maxLen) (hbytes : (n + m) * bytes ≤ 140737488355328) (hbase : base ≤ w.heap.size)
    (h : ∀ v' w', w'.ownsRow base e size v' (n + m) (xs ++ news) → w.grownBy w' v.ownBlock → wpList P ops Q rest (a.put o.dst v') w') : wpList P ops Q (o :: rest) a w := by
  refine wpList_plain hgd fun _ hK => ?_
  obtain ⟨v', w', hr, h2, h3, -⟩ := run_append_own (P := P) w base t o.type e i z size bytes ht hi hz hsize hby hzs hsz v n xs hown ad m c news hl hnews h1 h63 hbytes hbase
  unfold Oper.wp execOp
  simp only [ho, resolve, invoke, builtin, Sem.run_bind, Sem.run_pure, Result.andThen_ok, List.map_toArray, List.map_cons, List.map_nil, hs, hx, hr]
  exact hK _ _ (h v' w' h2 h3)
/-- APPEND TO A NEW LIST OF NO ELEMENTS, WHATEVER IS APPENDED, FOR THE WALK. -/
theorem wpList_append_fresh {P : Program} {ops : Array Oper} {rest : List Oper} {o : Oper} {a : Act} {w : World} {Q : Exit → Act → World → Prop} (hgd : o.guard = none) (s x : Operand) (t : TypeId)
    (ho : o.op = .call { callee := .builtin .append, args := #[s, x], argTypes := #[t, t] })
    (base : Nat) (e : TypeId) (i : TypeInfo) (z : Value) (size bytes : Nat) (ht : P.underlying t = some (.slice e)) (hi : P.info? e = some i) (hz : i.zero = some z)
    (hsize : i.size = size) (hby : i.bytes = bytes) (hzs : z.cells.size = size) (hsz : 0 < size)
    (g : Nat) (hs : a.eval s = .slice (some ⟨g, 0, none⟩) 0 0) (hown : w.ownsRow base e size (.slice (some ⟨g, 0, none⟩) 0 0) 0 [])
    (A : Option Addr) (m c : Nat) (news : List Value) (hx : a.eval x = .slice A m c) (hl : news.length = m * size) (hnone : A = none → m = 0)
    (hnews : ∀ ad, A = some ad → ∀ (j : Nat) u, news[j]? = some u → w.cell? (ad.add j) = some u) (h1 : ∀ u ∈ news, u.oneCell' = true)
    (h63 : m ≤ maxLen) (hbytes : m * bytes ≤ 140737488355328) (hbase : base ≤ w.heap.size)
    (h : ∀ v' w', w'.ownsRow base e size v' m news → w.grownBy w' (some g) → wpList P ops Q rest (a.put o.dst v') w') : wpList P ops Q (o :: rest) a w := by
  refine wpList_plain hgd fun _ hK => ?_
  cases A with
  | none =>
    obtain rfl := hnone rfl
    obtain rfl : news = [] := List.eq_nil_of_length_eq_zero (by rw [hl, Nat.zero_mul])
    have hr := run_append_nothing (P := P) w t t o.type e i ht hi (some ⟨g, 0, none⟩) 0 0 (Nat.le_refl _) (.slice none 0 c) (Go.Src.ofNil w ht c)
    unfold Oper.wp execOp
    simp only [ho, resolve, invoke, builtin, Sem.run_bind, Sem.run_pure, Result.andThen_ok, List.map_toArray, List.map_cons, List.map_nil, hs, hx, hr]
    exact hK _ _ (h _ _ hown (grown_refl _ _))
  | some ad =>
    obtain ⟨v', w', hr, h2, h3, -⟩ := run_append_own (P := P) w base t o.type e i z size bytes ht hi hz hsize hby hzs hsz _ 0 [] hown ad m c news hl (hnews ad rfl) h1 (by omega) (by rw [Nat.zero_add]; exact hbytes) hbase
    rw [Nat.zero_add, List.nil_append] at h2
    unfold Oper.wp execOp
    simp only [ho, resolve, invoke, builtin, Sem.run_bind, Sem.run_pure, Result.andThen_ok, List.map_toArray, List.map_cons, List.map_nil, hs, hx, hr]
    exact hK _ _ (h v' w' h2 h3)
theorem rdc_set : ∀ (M : List Elt.R) (j : Nat) (x : Int), j < M.length * 2 → ∃ N : List Elt.R, N.length = M.length ∧ (rdc M).set j (.int .i64 x) = rdc N
  | [], j, x, h => by simp at h
  | (a, b) :: r, 0, x, _ => ⟨(x, b) :: r, rfl, rfl⟩
  | (a, b) :: r, 1, x, _ => ⟨(a, x) :: r, rfl, rfl⟩
  | (a, b) :: r, j + 2, x, h => by
    obtain ⟨N, h1, h2⟩ := rdc_set r j x (by simp at h; omega)
    refine ⟨(a, b) :: N, by simp [h1], ?_⟩
    show Value.int .i64 a :: Value.int .i64 b :: (rdc r).set j (.int .i64 x) = _
    rw [h2]
    rfl
theorem Gl.put {W w0 w : World} {b g n cap : Nat} {M : List Elt.R} (h : Gl W b w0 M (.slice (some ⟨g, 0, none⟩) n cap) w) (hn : n = M.length) (hW : W.heap.size ≤ w0.heap.size) (j : Nat) (hj : j < M.length * 2) (x : Int) :
    ∃ N : List Elt.R, N.length = M.length ∧ Gl W b w0 N (.slice (some ⟨g, 0, none⟩) n cap) (w.setCell ⟨g, j, none⟩ (.int .i64 x)) := by
  subst hn
  obtain ⟨N, h1, h2⟩ := rdc_set M j x hj
  obtain ⟨hown, hg⟩ := h.own.stored j (.int .i64 x)
  obtain ⟨cs, hr⟩ := src_row h.src
  have hlo : w0.heap.size ≤ g := (h.own.lt g rfl).1
  refine ⟨N, h1, src_kept h.src hg (fun e => own_ne h.own hr (by decide) (by rw [← e]; rfl)) (fun i e => by injection e with e; omega), ?_, ?_⟩
  · exact ⟨hg.os.trans h.gro.os, hg.tape.trans h.gro.tape, hg.output.trans h.gro.output, Nat.le_trans h.gro.size hg.size, fun i hi hne => (hg.block i (Nat.lt_of_lt_of_le hi h.gro.size) (fun e => by injection e with e; omega)).trans (h.gro.block i hi hne)⟩
  · rw [← h2, h1]
    exact hown
theorem Gl.app {W w0 w w' : World} {b m : Nat} {M N : List Elt.R} {u v : Value} (h : Gl W b w0 M u w) (hW : W.heap.size ≤ w0.heap.size) (hm : N.length = m)
    (hown : w'.ownsRow w0.heap.size 99 2 v (M.length + m) (rdc M ++ rdc N)) (hg : w.grownBy w' u.ownBlock) : Gl W b w0 (M ++ N) v w' := by
  obtain ⟨cs, hr⟩ := src_row h.src
  have hlo : ∀ i, u.ownBlock = some i → w0.heap.size ≤ i := fun i e => (h.own.lt i e).1
  refine ⟨src_kept h.src hg (fun e => own_ne h.own hr (by decide) e.symm) (fun i e => Nat.le_trans hW (hlo i e)), ?_, by rw [rdc_app, List.length_append, hm]; exact hown⟩
  exact ⟨hg.os.trans h.gro.os, hg.tape.trans h.gro.tape, hg.output.trans h.gro.output, Nat.le_trans h.gro.size hg.size, fun i hi hne => (hg.block i (Nat.lt_of_lt_of_le hi h.gro.size) (fun e => by have := hlo i e.symm; omega)).trans (h.gro.block i hi hne)⟩
end Go.Proofs.YtfnlgfacadmjpaaGreatDoor.El
