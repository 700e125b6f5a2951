/- The contract of the reference's Cells. -/
import Derived.Test.YtejoabaanclcbaaGreatRIns
import Derived.Test.YtejoabaanclcbaaGreatQal
import Derived.Test.YtejoabaanclcbaaGreatQam
namespace Go.Proofs.YtejoabaanclcbaaGreat
open Go.RowKit Go.Maps Go.Shelf

/-- What is known while the cells are collected. -/
structure Rc (wl : World) (P : List Lat.Tr) (v : Value) (w : World) : Prop where
  below : Below wl.heap.size wl w
  ex : ∃ L, Lat.IsCels P L ∧ w.ownsRow wl.heap.size 126 3 v L.length (tcs L)
theorem Rc.under {wl w w' : World} {P : List Lat.Tr} {v : Value} (h : Rc wl P v w) (hb : Below w.heap.size w w') : Rc wl P v w' := by
  obtain ⟨L, h1, h2⟩ := h.ex
  exact ⟨h.below.trans (hb.mono h.below.size), L, h1, own_under h2 hb⟩
theorem Rc.ins {wl w w' : World} {P L : List Lat.Tr} {t : Lat.Tr} {v : Value} {e : Ending} (h : Rc wl P v w) (hL : Lat.IsCels P L) (hi : InsR w wl.heap.size L (Lat.scell t) e w') : ∃ v', e = .returned v' ∧ Rc wl (P ++ [t]) v' w' := by
  obtain ⟨g, cap, k, rfl, hk, h1, h2, hb, ho⟩ := hi
  have hl : (Lat.insC k (Lat.scell t) L).length = L.length + 1 := by unfold Lat.insC; simp; omega
  exact ⟨_, rfl, h.below.trans hb, _, Lat.insC_is hL h1 h2 hk, by rw [hl]; exact ho⟩
/-- What the reference's Cells leaves. -/
def RCelsR (W : World) (n : Nat) (e : Ending) (w : World) : Prop := ∃ v L, e = .returned (.tuple #[v, .int .i64 0]) ∧ Below W.heap.size W w ∧ Lat.IsCels (Lat.cls n 20) L ∧ w.ownsRow W.heap.size 126 3 v L.length (tcs L)
set_option maxRecDepth 100000 in
set_option maxHeartbeats 8000000 in
theorem refCells_yes (n : Nat) (w : World) (hn : Lat.frq n) :
    Calls Tryz.prog 88 #[.int .i64 n] w (RCelsR w n) := by
  have hn8 : n ≤ 8 := hn.2
  have hn0 : 1 ≤ (n : Int) ∧ (n : Int) ≤ 8 := by unfold Lat.frq at hn; omega
  obtain ⟨hn1, hn2⟩ := hn0
  have hq : 0 < (840 : Int) / (n : Int) ∧ (840 : Int) / (n : Int) ≤ 840 := ⟨(Lat.div_eq hn (A := 0) (by omega)).2.2.1, (Lat.div_eq hn (A := 0) (by omega)).2.2.2.1⟩
  obtain ⟨q0, q1⟩ := hq
  have HC3 := Lib.hid (show 10 * n * n + 2 ≤ 1000 from by have := cn_le hn; unfold cn at this; omega)
  have HN := Lib.hid hn; clear hn
  go_enter Tryz.func88, Tryz.ntmps88
  go_wp2_with fail
  refine (refNodes_yes _ _ HN.out).mono ?_
  rintro e wl ⟨gn, cpn, rfl, hbl, hown⟩
  have HND := Lib.hid (NdL.of HN.out hown)
  have HBL := Lib.hid hbl; clear hbl hown
  have N0 : Rc wl (cpre n 0 0 0) (.slice none 0 0) wl := ⟨Below.refl _ _, [], by rw [cpre_0]; exact Lat.cels_nil, World.ownsRow_nil _ _ _ _⟩
  have H0 := Lib.hid N0; clear N0
  go_upto_region 5 with fail
  generalize hqq : (840 : Int) / (n : Int) = q at *
  have HQ := Lib.hid hqq; clear hqq
  go_wp2_with fail
  go_loopw [7, 8] (fun v t wr => ∃ f : Nat, f ≤ 20 ∧ t = .int .i64 f ∧ Rc wl (cpre n f 0 0) v wr) (fun _ t _ => 20 - (intOf t).toNat)
  case atStart => exact ⟨0, by omega, rfl, H0.out⟩
  case round =>
    clear H0
    obtain ⟨f, hf, rfl, M⟩ := hrel
    by_cases hlt : f < 20
    · have HM := Lib.hid M; clear M
      have f1 : (f : Int) < 20 := by omega
      go_wp2_with fail
      go_loopw [7, 9] (fun v t wr => ∃ a : Nat, a ≤ n ∧ t = .int .i64 (wd n a) ∧ Rc wl (cpre n f a 0) v wr ∧ 0 ≤ wd n a ∧ wd n a ≤ 840) (fun _ t _ => 841 - (intOf t).toNat)
      case atStart => exact ⟨0, by omega, by rw [(wd_step (a := 0) HN.out).2.2.1], HM.out, by rw [(wd_step (a := 0) HN.out).2.2.1]; omega, by rw [(wd_step (a := 0) HN.out).2.2.1]; omega⟩
      case round =>
        clear HM
        obtain ⟨a, ha, rfl, M, a0, a1⟩ := hrel
        have sa : wd n a + q = wd n (a + 1) := by rw [← HQ.out]; exact (wd_step HN.out).1
        have hae : wd n (a + 1) ≤ 840 ↔ a + 1 ≤ n := (wd_le (b := 0) HN.out).2.1
        have hax : wd n a ≤ 840 - q ↔ a + 1 ≤ n := by rw [← hae]; omega
        have SA := Lib.hid sa; clear sa hae
        by_cases hla : a + 1 ≤ n
        · have a2 : wd n a ≤ 840 - q := hax.2 hla
          have HM := Lib.hid M; clear M hax
          go_wp2_with fail
          go_loopw [7, 10] (fun v t wr => ∃ b : Nat, b ≤ n - a ∧ t = .int .i64 (wd n b) ∧ Rc wl (cpre n f a b) v wr ∧ 0 ≤ wd n b ∧ wd n b ≤ 840) (fun _ t _ => 841 - (intOf t).toNat)
          case atStart => exact ⟨0, by omega, by rw [(wd_step (a := 0) HN.out).2.2.1], HM.out, by rw [(wd_step (a := 0) HN.out).2.2.1]; omega, by rw [(wd_step (a := 0) HN.out).2.2.1]; omega⟩
          case round =>
            clear HM
            obtain ⟨b, hb, rfl, M, b0, b1⟩ := hrel
            have sb : wd n b + q = wd n (b + 1) := by rw [← HQ.out]; exact (wd_step HN.out).1
            have h1 : wd n a + wd n (b + 1) ≤ 840 ↔ a + (b + 1) ≤ n := (wd_le HN.out).1
            have hbx : wd n a + wd n b ≤ 840 - q ↔ a + (b + 1) ≤ n := by rw [← h1]; omega
            have h2 : wd n (a + 1) + wd n (b + 1) ≤ 840 ↔ a + 1 + (b + 1) ≤ n := (wd_le HN.out).1
            have hby : wd n a + wd n b ≤ 840 - 2 * q ↔ a + 1 + (b + 1) ≤ n := by rw [← h2]; have := SA.out; omega
            have SB := Lib.hid sb; clear sb h1 h2
            have HBY := Lib.hid hby; clear hby
            by_cases hlb : a + (b + 1) ≤ n
            · have b2 : wd n a + wd n b ≤ 840 - q := hbx.2 hlb
              have HUP := Lib.hid (Lat.cls_lt HN.out (Lat.cls_mem.2 ⟨f, a, b, hlt, by omega, .inl rfl⟩))
              have HLL := Lib.hid (show (cpre n f a b).length ≤ 2000 from cpre_len hn8 hlt (by omega) (by omega))
              have HB1 := Lib.hid (show wd n (b + 1) ≤ 840 from (wd_le (b := 0) HN.out).2.1.2 (by omega))
              have HB0 := Lib.hid (show 0 ≤ wd n (b + 1) from (wd_step HN.out).2.1)
              have HM := Lib.hid M; clear M hbx
              go_wp2_with fail
              rw [SA.out]
              refine (at_any n f (a + 1) (b) gn cpn _ HN.out hlt (by omega) (HND.out.under HM.out.below)).mono ?_
              rintro e w1 ⟨rfl, hb1⟩
              have H1 := Lib.hid (HM.out.under hb1); clear hb1 HM
              go_wp2_with fail
              rw [SB.out]
              refine (at_any n f (a) (b + 1) gn cpn _ HN.out hlt (by omega) (HND.out.under H1.out.below)).mono ?_
              rintro e w2 ⟨rfl, hb2⟩
              have H2 := Lib.hid (H1.out.under hb2); clear hb2 H1
              go_wp2_with fail
              refine (at_any n f (a) (b) gn cpn _ HN.out hlt (by omega) (HND.out.under H2.out.below)).mono ?_
              rintro e w3 ⟨rfl, hb3⟩
              have H3 := Lib.hid (H2.out.under hb3); clear hb3 H2
              go_wp2_with fail
              refine (refCell_any _ _ _ _ (Nat.le_trans (Nat.le_of_lt HUP.out.1) HC3.out) (Nat.le_trans (Nat.le_of_lt HUP.out.2.1) HC3.out) (Nat.le_trans (Nat.le_of_lt HUP.out.2.2) HC3.out)).mono ?_
              rintro e w4 ⟨rfl, hb4⟩
              have H4 := Lib.hid (H3.out.under hb4); clear hb4 H3
              go_wp2_with fail
              obtain ⟨L5, hL5, ho5⟩ := H4.out.ex
              refine (insert_any wl.heap.size L5 (Lat.scell (Lat.up n f a b)) _ _ H4.out.below.size ho5 (by rw [Lat.cels_len hL5]; have := HLL.out; simp; omega)).mono ?_
              rintro e w5 hI
              obtain ⟨v5, rfl, h5⟩ := H4.out.ins hL5 hI
              have H5 := Lib.hid h5; clear h5 hI hL5 ho5 H4
              clear L5
              by_cases hdn : a + 1 + (b + 1) ≤ n
              · have b3 : wd n a + wd n b ≤ 840 - 2 * q := HBY.out.2 hdn
                have HDN := Lib.hid (Lat.cls_lt HN.out (Lat.cls_mem.2 ⟨f, a, b, hlt, by omega, .inr ⟨by omega, rfl⟩⟩))
                go_wp2_with fail
                rw [SB.out]
                refine (at_any n f (a) (b + 1) gn cpn _ HN.out hlt (by omega) (HND.out.under H5.out.below)).mono ?_
                rintro e w11 ⟨rfl, hb11⟩
                have H11 := Lib.hid (H5.out.under hb11); clear hb11 H5
                go_wp2_with fail
                rw [SA.out]
                refine (at_any n f (a + 1) (b) gn cpn _ HN.out hlt (by omega) (HND.out.under H11.out.below)).mono ?_
                rintro e w12 ⟨rfl, hb12⟩
                have H12 := Lib.hid (H11.out.under hb12); clear hb12 H11
                go_wp2_with fail
                rw [SA.out]
                rw [SB.out]
                refine (at_any n f (a + 1) (b + 1) gn cpn _ HN.out hlt (by omega) (HND.out.under H12.out.below)).mono ?_
                rintro e w13 ⟨rfl, hb13⟩
                have H13 := Lib.hid (H12.out.under hb13); clear hb13 H12
                go_wp2_with fail
                refine (refCell_any _ _ _ _ (Nat.le_trans (Nat.le_of_lt HDN.out.1) HC3.out) (Nat.le_trans (Nat.le_of_lt HDN.out.2.1) HC3.out) (Nat.le_trans (Nat.le_of_lt HDN.out.2.2) HC3.out)).mono ?_
                rintro e w14 ⟨rfl, hb14⟩
                have H14 := Lib.hid (H13.out.under hb14); clear hb14 H13
                go_wp2_with fail
                obtain ⟨L15, hL15, ho15⟩ := H14.out.ex
                refine (insert_any wl.heap.size L15 (Lat.scell (Lat.dn n f a b)) _ _ H14.out.below.size ho15 (by rw [Lat.cels_len hL15]; have := HLL.out; simp; omega)).mono ?_
                rintro e w15 hI
                obtain ⟨v15, rfl, h15⟩ := H14.out.ins hL15 hI
                have H15 := Lib.hid h15; clear h15 hI hL15 ho15 H14
                clear L15
                have HP : Hid (Rc wl (cpre n f a (b + 1)) v15 w15) := Lib.hid (by rw [cpre_b]; unfold Lat.ctri; rw [if_pos (by omega)]; have := H15.out; rwa [List.append_assoc] at this)
                clear H15
                go_wp2_with fail
                go_roundw
                case rel => exact ⟨b + 1, by omega, by rw [SB.out], HP.out, HB0.out, HB1.out⟩
                case measure => simp [intOf]; omega
              · have b3 : ¬ (wd n a + wd n b ≤ 840 - 2 * q) := fun h => hdn (HBY.out.1 h)
                have HP : Hid (Rc wl (cpre n f a (b + 1)) v5 w5) := Lib.hid (by rw [cpre_b]; unfold Lat.ctri; rw [if_neg (by omega)]; exact H5.out)
                clear H5
                go_wp2_with fail
                go_roundw
                case rel => exact ⟨b + 1, by omega, by rw [SB.out], HP.out, HB0.out, HB1.out⟩
                case measure => simp [intOf]; omega
            · have b2 : ¬ (wd n a + wd n b ≤ 840 - q) := fun h => hlb (hbx.1 h)
              have hbe : b = n - a := by omega
              have HA1 := Lib.hid (show wd n (a + 1) ≤ 840 from (wd_le (b := 0) HN.out).2.1.2 (by omega))
              have HA0 := Lib.hid (show 0 ≤ wd n (a + 1) from (wd_step HN.out).2.1)
              have HP : Hid (Rc wl (cpre n f (a + 1) 0) _ wr) := Lib.hid (by rw [← cpre_a, ← hbe]; exact M)
              clear M hbe hbx
              go_wp2_with fail
              go_roundw
              case rel => exact ⟨a + 1, by omega, by rw [SA.out], HP.out, HA0.out, HA1.out⟩
              case measure => simp [intOf]; omega
        · have a2 : ¬ (wd n a ≤ 840 - q) := fun h => hla (hax.1 h)
          have hae : a = n := by omega
          have HP : Hid (Rc wl (cpre n (f + 1) 0 0) _ wr) := Lib.hid (by rw [← cpre_f]; have := M; rw [hae] at this; exact this)
          clear M hae hax
          go_wp2_with fail
          go_roundw
          case rel => exact ⟨f + 1, by omega, by go_num, HP.out⟩
          case measure => simp [intOf]; omega
    · have f1 : ¬ ((f : Int) < 20) := by omega
      obtain rfl : f = 20 := by omega
      rw [cpre_all] at M
      have HM := Lib.hid M; clear M
      go_wp2_with fail
      go_ret2
      obtain ⟨L, hL, ho⟩ := HM.out.ex
      exact ⟨_, L, rfl, HBL.out.trans (HM.out.below.mono HBL.out.size), hL, ⟨ho.1, ho.2.imp id (fun ⟨g, c, cur, e, hb, r⟩ => ⟨g, c, cur, e, Nat.le_trans HBL.out.size hb, r⟩)⟩⟩
end Go.Proofs.YtejoabaanclcbaaGreat


