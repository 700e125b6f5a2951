/- Texts of this proof. -/
import Derived.Test.YtejoabaanclcbaaGreatRIns
import Derived.Test.YtejoabaanclcbaaGreatQal
import Derived.Test.YtejoabaanclcbaaGreatQam
import Derived.Test.YtejoabaanclcbaaGreatRFrl
import Derived.Test.YtejoabaanclcbaaGreatQan
import Derived.Test.YtejoabaanclcbaaGreatQaa
import Derived.Test.YtejoabaanclcbaaGreatQai
namespace Go.Proofs.YtejoabaanclcbaaGreat
open Go.RowKit Go.Maps Go.Shelf

/-- What is known while the cells are collected. -/
structure Rc (wl : World) (P : List Lat.Tr) (v : Value) (w : World) : Prop where
  below : Below wl.heap.size wl w
  ex : ∃ L, Lat.IsCels P L ∧ w.ownsRow wl.heap.size 126 3 v L.length (tcs L)
theorem Rc.under {wl w w' : World} {P : List Lat.Tr} {v : Value} (h : Rc wl P v w) (hb : Below w.heap.size w w') : Rc wl P v w' := by
  obtain ⟨L, h1, h2⟩ := h.ex
  exact ⟨h.below.trans (hb.mono h.below.size), L, h1, own_under h2 hb⟩
theorem Rc.ins {wl w w' : World} {P L : List Lat.Tr} {t : Lat.Tr} {v : Value} {e : Ending} (h : Rc wl P v w) (hL : Lat.IsCels P L) (hi : InsR w wl.heap.size L (Lat.scell t) e w') : ∃ v', e = .returned v' ∧ Rc wl (P ++ [t]) v' w' := by
  obtain ⟨g, cap, k, rfl, hk, h1, h2, hb, ho⟩ := hi
  have hl : (Lat.insC k (Lat.scell t) L).length = L.length + 1 := by unfold Lat.insC; simp; omega
  exact ⟨_, rfl, h.below.trans hb, _, Lat.insC_is hL h1 h2 hk, by rw [hl]; exact ho⟩
/-- What the reference's Cells leaves. -/
def RCelsR (W : World) (n : Nat) (e : Ending) (w : World) : Prop := ∃ v L, e = .returned (.tuple #[v, .int .i64 0]) ∧ Below W.heap.size W w ∧ Lat.IsCels (Lat.cls n 20) L ∧ w.ownsRow W.heap.size 126 3 v L.length (tcs L)
set_option maxRecDepth 100000 in
set_option maxHeartbeats 8000000 in
theorem refCells_yes (n : Nat) (w : World) (hn : Lat.frq n) :
    Calls Tryz.prog 88 #[.int .i64 n] w (RCelsR w n) := by
  have hn8 : n ≤ 8 := hn.2
  have hn0 : 1 ≤ (n : Int) ∧ (n : Int) ≤ 8 := by unfold Lat.frq at hn; omega
  obtain ⟨hn1, hn2⟩ := hn0
  have hq : 0 < (840 : Int) / (n : Int) ∧ (840 : Int) / (n : Int) ≤ 840 := ⟨(Lat.div_eq hn (A := 0) (by omega)).2.2.1, (Lat.div_eq hn (A := 0) (by omega)).2.2.2.1⟩
  obtain ⟨q0, q1⟩ := hq
  have HC3 := Lib.hid (show 10 * n * n + 2 ≤ 1000 from by have := cn_le hn; unfold cn at this; omega)
  have HN := Lib.hid hn; clear hn
  go_enter Tryz.func88, Tryz.ntmps88
  go_wp2_with fail
  refine (refNodes_yes _ _ HN.out).mono ?_
  rintro e wl ⟨gn, cpn, rfl, hbl, hown⟩
  have HND := Lib.hid (NdL.of HN.out hown)
  have HBL := Lib.hid hbl; clear hbl hown
  have N0 : Rc wl (cpre n 0 0 0) (.slice none 0 0) wl := ⟨Below.refl _ _, [], by rw [cpre_0]; exact Lat.cels_nil, World.ownsRow_nil _ _ _ _⟩
  have H0 := Lib.hid N0; clear N0
  go_upto_region 5 with fail
  generalize hqq : (840 : Int) / (n : Int) = q at *
  have HQ := Lib.hid hqq; clear hqq
  go_wp2_with fail
  go_loopw [7, 8] (fun v t wr => ∃ f : Nat, f ≤ 20 ∧ t = .int .i64 f ∧ Rc wl (cpre n f 0 0) v wr) (fun _ t _ => 20 - (intOf t).toNat)
  case atStart => exact ⟨0, by omega, rfl, H0.out⟩
  case round =>
    clear H0
    obtain ⟨f, hf, rfl, M⟩ := hrel
    by_cases hlt : f < 20
    · have HM := Lib.hid M; clear M
      have f1 : (f : Int) < 20 := by omega
      go_wp2_with fail
      go_loopw [7, 9] (fun v t wr => ∃ a : Nat, a ≤ n ∧ t = .int .i64 (wd n a) ∧ Rc wl (cpre n f a 0) v wr ∧ 0 ≤ wd n a ∧ wd n a ≤ 840) (fun _ t _ => 841 - (intOf t).toNat)
      case atStart => exact ⟨0, by omega, by rw [(wd_step (a := 0) HN.out).2.2.1], HM.out, by rw [(wd_step (a := 0) HN.out).2.2.1]; omega, by rw [(wd_step (a := 0) HN.out).2.2.1]; omega⟩
      case round =>
        clear HM
        obtain ⟨a, ha, rfl, M, a0, a1⟩ := hrel
        have sa : wd n a + q = wd n (a + 1) := by rw [← HQ.out]; exact (wd_step HN.out).1
        have hae : wd n (a + 1) ≤ 840 ↔ a + 1 ≤ n := (wd_le (b := 0) HN.out).2.1
        have hax : wd n a ≤ 840 - q ↔ a + 1 ≤ n := by rw [← hae]; omega
        have SA := Lib.hid sa; clear sa hae
        by_cases hla : a + 1 ≤ n
        · have a2 : wd n a ≤ 840 - q := hax.2 hla
          have HM := Lib.hid M; clear M hax
          go_wp2_with fail
          go_loopw [7, 10] (fun v t wr => ∃ b : Nat, b ≤ n - a ∧ t = .int .i64 (wd n b) ∧ Rc wl (cpre n f a b) v wr ∧ 0 ≤ wd n b ∧ wd n b ≤ 840) (fun _ t _ => 841 - (intOf t).toNat)
          case atStart => exact ⟨0, by omega, by rw [(wd_step (a := 0) HN.out).2.2.1], HM.out, by rw [(wd_step (a := 0) HN.out).2.2.1]; omega, by rw [(wd_step (a := 0) HN.out).2.2.1]; omega⟩
          case round =>
            clear HM
            obtain ⟨b, hb, rfl, M, b0, b1⟩ := hrel
            have sb : wd n b + q = wd n (b + 1) := by rw [← HQ.out]; exact (wd_step HN.out).1
            have h1 : wd n a + wd n (b + 1) ≤ 840 ↔ a + (b + 1) ≤ n := (wd_le HN.out).1
            have hbx : wd n a + wd n b ≤ 840 - q ↔ a + (b + 1) ≤ n := by rw [← h1]; omega
            have h2 : wd n (a + 1) + wd n (b + 1) ≤ 840 ↔ a + 1 + (b + 1) ≤ n := (wd_le HN.out).1
            have hby : wd n a + wd n b ≤ 840 - 2 * q ↔ a + 1 + (b + 1) ≤ n := by rw [← h2]; have := SA.out; omega
            have SB := Lib.hid sb; clear sb h1 h2
            have HBY := Lib.hid hby; clear hby
            by_cases hlb : a + (b + 1) ≤ n
            · have b2 : wd n a + wd n b ≤ 840 - q := hbx.2 hlb
              have HUP := Lib.hid (Lat.cls_lt HN.out (Lat.cls_mem.2 ⟨f, a, b, hlt, by omega, .inl rfl⟩))
              have HLL := Lib.hid (show (cpre n f a b).length ≤ 2000 from cpre_len hn8 hlt (by omega) (by omega))
              have HB1 := Lib.hid (show wd n (b + 1) ≤ 840 from (wd_le (b := 0) HN.out).2.1.2 (by omega))
              have HB0 := Lib.hid (show 0 ≤ wd n (b + 1) from (wd_step HN.out).2.1)
              have HM := Lib.hid M; clear M hbx
              go_wp2_with fail
              rw [SA.out]
              refine (at_any n f (a + 1) (b) gn cpn _ HN.out hlt (by omega) (HND.out.under HM.out.below)).mono ?_
              rintro e w1 ⟨rfl, hb1⟩
              have H1 := Lib.hid (HM.out.under hb1); clear hb1 HM
              go_wp2_with fail
              rw [SB.out]
              refine (at_any n f (a) (b + 1) gn cpn _ HN.out hlt (by omega) (HND.out.under H1.out.below)).mono ?_
              rintro e w2 ⟨rfl, hb2⟩
              have H2 := Lib.hid (H1.out.under hb2); clear hb2 H1
              go_wp2_with fail
              refine (at_any n f (a) (b) gn cpn _ HN.out hlt (by omega) (HND.out.under H2.out.below)).mono ?_
              rintro e w3 ⟨rfl, hb3⟩
              have H3 := Lib.hid (H2.out.under hb3); clear hb3 H2
              go_wp2_with fail
              refine (refCell_any _ _ _ _ (Nat.le_trans (Nat.le_of_lt HUP.out.1) HC3.out) (Nat.le_trans (Nat.le_of_lt HUP.out.2.1) HC3.out) (Nat.le_trans (Nat.le_of_lt HUP.out.2.2) HC3.out)).mono ?_
              rintro e w4 ⟨rfl, hb4⟩
              have H4 := Lib.hid (H3.out.under hb4); clear hb4 H3
              go_wp2_with fail
              obtain ⟨L5, hL5, ho5⟩ := H4.out.ex
              refine (insert_any wl.heap.size L5 (Lat.scell (Lat.up n f a b)) _ _ H4.out.below.size ho5 (by rw [Lat.cels_len hL5]; have := HLL.out; simp; omega)).mono ?_
              rintro e w5 hI
              obtain ⟨v5, rfl, h5⟩ := H4.out.ins hL5 hI
              have H5 := Lib.hid h5; clear h5 hI hL5 ho5 H4
              clear L5
              by_cases hdn : a + 1 + (b + 1) ≤ n
              · have b3 : wd n a + wd n b ≤ 840 - 2 * q := HBY.out.2 hdn
                have HDN := Lib.hid (Lat.cls_lt HN.out (Lat.cls_mem.2 ⟨f, a, b, hlt, by omega, .inr ⟨by omega, rfl⟩⟩))
                go_wp2_with fail
                rw [SB.out]
                refine (at_any n f (a) (b + 1) gn cpn _ HN.out hlt (by omega) (HND.out.under H5.out.below)).mono ?_
                rintro e w11 ⟨rfl, hb11⟩
                have H11 := Lib.hid (H5.out.under hb11); clear hb11 H5
                go_wp2_with fail
                rw [SA.out]
                refine (at_any n f (a + 1) (b) gn cpn _ HN.out hlt (by omega) (HND.out.under H11.out.below)).mono ?_
                rintro e w12 ⟨rfl, hb12⟩
                have H12 := Lib.hid (H11.out.under hb12); clear hb12 H11
                go_wp2_with fail
                rw [SA.out]
                rw [SB.out]
                refine (at_any n f (a + 1) (b + 1) gn cpn _ HN.out hlt (by omega) (HND.out.under H12.out.below)).mono ?_
                rintro e w13 ⟨rfl, hb13⟩
                have H13 := Lib.hid (H12.out.under hb13); clear hb13 H12
                go_wp2_with fail
                refine (refCell_any _ _ _ _ (Nat.le_trans (Nat.le_of_lt HDN.out.1) HC3.out) (Nat.le_trans (Nat.le_of_lt HDN.out.2.1) HC3.out) (Nat.le_trans (Nat.le_of_lt HDN.out.2.2) HC3.out)).mono ?_
                rintro e w14 ⟨rfl, hb14⟩
                have H14 := Lib.hid (H13.out.under hb14); clear hb14 H13
                go_wp2_with fail
                obtain ⟨L15, hL15, ho15⟩ := H14.out.ex
                refine (insert_any wl.heap.size L15 (Lat.scell (Lat.dn n f a b)) _ _ H14.out.below.size ho15 (by rw [Lat.cels_len hL15]; have := HLL.out; simp; omega)).mono ?_
                rintro e w15 hI
                obtain ⟨v15, rfl, h15⟩ := H14.out.ins hL15 hI
                have H15 := Lib.hid h15; clear h15 hI hL15 ho15 H14
                clear L15
                have HP : Hid (Rc wl (cpre n f a (b + 1)) v15 w15) := Lib.hid (by rw [cpre_b]; unfold Lat.ctri; rw [if_pos (by omega)]; have := H15.out; rwa [List.append_assoc] at this)
                clear H15
                go_wp2_with fail
                go_roundw
                case rel => exact ⟨b + 1, by omega, by rw [SB.out], HP.out, HB0.out, HB1.out⟩
                case measure => simp [intOf]; omega
              · have b3 : ¬ (wd n a + wd n b ≤ 840 - 2 * q) := fun h => hdn (HBY.out.1 h)
                have HP : Hid (Rc wl (cpre n f a (b + 1)) v5 w5) := Lib.hid (by rw [cpre_b]; unfold Lat.ctri; rw [if_neg (by omega)]; exact H5.out)
                clear H5
                go_wp2_with fail
                go_roundw
                case rel => exact ⟨b + 1, by omega, by rw [SB.out], HP.out, HB0.out, HB1.out⟩
                case measure => simp [intOf]; omega
            · have b2 : ¬ (wd n a + wd n b ≤ 840 - q) := fun h => hlb (hbx.1 h)
              have hbe : b = n - a := by omega
              have HA1 := Lib.hid (show wd n (a + 1) ≤ 840 from (wd_le (b := 0) HN.out).2.1.2 (by omega))
              have HA0 := Lib.hid (show 0 ≤ wd n (a + 1) from (wd_step HN.out).2.1)
              have HP : Hid (Rc wl (cpre n f (a + 1) 0) _ wr) := Lib.hid (by rw [← cpre_a, ← hbe]; exact M)
              clear M hbe hbx
              go_wp2_with fail
              go_roundw
              case rel => exact ⟨a + 1, by omega, by rw [SA.out], HP.out, HA0.out, HA1.out⟩
              case measure => simp [intOf]; omega
        · have a2 : ¬ (wd n a ≤ 840 - q) := fun h => hla (hax.1 h)
          have hae : a = n := by omega
          have HP : Hid (Rc wl (cpre n (f + 1) 0 0) _ wr) := Lib.hid (by rw [← cpre_f]; have := M; rw [hae] at this; exact this)
          clear M hae hax
          go_wp2_with fail
          go_roundw
          case rel => exact ⟨f + 1, by omega, by go_num, HP.out⟩
          case measure => simp [intOf]; omega
    · have f1 : ¬ ((f : Int) < 20) := by omega
      obtain rfl : f = 20 := by omega
      rw [cpre_all] at M
      have HM := Lib.hid M; clear M
      go_wp2_with fail
      go_ret2
      obtain ⟨L, hL, ho⟩ := HM.out.ex
      exact ⟨_, L, rfl, HBL.out.trans (HM.out.below.mono HBL.out.size), hL, ⟨ho.1, ho.2.imp id (fun ⟨g, c, cur, e, hb, r⟩ => ⟨g, c, cur, e, Nat.le_trans HBL.out.size hb, r⟩)⟩⟩
end Go.Proofs.YtejoabaanclcbaaGreat



namespace Go.Proofs.YtejoabaanclcbaaGreat
open Go.RowKit Go.Maps Go.Shelf

/-- What around leaves. -/
def AroundR (W : World) (n : Nat) (e : Ending) (w : World) : Prop := ∃ g cap, e = .returned (.slice (some ⟨g, 0, none⟩) (cn n) cap) ∧ cn n ≤ cap ∧ cap ≤ 9223372036854775807 ∧ Below W.heap.size W w ∧ Nb w g n
/-- around answers as it should. -/
def Arn : Prop := ∀ (n : Nat) (w : World), Lat.frq n → Calls Tryz.prog 64 #[.int .i64 (n : Int)] w (AroundR w n)
end Go.Proofs.YtejoabaanclcbaaGreat



namespace Go.Proofs.YtejoabaanclcbaaGreat
open Go.RowKit Go.Maps Go.Shelf

end Go.Proofs.YtejoabaanclcbaaGreat



namespace Go.Proofs.YtejoabaanclcbaaGreat
open Go.RowKit Go.Maps Go.Shelf

theorem Lat.nbs_some {n a : Nat} (h : Lat.frq n) (ha : a < 10 * n * n + 2) : 0 < (Lat.nbs n a).length := by
  obtain ⟨b, hb, hne⟩ : ∃ b, b < 10 * n * n + 2 ∧ a ≠ b := by
    rcases Nat.eq_zero_or_pos a with h0 | h0
    · exact ⟨1, by omega, by omega⟩
    · exact ⟨0, by omega, by omega⟩
  obtain ⟨d, hd⟩ := Lat.dist_all h ha hb
  have h1 : 1 ≤ d := by
    rcases Nat.eq_zero_or_pos d with h0 | h0
    · exact absurd ((Lat.dist_zero hd).1 h0) hne
    · exact h0
  obtain ⟨y, hy⟩ := Lat.dist_pre hd 1 h1
  exact List.length_pos_of_mem ((Lat.dist_near h ha hy).1 rfl)
theorem below_new1 {w w' : World} (hg : w.grownBy w' none) : Below w.heap.size w w' := (Below.refl _ w).grown hg (Nat.le_refl _) (by simp)
/-- A list of numbers as a value: nil, or in a block that is not go. -/
def NmJ (w : World) (go : Nat) (v : Value) (l : List Nat) : Prop := (l = [] ∧ v = .slice none 0 0) ∨ ∃ b cap, v = .slice (some ⟨b, 0, none⟩) l.length cap ∧ 0 < l.length ∧ l.length ≤ cap ∧ cap ≤ 9223372036854775807 ∧ b ≠ go ∧ Cs w b l
theorem NmJ.under {w w' : World} {x : Nat} {v : Value} {l : List Nat} (h : NmJ w x v l) (hb : Below w.heap.size w w') : NmJ w' x v l := by
  rcases h with h | ⟨b, cap, h1, h2, h3, h4, h5, h6⟩
  · exact .inl h
  · exact .inr ⟨b, cap, h1, h2, h3, h4, h5, h6.under hb⟩
theorem NmJ.grown {w w' : World} {x : Nat} {v : Value} {l : List Nat} (h : NmJ w x v l) (hb : w.grownBy w' (some x)) : NmJ w' x v l := by
  rcases h with h | ⟨b, cap, h1, h2, h3, h4, h5, h6⟩
  · exact .inl h
  · exact .inr ⟨b, cap, h1, h2, h3, h4, h5, h6.grown hb (fun e => h5 (Option.some.inj e))⟩
theorem nmj_own {w : World} {base n x : Nat} {e : TypeId} {v : Value} {l : List Nat} (h : w.ownsRow base e 1 v n (zc l)) (hn : n = l.length) (hp : 0 < l.length) (hx : x < base) : NmJ w x v l := by
  have h' := h
  rcases h.2 with ⟨_, h0⟩ | ⟨g, cap, cur, rfl, hb, hh, hle, hmax, _⟩
  · omega
  · exact .inr ⟨g, cap, by rw [hn], hp, by omega, by unfold maxLen at hmax; omega, by omega, cs_of_own h' hn⟩
/-- The lists behind the pairs P. -/
structure Ar (W : World) (n go : Nat) (P : List (Nat × Nat)) (w : World) : Prop where
  below : Below W.heap.size W w
  far : W.heap.size ≤ go
  tab : ∃ cs, Row w go 23 cs ∧ cs.size = cn n ∧ ∀ i, i < cn n → ∃ v l, cs[i]? = some v ∧ NmJ w go v l ∧ Lat.NbOf P i l
  sm : ∀ p ∈ P, p.2 < cn n
section
variable {W w w' : World} {n go : Nat} {P : List (Nat × Nat)}
theorem Ar.lt (h : Ar W n go P w) : go < w.heap.size := by
  obtain ⟨cs, h1, -⟩ := h.tab
  exact h1.lt
theorem Ar.at_ (h : Ar W n go P w) {i : Nat} (hi : i < cn n) : ∃ v l, w.cell? ⟨go, i, none⟩ = some v ∧ w.frozen? ⟨go, i, none⟩ = false ∧ NmJ w go v l ∧ Lat.NbOf P i l := by
  obtain ⟨cs, h1, h2, h3⟩ := h.tab
  obtain ⟨v, l, e1, e2, e3⟩ := h3 i hi
  exact ⟨v, l, (h1.cell i).trans e1, h1.thaw i, e2, e3⟩
theorem Ar.under (h : Ar W n go P w) (hb : Below w.heap.size w w') : Ar W n go P w' := by
  obtain ⟨cs, h1, h2, h3⟩ := h.tab
  refine ⟨h.below.trans (hb.mono h.below.size), h.far, ⟨cs, h1.under hb, h2, fun i hi => ?_⟩, h.sm⟩
  obtain ⟨v, l, e1, e2, e3⟩ := h3 i hi
  exact ⟨v, l, e1, e2.under hb, e3⟩
theorem sm_snoc {m a b : Nat} {P : List (Nat × Nat)} (h : ∀ p ∈ P, p.2 < m) (hb : b < m) : ∀ p ∈ P ++ [(a, b)], p.2 < m := fun p hp => by
  rcases List.mem_append.1 hp with hp | hp
  · exact h p hp
  · rw [List.mem_singleton.1 hp]; exact hb
theorem Ar.len (h : Ar W n go P w) {a : Nat} {l : List Nat} (hl : Lat.NbOf P a l) : l.length ≤ cn n :=
  Lat.len_lt (hl.1.imp Nat.ne_of_lt) (fun x hx => h.sm (a, x) ((hl.2 x).1 hx))
theorem Ar.start (w : World) (n : Nat) : Ar w n w.heap.size [] (w.alloc (.cells (madeCells #[.slice none 0 0] (cn n)) 23)) :=
  ⟨(Below.refl _ _).alloc (Nat.le_refl _) _, Nat.le_refl _, ⟨_, Row.new _ _ _, size_madeCells _ _, fun i hi => ⟨_, [], by simp [madeCells, hi, Nat.mod_one], .inl ⟨rfl, rfl⟩, Lat.nbof_nil i⟩⟩, fun p hp => by cases hp⟩
theorem Ar.know (h : Ar W n go P w) {a b : Nat} (hbn : b < cn n) (hk : ∀ l, Lat.NbOf P a l → b ∈ l) : Ar W n go (P ++ [(a, b)]) w := by
  obtain ⟨cs, h1, h2, h3⟩ := h.tab
  refine ⟨h.below, h.far, ⟨cs, h1, h2, fun i hi => ?_⟩, sm_snoc h.sm hbn⟩
  obtain ⟨v, l, e1, e2, e3⟩ := h3 i hi
  refine ⟨v, l, e1, e2, ?_⟩
  by_cases e : a = i
  · subst e; exact Lat.nbof_known e3 (hk l e3)
  · exact Lat.nbof_other e3 e
theorem Ar.put (h : Ar W n go P w) {a b k : Nat} {v : Value} {l : List Nat} (ha : a < cn n) (hbn : b < cn n) (hv : NmJ w go v (Lat.insN k b l)) (hl : Lat.NbOf P a l) (h1 : ∀ i (h : i < l.length), i < k → l[i] < b) (h2 : ∀ h : k < l.length, b < l[k]) (hk : k ≤ l.length) : Ar W n go (P ++ [(a, b)]) (w.setCell ⟨go, a, none⟩ v) := by
  obtain ⟨cs, r1, r2, r3⟩ := h.tab
  have hg := grown_one w go a v
  refine ⟨below_by h.below h.below.size h.far hg, h.far, ⟨_, r1.put a v, by simpa using r2, fun i hi => ?_⟩, sm_snoc h.sm hbn⟩
  by_cases e : i = a
  · subst e
    exact ⟨v, _, by rw [Array.getElem?_setIfInBounds, if_pos rfl, if_pos (by omega)], hv.grown hg, Lat.nbof_new hl h1 h2 hk⟩
  · obtain ⟨v', l', e1, e2, e3⟩ := r3 i hi
    exact ⟨v', l', by rw [Array.getElem?_setIfInBounds, if_neg (fun e' => e e'.symm)]; exact e1, e2.grown hg, Lat.nbof_other e3 (fun e' => e e'.symm)⟩
theorem Ar.fin {L : List Lat.Tr} (h : Ar W n go (L.flatMap Lat.prq) w) (hn : Lat.frq n) (hL : Lat.IsCels (Lat.cls n 20) L) : Nb w go n :=
  ⟨h.lt, fun i hi => by
    obtain ⟨v, l, e1, -, e2, e3⟩ := h.at_ hi
    obtain rfl := Lat.nbof_all hn hi hL e3
    rcases e2 with ⟨e2, -⟩ | ⟨b, cap, rfl, h1, h2, h3, -, h5⟩
    · have := Lat.nbs_some hn hi
      rw [e2] at this
      exact absurd this (Nat.lt_irrefl _)
    · exact ⟨_, e1, b, cap, rfl, h2, h3, h5⟩⟩
end
theorem row2 {w : World} {b : Nat} {t : TypeId} {x y : Value} (h : Row w b t #[x, y]) : w.cell? ⟨b, 0, none⟩ = some x ∧ w.cell? ⟨b, 1, none⟩ = some y := ⟨(h.cell 0).trans rfl, (h.cell 1).trans rfl⟩
/-- What is known of one pair: its box, and the list of its node. -/
structure Ai (W : World) (n go gs gp a b : Nat) (cs : Array Value) (P : List (Nat × Nat)) (v : Value) (l : List Nat) (w : World) : Prop where
  ar : Ar W n go P w
  tab : Row w gs 127 cs
  tn : gs ≠ go
  row : Row w gp 127 #[.int .i64 (a : Int), .int .i64 (b : Int)]
  ne : gp ≠ go
  cel : w.cell? ⟨go, a, none⟩ = some v
  thaw : w.frozen? ⟨go, a, none⟩ = false
  nm : NmJ w go v l
  nb : Lat.NbOf P a l
section
variable {W w w' : World} {n go gs gp a b : Nat} {cs : Array Value} {P : List (Nat × Nat)} {v : Value} {l : List Nat}
theorem Ai.under (h : Ai W n go gs gp a b cs P v l w) (hb : Below w.heap.size w w') (ha : a < cn n) : Ai W n go gs gp a b cs P v l w' := by
  have h1 := h.ar.under hb
  obtain ⟨_, _, _, e2, _, _⟩ := h1.at_ ha
  exact ⟨h1, h.tab.under hb, h.tn, h.row.under hb, h.ne, (hb.cell (p := ⟨go, a, none⟩) h.ar.lt).trans h.cel, e2, h.nm.under hb, h.nb⟩
theorem Ai.form (h : Ai W n go gs gp a b cs P v l w) : ∃ A cap, v = .slice A l.length cap := by
  rcases h.nm with ⟨rfl, e⟩ | ⟨b, cap, e, -⟩
  · exact ⟨_, _, e⟩
  · exact ⟨_, _, e⟩
theorem Ai.S (h : Ai W n go gs gp a b cs P v l w) : w.cell? ⟨gp, 0, none⟩ = some (.int .i64 (a : Int)) ∧ w.cell? ⟨gp, 1, none⟩ = some (.int .i64 (b : Int)) ∧ w.cell? ⟨go, a, none⟩ = some v :=
  ⟨(row2 h.row).1, (row2 h.row).2, h.cel⟩
theorem Ai.put (h : Ai W n go gs gp a b cs P v l w) {k : Nat} {v' : Value} (ha : a < cn n) (hbn : b < cn n) (hv : NmJ w go v' (Lat.insN k b l)) (h1 : ∀ i (h : i < l.length), i < k → l[i] < b) (h2 : ∀ h : k < l.length, b < l[k]) (hk : k ≤ l.length) : Ar W n go (P ++ [(a, b)]) (w.setCell ⟨go, a, none⟩ v') ∧ Row (w.setCell ⟨go, a, none⟩ v') gs 127 cs :=
  ⟨h.ar.put ha hbn hv h.nb h1 h2 hk, h.tab.far (p := ⟨go, a, none⟩) (fun e => h.tn e.symm) v'⟩
theorem bel_drewN (w : World) (k : Nat) : Below w.heap.size w (w.drewN k) := ⟨rfl, rfl, rfl, Nat.le_refl _, fun _ _ => rfl⟩
theorem bel_drew (w : World) : Below w.heap.size w w.drew := ⟨rfl, rfl, rfl, Nat.le_refl _, fun _ _ => rfl⟩
end
theorem prq_cells {w : World} {gs x y z : Nat} {e : TypeId} (h : Row w gs e #[.int .i64 (x : Int), .int .i64 (y : Int), .int .i64 (x : Int), .int .i64 (z : Int), .int .i64 (y : Int), .int .i64 (z : Int), .int .i64 (y : Int), .int .i64 (x : Int), .int .i64 (z : Int), .int .i64 (x : Int), .int .i64 (z : Int), .int .i64 (y : Int)]) {i : Nat} (hi : i < 6) :
    ∃ a b, w.cell? ⟨gs, i * 2, none⟩ = some (.int .i64 (a : Nat)) ∧ w.cell? ⟨gs, i * 2 + 1, none⟩ = some (.int .i64 (b : Nat)) ∧ (Lat.prq (x, y, z)).take (i + 1) = (Lat.prq (x, y, z)).take i ++ [(a, b)] ∧ (a = x ∨ a = y ∨ a = z) ∧ (b = x ∨ b = y ∨ b = z) := by
  rcases (show i = 0 ∨ i = 1 ∨ i = 2 ∨ i = 3 ∨ i = 4 ∨ i = 5 by omega) with rfl | rfl | rfl | rfl | rfl | rfl
  · exact ⟨x, y, (h.cell 0).trans rfl, (h.cell 1).trans rfl, rfl, .inl rfl, .inr (.inl rfl)⟩
  · exact ⟨x, z, (h.cell 2).trans rfl, (h.cell 3).trans rfl, rfl, .inl rfl, .inr (.inr rfl)⟩
  · exact ⟨y, z, (h.cell 4).trans rfl, (h.cell 5).trans rfl, rfl, .inr (.inl rfl), .inr (.inr rfl)⟩
  · exact ⟨y, x, (h.cell 6).trans rfl, (h.cell 7).trans rfl, rfl, .inr (.inl rfl), .inl rfl⟩
  · exact ⟨z, x, (h.cell 8).trans rfl, (h.cell 9).trans rfl, rfl, .inr (.inr rfl), .inl rfl⟩
  · exact ⟨z, y, (h.cell 10).trans rfl, (h.cell 11).trans rfl, rfl, .inr (.inr rfl), .inr (.inl rfl)⟩
/-- The pairs of some cells and of a part of one more. -/
theorem flat_take_succ {L : List Lat.Tr} {k : Nat} (hk : k < L.length) : (L.take (k + 1)).flatMap Lat.prq = (L.take k).flatMap Lat.prq ++ Lat.prq L[k] := by
  rw [List.take_succ_eq_append_getElem hk, List.flatMap_append]
  simp
end Go.Proofs.YtejoabaanclcbaaGreat


