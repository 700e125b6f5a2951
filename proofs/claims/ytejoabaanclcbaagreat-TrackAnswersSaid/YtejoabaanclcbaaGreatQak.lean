/- Texts of this proof. -/
import Derived.Test.YtejoabaanclcbaaGreatQaj
import Derived.Test.YtejoabaanclcbaaGreatQag
import Derived.Test.YtejoabaanclcbaaGreatQai
import Derived.Deep.Cut
import Derived.Deep.CutRange
namespace Go.Proofs.YtejoabaanclcbaaGreat
open Go.RowKit

/-- Two places are compared field by field. -/
theorem eq_place (a b c d a' b' c' d' : Int) (w : World) :
    (Op.equalIn 10000 32 (.agg #[.int .i64 a, .int .i64 b, .int .i64 c, .int .i64 d]) (.agg #[.int .i64 a', .int .i64 b', .int .i64 c', .int .i64 d'])).run Tryz.prog w = .ok (a == a' && b == b' && c == c' && d == d') w := by
  have u3 := Tryz.underlying3
  have a3 := Tryz.isAgg3
  have z3 := Tryz.sizeOf3
  have hS : Tryz.prog.underlying 32 = some (.struct (Tryz.prog.fieldsOf 32)) := by kernel_rfl
  rw [show (10000 : Nat) = 9999 + 1 from rfl, run_equalIn_agg w 9999 32 _ _ hS (by kernel_rfl)]
  simp only [Program.fieldsOf, Tryz.underlying32]
  go_simp
  by_cases h1 : a = a' <;> by_cases h2 : b = b' <;> by_cases h3 : c = c' <;> by_cases h4 : d = d' <;> simp [h1, h2, h3, h4]
theorem refCount_no (n : Int) (w : World) (h : ¬ (1 ≤ n ∧ n ≤ 8)) :
    Calls Tryz.prog 49 #[.int .i64 n] w fun e w' => e = .returned (.int .i64 0) ∧ w = w' := by
  by_cases h1 : n < 1
  · clear h
    go_enter Tryz.func49, Tryz.ntmps49
    go_wp2
    go_ret
    exact ⟨rfl, rfl⟩
  · have h2 : 8 < n := by omega
    clear h
    go_enter Tryz.func49, Tryz.ntmps49
    go_wp2
    go_ret
    exact ⟨rfl, rfl⟩
theorem refCount_yes (n : Nat) (w : World) (h : Lat.frq n) :
    Calls Tryz.prog 49 #[.int .i64 n] w fun e w' => e = .returned (.int .i64 (cn n)) ∧ w = w' := by
  rcases Lat.eight h with rfl | rfl | rfl | rfl | rfl | rfl | rfl | rfl <;>
  (go_enter Tryz.func49, Tryz.ntmps49
   go_wp2
   go_ret
   exact ⟨rfl, rfl⟩)
/-- Places in the order of the lists. -/
def lessB (F A B G X Y : Int) : Bool := if F = G then (if A = X then decide (B < Y) else decide (A < X)) else decide (F < G)
theorem less_all (F A B C G X Y Z : Int) (w : World) :
    Calls Tryz.prog 115 #[.agg #[.int .i64 F, .int .i64 A, .int .i64 B, .int .i64 C], .agg #[.int .i64 G, .int .i64 X, .int .i64 Y, .int .i64 Z]] w fun e w' => e = .returned (.bool (lessB F A B G X Y)) ∧ Below w.heap.size w w' := by
  by_cases h1 : F = G
  · subst h1
    by_cases h2 : A = X
    · subst h2
      have hL : lessB F A B F A Y = decide (B < Y) := by simp [lessB]
      rw [hL]; clear hL
      go_enter Tryz.func115, Tryz.ntmps115
      go_wp2
      go_ret
      exact ⟨rfl, ((Below.refl _ _).alloc (Nat.le_refl _) _).alloc (by simp) _⟩
    · have hL : lessB F A B F X Y = decide (A < X) := by simp [lessB, h2]
      rw [hL]; clear hL
      have e2 : (A == X) = false := beq_eq_false_iff_ne.2 h2
      clear h2
      go_enter Tryz.func115, Tryz.ntmps115
      go_wp2
      go_ret
      exact ⟨rfl, ((Below.refl _ _).alloc (Nat.le_refl _) _).alloc (by simp) _⟩
  · have hL : lessB F A B G X Y = decide (F < G) := by simp [lessB, h1]
    rw [hL]; clear hL
    have e1 : (F == G) = false := beq_eq_false_iff_ne.2 h1
    clear h1
    go_enter Tryz.func115, Tryz.ntmps115
    go_wp2
    go_ret
    exact ⟨rfl, ((Below.refl _ _).alloc (Nat.le_refl _) _).alloc (by simp) _⟩
attribute [local go_sem] eq_place
set_option maxHeartbeats 1000000 in
theorem isNormal_any (f : Nat) (a b c : Int) (w : World) (hv : Ico.Vld f a b c) :
    Calls Tryz.prog 89 #[.agg #[.int .i64 f, .int .i64 a, .int .i64 b, .int .i64 c]] w fun e w' => e = .returned (.bool (Nat.beq (Ico.nf f a b c) f)) ∧ Below w.heap.size w w' := by
  have k0 := Row.new w #[.int .i64 f, .int .i64 a, .int .i64 b, .int .i64 c] 32
  by_cases h : Ico.nf f a b c = f
  · have e0 : nw f a b c 0 = a := by unfold nw; rw [h, Ico.wt0]
    have e1 : nw f a b c 1 = b := by unfold nw; rw [h, Ico.wt1 hv.1]
    have e2 : nw f a b c 2 = c := by unfold nw; rw [h, Ico.wt2 hv.1]
    have hN := refNormal_yes f a b c
    rw [e0, e1, e2, h] at hN
    have HN := Lib.hid (fun w => hN w hv); clear hN
    have HR : Hid (Nat.beq (Ico.nf f a b c) f = true) := Lib.hid (by rw [h]; simp)
    clear e0 e1 e2 h
    go_enter Tryz.func89, Tryz.ntmps89
    go_wp2_with fail
    refine (HN.out _).mono ?_
    rintro e w1 ⟨rfl, hb1⟩
    have k1 := k0.under hb1
    clear k0
    obtain ⟨p0, p1, p2, p3⟩ := row4 k1
    have hlt := k1.lt
    have B1 := Lib.hid (((Below.refl w.heap.size w).alloc (Nat.le_refl _) (.cells #[.int .i64 f, .int .i64 a, .int .i64 b, .int .i64 c] 32)).trans (hb1.mono (by simp)))
    clear hb1 k1
    go_wp2_with fail
    go_ret
    exact ⟨by rw [HR.out]; rfl, B1.out.alloc B1.out.size _⟩
  · have HN := Lib.hid (fun w => refNormal_yes f a b c w hv)
    have HR : Hid (Nat.beq (Ico.nf f a b c) f = false) := Lib.hid (by
      cases hb : Nat.beq (Ico.nf f a b c) f
      · rfl
      · exact absurd (Nat.eq_of_beq_eq_true hb) h)
    have e1 : ((f : Int) == ((Ico.nf f a b c : Nat) : Int)) = false := beq_eq_false_iff_ne.2 (by omega)
    clear h
    go_enter Tryz.func89, Tryz.ntmps89
    go_wp2_with fail
    refine (HN.out _).mono ?_
    rintro e w1 ⟨rfl, hb1⟩
    have k1 := k0.under hb1
    clear k0
    obtain ⟨p0, p1, p2, p3⟩ := row4 k1
    have hlt := k1.lt
    have B1 := Lib.hid (((Below.refl w.heap.size w).alloc (Nat.le_refl _) (.cells #[.int .i64 f, .int .i64 a, .int .i64 b, .int .i64 c] 32)).trans (hb1.mono (by simp)))
    clear hb1 k1
    go_wp2_with fail
    go_ret
    exact ⟨by rw [HR.out]; rfl, B1.out.alloc B1.out.size _⟩
end Go.Proofs.YtejoabaanclcbaaGreat



namespace Go.Proofs.YtejoabaanclcbaaGreat
open Go.RowKit

theorem wd_step {n a : Nat} (hn : Lat.frq n) : wd n a + (840 : Int) / (n : Int) = wd n (a + 1) ∧ 0 ≤ wd n a ∧ wd n 0 = 0 ∧ (0 < a → 0 < wd n a) := by
  rcases Lat.eight hn with rfl | rfl | rfl | rfl | rfl | rfl | rfl | rfl <;> (simp only [wd]; simp; omega)
theorem wd_le {n a b : Nat} (hn : Lat.frq n) : (wd n a + wd n b ≤ 840 ↔ a + b ≤ n) ∧ (wd n a ≤ 840 ↔ a ≤ n) ∧ (a + b ≤ n → 840 - wd n a - wd n b = wd n (n - a - b)) := by
  rcases Lat.eight hn with rfl | rfl | rfl | rfl | rfl | rfl | rfl | rfl <;> (simp only [wd]; simp; omega)
theorem pt_vld {n f a b : Nat} (hn : Lat.frq n) (hf : f < 20) (hab : a + b ≤ n) : Ico.Vld f (wd n a) (wd n b) (wd n (n - a - b)) := by
  have h1 := rs_wd hn (show a ≤ n by omega)
  have h2 := rs_wd hn (show b ≤ n by omega)
  have h3 := rs_wd hn (show n - a - b ≤ n by omega)
  exact ⟨hf, h1.2.2.1, h1.2.2.2, h2.2.2.1, h2.2.2.2, h3.2.2.1, h3.2.2.2, wd_sum hn (by omega)⟩
theorem wd_ne {n a : Nat} (hn : Lat.frq n) : decide (wd n a ≠ 0) = decide (a ≠ 0) := by
  have h := wd_step (a := a) hn
  by_cases ha : a = 0
  · subst ha; rw [h.2.2.1]; rfl
  · rw [decide_eq_true ha, decide_eq_true (by have := h.2.2.2 (by omega); omega)]
theorem nf_nfB {n f a b : Nat} (hn : Lat.frq n) (hf : f < 20) (hab : a + b ≤ n) : Ico.nf f (wd n a) (wd n b) (wd n (n - a - b)) = Lat.nfB f (decide (a ≠ 0)) (decide (b ≠ 0)) (decide (n - a - b ≠ 0)) := by
  unfold Ico.nf Lat.nfB
  rw [Ico.fcs_okB (pt_vld hn hf hab), wd_ne hn, wd_ne hn, wd_ne hn]
/-- The nodes among some points. -/
def flt (n : Nat) (l : List Lat.Pt) : List Lat.Pt := l.filter (Lat.nrm n)
theorem flt_yes {n : Nat} {l : List Lat.Pt} {p : Lat.Pt} (h : Lat.nrm n p = true) : flt n (l ++ [p]) = flt n l ++ [p] := by simp [flt, List.filter_append, h]
theorem flt_no {n : Nat} {l : List Lat.Pt} {p : Lat.Pt} (h : Lat.nrm n p = false) : flt n (l ++ [p]) = flt n l := by simp [flt, List.filter_append, h]
def pre (n f a b : Nat) : List Lat.Pt := Lat.pts n f ++ Lat.face n f a ++ Lat.row n f a b
theorem pre_b (n f a b : Nat) : pre n f a (b + 1) = pre n f a b ++ [(f, a, b)] := by unfold pre; rw [Lat.row_succ, ← List.append_assoc]
theorem pre_a (n f a : Nat) : pre n f a (n + 1 - a) = pre n f (a + 1) 0 := by unfold pre; rw [Lat.face_succ]; simp [Lat.row]
theorem pre_f (n f : Nat) : pre n f (n + 1) 0 = pre n (f + 1) 0 0 := by unfold pre; rw [Lat.pts_succ]; simp [Lat.row, Lat.face]
theorem pre_0 (n : Nat) : pre n 0 0 0 = [] := by simp [pre, Lat.pts, Lat.face, Lat.row]
theorem pre_all (n : Nat) : pre n 20 0 0 = Lat.pts n 20 := by simp [pre, Lat.face, Lat.row]
theorem pre_len {n f a b : Nat} (hn : n ≤ 8) (hf : f < 20) (ha : a ≤ n + 1) (hb : b ≤ 9) : (flt n (pre n f a b)).length ≤ 100000 := by
  have h0 : (flt n (pre n f a b)).length ≤ (pre n f a b).length := List.length_filter_le _ _
  have h1 := pts_len hn f
  have h2 := face_len hn f a ha
  have h3 : (Lat.row n f a b).length = b := by simp [Lat.row]
  simp only [pre, List.length_append] at h0
  unfold pre
  omega
/-- What is known while the points are gone through. -/
structure Rn (W : World) (n : Nat) (l : List Lat.Pt) (v : Value) (w : World) : Prop where
  below : Below W.heap.size W w
  own : w.ownsRow W.heap.size 32 4 v (flt n l).length (ncs n (flt n l))
theorem Rn.under {W w w' : World} {n : Nat} {l : List Lat.Pt} {v : Value} (h : Rn W n l v w) (hb : Below w.heap.size w w') : Rn W n l v w' := ⟨h.below.trans (hb.mono h.below.size), own_under h.own hb⟩
theorem Rn.yes {W w w' : World} {n : Nat} {l : List Lat.Pt} {p : Lat.Pt} {v v' : Value} (h : Rn W n l v w) (hp : Lat.nrm n p = true)
    (hown : w'.ownsRow W.heap.size 32 4 v' ((flt n l).length + 1) (ncs n (flt n l) ++ nc n p)) (hg : w.grownBy w' v.ownBlock) : Rn W n (l ++ [p]) v' w' :=
  ⟨below_own h.below h.below.size h.own hg, by rw [flt_yes hp, ncs_snoc, List.length_append]; exact hown⟩
theorem Rn.no {W w : World} {n : Nat} {l : List Lat.Pt} {p : Lat.Pt} {v : Value} (h : Rn W n l v w) (hp : Lat.nrm n p = false) : Rn W n (l ++ [p]) v w := ⟨h.below, by rw [flt_no hp]; exact h.own⟩
set_option maxRecDepth 100000 in
set_option maxHeartbeats 8000000 in
theorem refNodes_yes (n : Nat) (w : World) (hn : Lat.frq n) :
    Calls Tryz.prog 65 #[.int .i64 n] w (NodesR w n) := by
  obtain ⟨i0, hi, hz0, hz1, hz2⟩ := info_parts infoPlace
  have hn8 : n ≤ 8 := hn.2
  have hn0 : 1 ≤ (n : Int) ∧ (n : Int) ≤ 8 := by unfold Lat.frq at hn; omega
  obtain ⟨hn1, hn2⟩ := hn0
  have hc : 1 ≤ (cn n : Int) ∧ (cn n : Int) ≤ 642 := by have := cn_le hn; unfold cn at *; omega
  have z0 : ((cn n : Int) == 0) = false := beq_eq_false_iff_ne.2 (by omega)
  have hq : 0 < (840 : Int) / (n : Int) ∧ (840 : Int) / (n : Int) ≤ 840 := ⟨(Lat.div_eq hn (A := 0) (by omega)).2.2.1, (Lat.div_eq hn (A := 0) (by omega)).2.2.2.1⟩
  obtain ⟨q0, q1⟩ := hq
  have HN := Lib.hid hn; clear hn
  go_enter Tryz.func65, Tryz.ntmps65
  go_wp2_with fail
  refine (refCount_yes _ _ HN.out).mono ?_
  rintro e w1 ⟨rfl, rfl⟩
  have N0 : Rn w n (pre n 0 0 0) (.slice none 0 0) w := ⟨Below.refl _ _, by rw [pre_0]; exact World.ownsRow_nil _ _ _ _⟩
  have H0 := Lib.hid N0; clear N0
  go_upto_region 5 with fail
  generalize hqq : (840 : Int) / (n : Int) = q at *
  have HQ := Lib.hid hqq; clear hqq
  go_wp2_with fail
  go_loopw [5, 6] (fun v t wr => ∃ f : Nat, f ≤ 20 ∧ t = .int .i64 f ∧ Rn w n (pre n f 0 0) v wr) (fun _ t _ => 20 - (intOf t).toNat)
  case atStart => exact ⟨0, by omega, rfl, H0.out⟩
  case round =>
    clear H0
    obtain ⟨f, hf, rfl, M⟩ := hrel
    by_cases hlt : f < 20
    · have HM := Lib.hid M; clear M
      have f1 : (f : Int) < 20 := by omega
      go_wp2_with fail
      go_loopw [5, 7] (fun v t wr => ∃ a : Nat, a ≤ n + 1 ∧ t = .int .i64 (wd n a) ∧ Rn w n (pre n f a 0) v wr ∧ 0 ≤ wd n a ∧ wd n a ≤ 1680) (fun _ t _ => 1681 - (intOf t).toNat)
      case atStart => exact ⟨0, by omega, by rw [(wd_step (a := 0) HN.out).2.2.1], HM.out, by rw [(wd_step (a := 0) HN.out).2.2.1]; omega, by rw [(wd_step (a := 0) HN.out).2.2.1]; omega⟩
      case round =>
        clear HM
        obtain ⟨a, ha, rfl, M, a0, a1⟩ := hrel
        by_cases hla : a ≤ n
        · have HM := Lib.hid M; clear M
          have a2 : wd n a ≤ 840 := (wd_le (b := 0) HN.out).2.1.2 hla
          have SA := Lib.hid (show wd n a + q = wd n (a + 1) by rw [← HQ.out]; exact (wd_step HN.out).1)
          go_wp2_with fail
          go_loopw [5, 8] (fun v t wr => ∃ b : Nat, b ≤ n + 1 - a ∧ t = .int .i64 (wd n b) ∧ Rn w n (pre n f a b) v wr ∧ 0 ≤ wd n b ∧ wd n b ≤ 1680) (fun _ t _ => 1681 - (intOf t).toNat)
          case atStart => exact ⟨0, by omega, by rw [(wd_step (a := 0) HN.out).2.2.1], HM.out, by rw [(wd_step (a := 0) HN.out).2.2.1]; omega, by rw [(wd_step (a := 0) HN.out).2.2.1]; omega⟩
          case round =>
            clear HM
            obtain ⟨b, hb, rfl, M, b0, b1⟩ := hrel
            by_cases hlb : a + b ≤ n
            · have HM := Lib.hid M; clear M
              have ab := (wd_le HN.out).1.2 hlb
              have hC : 840 - wd n a - wd n b = wd n (n - a - b) := (wd_le HN.out).2.2 hlb
              have SB := Lib.hid (show wd n b + q = wd n (b + 1) by rw [← HQ.out]; exact (wd_step HN.out).1)
              have HV := Lib.hid (pt_vld HN.out hlt hlb)
              have HNF := Lib.hid (nf_nfB HN.out hlt hlb)
              have HPA := Lib.hid (fun h : 0 < a => (wd_step (a := a) HN.out).2.2.2 h)
              have HPB := Lib.hid (fun h : 0 < b => (wd_step (a := b) HN.out).2.2.2 h)
              have HPC := Lib.hid (fun h : 0 < n - a - b => (wd_step (a := n - a - b) HN.out).2.2.2 h)
              have HZ0 := Lib.hid (wd_step (a := 0) HN.out).2.2.1
              go_upto_region 15 with fail
              refine forget (fun Z => Rn w n (pre n f a b) «u5» Z ∧ Row Z «wr».heap.size 32 #[.int .i64 f, .int .i64 (wd n a), .int .i64 (wd n b), .int .i64 (wd n (n - a - b))]) ⟨HM.out.under ((Below.refl _ _).alloc (Nat.le_refl _) _), Row.new _ _ _⟩ ?_
              clear HM hC
              generalize «wr».heap.size = gp at *
              rintro Z ⟨M, r⟩
              obtain ⟨p0, p1, p2, p3⟩ := row4 r
              have HM := Lib.hid M; clear M
              have R := Lib.hid r; clear r
              go_cut [53] from 39 to 53 (fun t wc => t = .bool (Lat.nrm n (f, a, b)) ∧ Rn w n (pre n f a b) «u5» wc ∧ Row wc gp 32 #[.int .i64 f, .int .i64 (wd n a), .int .i64 (wd n b), .int .i64 (wd n (n - a - b))])
              case first =>
                by_cases ha0 : a = 0
                · have na : ¬ (0 < wd n a) := by rw [ha0, HZ0.out]; omega
                  have HE := Lib.hid (show Nat.beq (Ico.nf f (wd n a) (wd n b) (wd n (n - a - b))) f = Lat.nrm n (f, a, b) by rw [HNF.out]; simp [Lat.nrm, ha0])
                  clear ha0
                  go_wp2_with fail
                  refine (isNormal_any f _ _ _ _ HV.out).mono ?_
                  rintro e w5 ⟨rfl, hb5⟩
                  rw [HE.out]
                  have H5 := Lib.hid (HM.out.under hb5)
                  have R5 := Lib.hid (R.out.under hb5)
                  clear hb5 HE
                  generalize Lat.nrm n (f, a, b) = nb at *
                  go_wp2_with fail
                  go_meet
                  exact ⟨rfl, H5.out, R5.out⟩
                · have pa := HPA.out (by omega)
                  by_cases hb0 : b = 0
                  · have nb' : ¬ (0 < wd n b) := by rw [hb0, HZ0.out]; omega
                    have HE := Lib.hid (show Nat.beq (Ico.nf f (wd n a) (wd n b) (wd n (n - a - b))) f = Lat.nrm n (f, a, b) by rw [HNF.out]; simp [Lat.nrm, hb0])
                    clear hb0 ha0
                    go_wp2_with fail
                    refine (isNormal_any f _ _ _ _ HV.out).mono ?_
                    rintro e w5 ⟨rfl, hb5⟩
                    rw [HE.out]
                    have H5 := Lib.hid (HM.out.under hb5)
                    have R5 := Lib.hid (R.out.under hb5)
                    clear hb5 HE
                    generalize Lat.nrm n (f, a, b) = nb at *
                    go_wp2_with fail
                    go_meet
                    exact ⟨rfl, H5.out, R5.out⟩
                  · have pb := HPB.out (by omega)
                    by_cases hc0 : n - a - b = 0
                    · have nc' : ¬ (0 < wd n (n - a - b)) := by rw [hc0, HZ0.out]; omega
                      have HE := Lib.hid (show Nat.beq (Ico.nf f (wd n a) (wd n b) (wd n (n - a - b))) f = Lat.nrm n (f, a, b) by rw [HNF.out]; simp [Lat.nrm, hc0])
                      clear hc0 hb0 ha0
                      go_wp2_with fail
                      refine (isNormal_any f _ _ _ _ HV.out).mono ?_
                      rintro e w5 ⟨rfl, hb5⟩
                      rw [HE.out]
                      have H5 := Lib.hid (HM.out.under hb5)
                      have R5 := Lib.hid (R.out.under hb5)
                      clear hb5 HE
                      generalize Lat.nrm n (f, a, b) = nb at *
                      go_wp2_with fail
                      go_meet
                      exact ⟨rfl, H5.out, R5.out⟩
                    · have pc := HPC.out (by omega)
                      have HT := Lib.hid (show Lat.nrm n (f, a, b) = true by simp only [Lat.nrm, Bool.or_eq_true, Bool.and_eq_true, decide_eq_true_eq]; exact .inl ⟨⟨by omega, by omega⟩, by omega⟩)
                      clear hc0 hb0 ha0
                      go_wp2_with fail
                      go_meet
                      exact ⟨by rw [HT.out], HM.out, R.out⟩
              case rest =>
                obtain ⟨rfl, M, r⟩ := hcut
                clear p0 p1 p2 p3 HPA HPB HPC HNF HM R
                have hb9 : b ≤ 9 := by omega
                have HLEN := Lib.hid (pre_len (n := n) (f := f) (a := a) (b := b) hn8 hlt ha hb9)
                cases hr : Lat.nrm n (f, a, b)
                · have HR := Lib.hid hr; clear hr
                  have HM := Lib.hid M; clear M r
                  go_wp2_with fail
                  go_roundw
                  case rel => exact ⟨b + 1, by omega, by rw [← SB.out], by rw [pre_b]; exact HM.out.no HR.out, by have := SB.out; omega, by have := SB.out; omega⟩
                  case measure => simp [intOf]; omega
                · have HR := Lib.hid hr; clear hr
                  obtain ⟨p0, p1, p2, p3⟩ := row4 r
                  have HM := Lib.hid (M.under ((Below.refl _ _).alloc (Nat.le_refl _) (.cells #[.int .i64 f, .int .i64 (wd n a), .int .i64 (wd n b), .int .i64 (wd n (n - a - b))] 32))); clear M r
                  go_wp2_with (at_builtin; refine wpList_append_lies _ rfl (.tmp 54) (.tmp 56) 86 rfl w.heap.size 32 i0 _ 4 32 Tryz.underlying86 hi hz0 hz1 hz2 rfl (by decide) «u5» (flt n (pre n f a b)).length (ncs n (flt n (pre n f a b))) rfl HM.out.own ⟨wc.heap.size, 0, none⟩ 1 1 (nc n (f, a, b)) rfl rfl (World.news_of_block (cs := #[.int .i64 f, .int .i64 (wd n a), .int .i64 (wd n b), .int .i64 (wd n (n - a - b))]) (t := 32) (fr := (0, 0)) (heap_alloc_new wc _)) (nc_one n (f, a, b)) (by omega) (by have := HLEN.out; unfold maxLen; omega) (by have := HLEN.out; omega) HM.out.below.size (wc.heap.size + 1) (by simp) ?_; intro g' cap' w6 hown6 hgrow6 hat6 hlt6; have H6 := Lib.hid (HM.out.yes HR.out hown6 hgrow6); clear hown6 hgrow6 hat6 hlt6)
                  go_wp2_with fail
                  go_roundw
                  case rel => exact ⟨b + 1, by omega, by rw [← SB.out], by rw [pre_b]; exact H6.out, by have := SB.out; omega, by have := SB.out; omega⟩
                  case measure => simp [intOf]; omega
            · have hbe : b = n + 1 - a := by omega
              have HBE := Lib.hid hbe; clear hbe
              have nab : ¬ (wd n a + wd n b ≤ 840) := fun h => hlb ((wd_le HN.out).1.1 h)
              have HM := Lib.hid M; clear M
              go_wp2_with fail
              go_roundw
              case rel => exact ⟨a + 1, by omega, by rw [← SA.out], by have := HM.out; rw [HBE.out, pre_a] at this; exact this, by have := SA.out; omega, by have := SA.out; omega⟩
              case measure => simp [intOf]; omega
        · have hae : a = n + 1 := by omega
          have HAE := Lib.hid hae; clear hae
          have na : ¬ (wd n a ≤ 840) := fun h => hla ((wd_le (b := 0) HN.out).2.1.1 h)
          have HM := Lib.hid M; clear M
          go_wp2_with fail
          go_roundw
          case rel => exact ⟨f + 1, by omega, by go_num, by have := HM.out; rw [HAE.out, pre_f] at this; exact this⟩
          case measure => simp [intOf]; omega
    · have hfe : f = 20 := by omega
      rw [hfe, pre_all] at M
      have hl : flt n (Lat.pts n 20) = Lat.nodes n := Lat.nodes_filter HN.out
      have hown := M.own
      rw [hl, Lat.nodes_len HN.out] at hown
      have f1 : ¬ ((f : Int) < 20) := by omega
      have HB := Lib.hid M.below
      rcases hown.2 with ⟨_, h⟩ | ⟨g', cap', cur, hv, hge, hh, hle, hmax, hsz, htk⟩
      · exact absurd h (by omega)
      · subst hv
        have HO := Lib.hid hown
        clear M hown hl hfe hh hge hle hmax hsz htk hlt
        go_wp2_with fail
        go_ret2
        exact ⟨g', cap', rfl, HB.out, HO.out⟩
end Go.Proofs.YtejoabaanclcbaaGreat


