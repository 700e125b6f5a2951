/- Texts of this proof. -/
import Derived.Test.YtejoabaanclcbaaGreatQal
import Derived.Test.YtejoabaanclcbaaGreatQai
namespace Go.Proofs.YtejoabaanclcbaaGreat
open Go.RowKit

/-- What is known while the reference's Locate goes from share to share. -/
def Kp (W : World) (n g gp : Nat) (cs : Array Value) (Z : World) : Prop := Below W.heap.size W Z ∧ NdL Z n g ∧ Row Z gp 32 cs
theorem Kp.under {W Z Z' : World} {n g gp : Nat} {cs : Array Value} (h : Kp W n g gp cs Z) (hb : Below Z.heap.size Z Z') : Kp W n g gp cs Z' := ⟨h.1.trans (hb.mono h.1.size), h.2.1.under hb, h.2.2.under hb⟩
theorem refLocate_bad (n F a b c : Int) (w : World) (h : ¬ (1 ≤ n ∧ n ≤ 8) ∨ vb F a b c = false) :
    Calls Tryz.prog 48 #[.int .i64 n, .agg #[.int .i64 F, .int .i64 a, .int .i64 b, .int .i64 c]] w fun e w' => e = .returned (.tuple #[.slice none 0 0, .int .i64 1]) ∧ Below w.heap.size w w' := by
  by_cases hn : 1 ≤ n ∧ n ≤ 8
  · obtain ⟨m, rfl⟩ := Int.eq_ofNat_of_zero_le (show 0 ≤ n by omega)
    have hm : Lat.frq m := ⟨by omega, by omega⟩
    have hc : 1 ≤ (cn m : Int) := by unfold cn; omega
    have z0 : ((cn m : Int) == 0) = false := beq_eq_false_iff_ne.2 (by omega)
    have hvb := h.resolve_left (fun k => k hn)
    clear hn h
    go_enter Tryz.func48, Tryz.ntmps48
    go_wp2_with fail
    refine (refCount_yes _ _ hm).mono ?_
    rintro e w2 ⟨rfl, rfl⟩
    go_wp2_with fail
    refine (refValid_any _ _ _ _ _).mono ?_
    rintro e w2 ⟨rfl, hb2⟩
    rw [hvb]
    go_wp2_with fail
    go_ret2
    exact ⟨rfl, bel_alloc hb2⟩
  · clear h
    go_enter Tryz.func48, Tryz.ntmps48
    go_wp2_with fail
    refine (refCount_no _ _ hn).mono ?_
    rintro e w2 ⟨rfl, rfl⟩
    go_wp2_with fail
    go_ret2
    exact ⟨rfl, (Below.refl _ _).alloc (Nat.le_refl _) _⟩
set_option maxRecDepth 100000 in
set_option maxHeartbeats 4000000 in
theorem refLocate_yes (n f : Nat) (A B C : Int) (w : World) (hn : Lat.frq n) (hv : Ico.Vld f A B C) :
    Calls Tryz.prog 48 #[.int .i64 n, .agg #[.int .i64 f, .int .i64 A, .int .i64 B, .int .i64 C]] w (RLocP w n f A B C) := by
  have hvb := vb_of hv
  have HV := Lib.hid hv
  have HN := Lib.hid hn
  obtain ⟨-, A1, A2, B1, B2, C1, C2, -⟩ := hv
  obtain ⟨tA, uA, lA, mA, iA⟩ := loc_num hn A1 A2
  obtain ⟨tB, uB, lB, mB, iB⟩ := loc_num hn B1 B2
  obtain ⟨tC, uC, lC, mC, iC⟩ := loc_num hn C1 C2
  have n1 : 1 ≤ (n : Int) ∧ (n : Int) ≤ 8 := by unfold Lat.frq at hn; omega
  obtain ⟨n1, n2⟩ := n1
  obtain ⟨-, -, p1, p2, -, -⟩ := Lat.div_eq hn A1
  have hc : 1 ≤ (cn n : Int) := by unfold cn; omega
  have z9 : ((cn n : Int) == 0) = false := beq_eq_false_iff_ne.2 (by omega)
  obtain ⟨⟨s1, s2, s3, s4, s5, s6⟩, -⟩ := Lat.cut HN.out HV.out
  have HT := Lib.hid (tri_cases HN.out HV.out)
  have WA := Lib.hid (wd_step (a := Lat.xa n A) hn).1
  have WB := Lib.hid (wd_step (a := Lat.xa n B) hn).1
  have a8 : Lat.xa n A ≤ 8 ∧ Lat.xa n B ≤ 8 ∧ Lat.xa n C ≤ 8 := by have := (Lat.cut HN.out HV.out).2; have := hn.2; omega
  have x1 : IntKind.i64.wrap (A.tdiv ((840 : Int) / (n : Int))) = A.tdiv ((840 : Int) / (n : Int)) := IntWalk.i64_in _ (by omega)
  have x2 : IntKind.i64.wrap (B.tdiv ((840 : Int) / (n : Int))) = B.tdiv ((840 : Int) / (n : Int)) := IntWalk.i64_in _ (by omega)
  have x3 : IntKind.i64.wrap (C.tdiv ((840 : Int) / (n : Int))) = C.tdiv ((840 : Int) / (n : Int)) := IntWalk.i64_in _ (by omega)
  have y1 : IntKind.i64.wrap (A.tdiv ((840 : Int) / (n : Int)) * ((840 : Int) / (n : Int))) = wd n (Lat.xa n A) := by rw [tA]; exact IntWalk.i64_in _ (by omega)
  have y2 : IntKind.i64.wrap (B.tdiv ((840 : Int) / (n : Int)) * ((840 : Int) / (n : Int))) = wd n (Lat.xa n B) := by rw [tB]; exact IntWalk.i64_in _ (by omega)
  have y3 : IntKind.i64.wrap (C.tdiv ((840 : Int) / (n : Int)) * ((840 : Int) / (n : Int))) = wd n (Lat.xa n C) := by rw [tC]; exact IntWalk.i64_in _ (by omega)
  have v1 : IntKind.i64.wrap (A - wd n (Lat.xa n A)) = A - wd n (Lat.xa n A) := IntWalk.i64_in _ (by omega)
  have v2 : IntKind.i64.wrap (B - wd n (Lat.xa n B)) = B - wd n (Lat.xa n B) := IntWalk.i64_in _ (by omega)
  have v3 : IntKind.i64.wrap (C - wd n (Lat.xa n C)) = C - wd n (Lat.xa n C) := IntWalk.i64_in _ (by omega)
  have r1 : IntKind.i64.wrap ((n : Int) * (A - wd n (Lat.xa n A))) = Lat.rs n A := by rw [uA]; exact IntWalk.i64_in _ (by omega)
  have r2 : IntKind.i64.wrap ((n : Int) * (B - wd n (Lat.xa n B))) = Lat.rs n B := by rw [uB]; exact IntWalk.i64_in _ (by omega)
  have r3 : IntKind.i64.wrap ((n : Int) * (C - wd n (Lat.xa n C))) = Lat.rs n C := by rw [uC]; exact IntWalk.i64_in _ (by omega)
  clear hn a8 tA tB tC iA iB iC uA uB uC
  go_enter Tryz.func48, Tryz.ntmps48
  go_wp2_with fail
  refine (refCount_yes _ _ HN.out).mono ?_
  rintro e w1 ⟨rfl, rfl⟩
  go_wp2_with fail
  have q0 := Row.new w #[.int .i64 f, .int .i64 A, .int .i64 B, .int .i64 C] 32
  refine (refValid_any _ _ _ _ _).mono ?_
  rintro e w2 ⟨rfl, hb2⟩
  rw [hvb]
  have q2 := q0.under hb2
  have B2' := Lib.hid (bel_alloc hb2)
  clear q0 hb2
  go_wp2_with fail
  refine (refNodes_yes _ _ HN.out).mono ?_
  rintro e w3 ⟨g, cap, rfl, hb3, hown⟩
  have HL := Lib.hid (NdL.of HN.out hown); clear hown
  have B3 := Lib.hid (B2'.out.trans (hb3.mono B2'.out.size))
  have q3 := q2.under hb3
  clear q2 hb3 B2'
  generalize w.heap.size = gp at q3
  obtain ⟨c0, c1, c2, c3⟩ := row4 q3
  go_upto_region 5 with fail
  generalize hq : (840 : Int) / (n : Int) = q at *
  clear hq
  have zq : ¬ q = 0 := by omega
  go_region_held3 (fun w' => w'.cell? ⟨gp, 0, none⟩ = some (.int .i64 f) ∧ w'.cell? ⟨gp, 1, none⟩ = some (.int .i64 A) ∧ w'.cell? ⟨gp, 2, none⟩ = some (.int .i64 B) ∧ w'.cell? ⟨gp, 3, none⟩ = some (.int .i64 C)) (go_keep) (fail)
  go_upto_region 6 with fail
  go_region_held3 (fun w' => w'.cell? ⟨gp, 0, none⟩ = some (.int .i64 f) ∧ w'.cell? ⟨gp, 1, none⟩ = some (.int .i64 A) ∧ w'.cell? ⟨gp, 2, none⟩ = some (.int .i64 B) ∧ w'.cell? ⟨gp, 3, none⟩ = some (.int .i64 C)) (go_keep) (fail)
  go_upto_region 7 with fail
  refine forget (Kp w n g gp #[.int .i64 f, .int .i64 A, .int .i64 B, .int .i64 C]) ⟨B3.out.drew.drew, HL.out, q3.drew.drew⟩ ?_
  rintro Z hZ
  have Q0 := Lib.hid hZ
  have R0 := Lib.hid (RL.start Z n f)
  clear hZ c0 c1 c2 c3 q3 HL B3 v1 v2 v3 r1 r2 r3 x1 x2 x3 y1 y2 y3
  have E := Lib.hid (show (Lat.rs n A = 0 → A = wd n (Lat.xa n A)) ∧ (Lat.rs n B = 0 → B = wd n (Lat.xa n B)) from ⟨wd_xa HN.out A1 A2, wd_xa HN.out B1 B2⟩)
  have z1 : IntKind.i64.wrap (wd n (Lat.xa n A) + q) = wd n (Lat.xa n A + 1) := by rw [WA.out]; have := WA.out; exact IntWalk.i64_in _ (by omega)
  have z2 : IntKind.i64.wrap (wd n (Lat.xa n B) + q) = wd n (Lat.xa n B + 1) := by rw [WB.out]; have := WB.out; exact IntWalk.i64_in _ (by omega)
  clear WA WB lA mA lB mB lC mC
  generalize Lat.rs n A = X at *
  generalize Lat.rs n B = Y at *
  generalize Lat.rs n C = U at *
  generalize Lat.xa n A = a at *
  generalize Lat.xa n B = b at *
  generalize Lat.xa n C = c at *
  rcases HT.out with ⟨hX, hY, hU, hab, hT⟩ | ⟨hS, hab, hT⟩ | ⟨hS, hab, hT⟩
  · have KT := Lib.hid hT; clear hT
    have KA := Lib.hid hab; clear hab
    have eA := E.out.1 hX
    have eB := E.out.2 hY
    have key := fun (h : a + b ≤ n) (V : World) (h' : NdL V n g) => at_any n f a b g cap V HN.out HV.out.1 h h'
    rw [← eA, ← eB] at key
    have KY := Lib.hid key
    subst hX hY hU
    clear eA eB key
    obtain ⟨c0, c1, c2, c3⟩ := row4 Q0.out.2.2
    clear c3
    go_wp2_with fail
    refine (KY.out (by have := KA.out; omega) _ Q0.out.2.1).mono ?_
    rintro e z1 ⟨rfl, hb1⟩
    have Q1 := Lib.hid (Q0.out.under hb1)
    have R0' := Lib.hid (R0.out.under hb1)
    clear hb1 c0 c1 c2 Q0 R0
    go_wp2_with fail
    refine (refshare_step n f a b _ _ 840 _ R0'.out (by simp) (by omega)).mono ?_
    rintro e z2 ⟨u1, rfl, hb2, hrl⟩
    have Q2 := Lib.hid (Q1.out.under hb2)
    have R1 := Lib.hid hrl
    clear hb2 hrl Q1 R0'
    go_wp2_with fail
    go_ret2
    refine rloc_of HN.out HV.out KT.out Q2.out.1 ?_
    obtain ⟨L, r1, r2, r3⟩ := R1.out
    refine ⟨L, r1, ?_, r3⟩
    rw [show ([((a, b), 840), ((a, b), 0), ((a, b), 0)] : List ((Nat × Nat) × Int)) = ([((a, b), 840)] ++ [((a, b), 0)]) ++ [((a, b), 0)] from rfl, Lat.shl_no (t := ((a, b), (0 : Int))) (by simp), Lat.shl_no (t := ((a, b), (0 : Int))) (by simp)]
    exact r2
  · have KT := Lib.hid hT; clear hT
    have KA := Lib.hid hab; clear hab
    have t0 : (X + Y + U == 0) = false := beq_eq_false_iff_ne.2 (by omega)
    have t1 : (X + Y + U == 840) = true := beq_iff_eq.2 hS
    have KS := Lib.hid (show X + Y + U = 840 ∧ 0 ≤ X ∧ 0 ≤ Y ∧ 0 ≤ U ∧ X < 840 ∧ Y < 840 ∧ U < 840 from ⟨hS, s1, s3, s5, s2, s4, s6⟩); clear hS
    obtain ⟨c0, c1, c2, c3⟩ := row4 Q0.out.2.2
    clear c1 c2 c3
    go_wp2_with fail
    refine (at_any n f (a + 1) b g cap _ HN.out HV.out.1 (by have := KA.out; omega) Q0.out.2.1).mono ?_
    rintro e z1 ⟨rfl, hb1⟩
    have Q1 := Lib.hid (Q0.out.under hb1)
    have R0' := Lib.hid (R0.out.under hb1)
    clear hb1 c0 Q0 R0
    go_wp2_with fail
    refine (refshare_step n f (a + 1) b _ _ X _ R0'.out (by simp) (by have := KS.out; omega)).mono ?_
    rintro e z2 ⟨u1, rfl, hb2, hrl⟩
    have Q2 := Lib.hid (Q1.out.under hb2)
    have R1 := Lib.hid hrl
    clear hb2 hrl Q1 R0'
    obtain ⟨c0, c1, c2, c3⟩ := row4 Q2.out.2.2
    clear c1 c2 c3
    go_wp2_with fail
    refine (at_any n f a (b + 1) g cap _ HN.out HV.out.1 (by have := KA.out; omega) Q2.out.2.1).mono ?_
    rintro e z3 ⟨rfl, hb1⟩
    have Q3 := Lib.hid (Q2.out.under hb1)
    have R1' := Lib.hid (R1.out.under hb1)
    clear hb1 c0 Q2 R1
    go_wp2_with fail
    refine (refshare_step n f a (b + 1) _ _ Y _ R1'.out (by simp) (by have := KS.out; omega)).mono ?_
    rintro e z4 ⟨u2, rfl, hb2, hrl⟩
    have Q4 := Lib.hid (Q3.out.under hb2)
    have R2 := Lib.hid hrl
    clear hb2 hrl Q3 R1'
    obtain ⟨c0, c1, c2, c3⟩ := row4 Q4.out.2.2
    clear c1 c2 c3
    go_wp2_with fail
    refine (at_any n f a b g cap _ HN.out HV.out.1 (by have := KA.out; omega) Q4.out.2.1).mono ?_
    rintro e z5 ⟨rfl, hb1⟩
    have Q5 := Lib.hid (Q4.out.under hb1)
    have R2' := Lib.hid (R2.out.under hb1)
    clear hb1 c0 Q4 R2
    go_wp2_with fail
    refine (refshare_step n f a b _ _ U _ R2'.out (by simp) (by have := KS.out; omega)).mono ?_
    rintro e z6 ⟨u3, rfl, hb2, hrl⟩
    have Q6 := Lib.hid (Q5.out.under hb2)
    have R3 := Lib.hid hrl
    clear hb2 hrl Q5 R2'
    go_wp2_with fail
    go_ret2
    exact rloc_of HN.out HV.out KT.out Q6.out.1 R3.out
  · have KT := Lib.hid hT; clear hT
    have KA := Lib.hid hab; clear hab
    have t0 : (X + Y + U == 0) = false := beq_eq_false_iff_ne.2 (by omega)
    have t1 : (X + Y + U == 840) = false := beq_eq_false_iff_ne.2 (by omega)
    have KS := Lib.hid (show X + Y + U = 1680 ∧ 0 ≤ X ∧ 0 ≤ Y ∧ 0 ≤ U ∧ X < 840 ∧ Y < 840 ∧ U < 840 from ⟨hS, s1, s3, s5, s2, s4, s6⟩); clear hS
    obtain ⟨c0, c1, c2, c3⟩ := row4 Q0.out.2.2
    clear c1 c2 c3
    go_wp2_with fail
    refine (at_any n f a (b + 1) g cap _ HN.out HV.out.1 (by have := KA.out; omega) Q0.out.2.1).mono ?_
    rintro e z1 ⟨rfl, hb1⟩
    have Q1 := Lib.hid (Q0.out.under hb1)
    have R0' := Lib.hid (R0.out.under hb1)
    clear hb1 c0 Q0 R0
    go_wp2_with fail
    refine (refshare_step n f a (b + 1) _ _ (840 - X) _ R0'.out (by simp) (by have := KS.out; omega)).mono ?_
    rintro e z2 ⟨u1, rfl, hb2, hrl⟩
    have Q2 := Lib.hid (Q1.out.under hb2)
    have R1 := Lib.hid hrl
    clear hb2 hrl Q1 R0'
    obtain ⟨c0, c1, c2, c3⟩ := row4 Q2.out.2.2
    clear c1 c2 c3
    go_wp2_with fail
    refine (at_any n f (a + 1) b g cap _ HN.out HV.out.1 (by have := KA.out; omega) Q2.out.2.1).mono ?_
    rintro e z3 ⟨rfl, hb1⟩
    have Q3 := Lib.hid (Q2.out.under hb1)
    have R1' := Lib.hid (R1.out.under hb1)
    clear hb1 c0 Q2 R1
    go_wp2_with fail
    refine (refshare_step n f (a + 1) b _ _ (840 - Y) _ R1'.out (by simp) (by have := KS.out; omega)).mono ?_
    rintro e z4 ⟨u2, rfl, hb2, hrl⟩
    have Q4 := Lib.hid (Q3.out.under hb2)
    have R2 := Lib.hid hrl
    clear hb2 hrl Q3 R1'
    obtain ⟨c0, c1, c2, c3⟩ := row4 Q4.out.2.2
    clear c1 c2 c3
    go_wp2_with fail
    refine (at_any n f (a + 1) (b + 1) g cap _ HN.out HV.out.1 (by have := KA.out; omega) Q4.out.2.1).mono ?_
    rintro e z5 ⟨rfl, hb1⟩
    have Q5 := Lib.hid (Q4.out.under hb1)
    have R2' := Lib.hid (R2.out.under hb1)
    clear hb1 c0 Q4 R2
    go_wp2_with fail
    refine (refshare_step n f (a + 1) (b + 1) _ _ (840 - U) _ R2'.out (by simp) (by have := KS.out; omega)).mono ?_
    rintro e z6 ⟨u3, rfl, hb2, hrl⟩
    have Q6 := Lib.hid (Q5.out.under hb2)
    have R3 := Lib.hid hrl
    clear hb2 hrl Q5 R2'
    go_wp2_with fail
    go_ret2
    exact rloc_of HN.out HV.out KT.out Q6.out.1 R3.out
end Go.Proofs.YtejoabaanclcbaaGreat



namespace Go.Proofs.YtejoabaanclcbaaGreat
open Go.RowKit Go.Maps

theorem refNearest_bad (n F a b c : Int) (w : World) (h : ¬ (1 ≤ n ∧ n ≤ 8) ∨ vb F a b c = false) :
    Calls Tryz.prog 25 #[.int .i64 n, .agg #[.int .i64 F, .int .i64 a, .int .i64 b, .int .i64 c]] w fun e w' => e = .returned (.tuple #[.int .i64 0, .int .i64 1]) ∧ Below w.heap.size w w' := by
  go_enter Tryz.func25, Tryz.ntmps25
  go_wp2_with fail
  refine (refLocate_bad _ _ _ _ _ _ h).mono ?_
  rintro e w1 ⟨rfl, hb1⟩
  go_wp2_with fail
  go_ret2
  exact ⟨rfl, ((Below.refl _ _).alloc (Nat.le_refl _) _).trans (hb1.mono (by simp))⟩
set_option maxRecDepth 100000 in
set_option maxHeartbeats 4000000 in
theorem refNearest_yes (n f : Nat) (A B C : Int) (w : World) (hn : Lat.frq n) (hv : Ico.Vld f A B C) :
    Calls Tryz.prog 25 #[.int .i64 n, .agg #[.int .i64 f, .int .i64 A, .int .i64 B, .int .i64 C]] w fun e w' => e = .returned (.tuple #[.int .i64 ((best (Lat.loc n f A B C)).1 : Nat), .int .i64 0]) ∧ Below w.heap.size w w' := by
  go_enter Tryz.func25, Tryz.ntmps25
  go_wp2_with fail
  refine (refLocate_yes n f A B C _ hn hv).mono ?_
  obtain ⟨l1, l3⟩ := Lat.loc_pos hn hv
  unfold RLocP
  generalize hloc : Lat.loc n f A B C = L at *
  have HLOC := Lib.hid hloc; clear hloc
  rintro e w1 ⟨v, rfl, h4, hSL⟩
  obtain ⟨g, cap, rfl, -, h2, -, h6, h7⟩ : ∃ g cap, v = .slice (some ⟨g, 0, none⟩) L.length cap ∧ 0 < L.length ∧ L.length ≤ cap ∧ cap ≤ maxLen ∧ g < w1.heap.size ∧ Shs w1 g L := by
    rcases hSL with ⟨h, -⟩ | h
    · rw [h] at l1; simp at l1
    · exact h
  clear hSL
  have b1 : Below w.heap.size w w1 := ((Below.refl _ _).alloc (Nat.le_refl _) _).trans (h4.mono (by simp))
  obtain ⟨q0, q1⟩ := h7 0 l1
  have H7 := Lib.hid h7; clear h7
  simp only [Nat.zero_mul, Nat.zero_add] at q0 q1
  have l0 : (0 : Int) < (L.length : Int) := by omega
  have hh : L.headD (0, 0) = L[0] := by cases L with | nil => simp at l1 | cons x r => rfl
  have N0 : Nr w g w1.heap.size L (bestTo L 0) (w1.alloc (.cells #[.int .i64 (L[0].1 : Int), .int .i64 L[0].2] 84)) :=
    ⟨b1.alloc b1.size _, H7.out.under h6 ((Below.refl _ _).alloc (Nat.le_refl _) _), by simp; omega, b1.size, by omega, by unfold bestTo; rw [hh]; exact Row.new _ _ _⟩
  have HN := Lib.hid N0; clear N0 hh b1 h4
  clear h6
  generalize hL0 : L[0] = x0 at *
  clear hL0
  go_upto_region 5 with fail
  refine forget (fun Y => Nr w g w1.heap.size L (bestTo L 0) Y) HN.out ?_
  clear HN H7 q0 q1
  generalize w1.heap.size = gb at *
  rintro Y N
  have HN := Lib.hid N; clear N
  go_wp2_with fail
  go_loopw [25] (fun t wr => ∃ k : Nat, k ≤ L.length ∧ t = .int .i64 k ∧ Nr w g gb L (bestTo L k) wr) (fun t _ => L.length - (intOf t).toNat)
  case atStart => exact ⟨0, by omega, rfl, HN.out⟩
  case round =>
    clear HN
    obtain ⟨k, hk, rfl, N⟩ := hrel
    by_cases hlt : k < L.length
    · have k0 : (0 : Int) ≤ (k : Int) := by omega
      have k1 : (k : Int) < (L.length : Int) := by omega
      obtain ⟨q0, q1⟩ := N.shs k hlt
      have HB := Lib.hid (bestTo_succ L k hlt)
      have P := N.put L[k]
      obtain ⟨r0, r1⟩ : wr.cell? ⟨gb, 0, none⟩ = some (.int .i64 ((bestTo L k).1 : Int)) ∧ wr.cell? ⟨gb, 1, none⟩ = some (.int .i64 (bestTo L k).2) := ⟨(N.row.cell 0).trans rfl, (N.row.cell 1).trans rfl⟩
      have hgb := Lib.hid N.row.lt
      have hgl := Lib.hid N.lg
      generalize hx : L[k] = x at *
      have HN := Lib.hid N; clear N P
      clear hx
      generalize hb : bestTo L k = bb at *
      clear hb
      go_upto_region 8 with fail
      refine forget (fun Z => Nr w g gb L bb Z ∧ Row Z wr.heap.size 84 #[.int .i64 (x.1 : Int), .int .i64 x.2]) ⟨HN.out.under ((Below.refl _ _).alloc (Nat.le_refl _) _), Row.new _ _ _⟩ ?_
      clear q0 q1 r0 r1 HN hgb hgl
      generalize wr.heap.size = gx at *
      rintro Z ⟨N, rx⟩
      obtain ⟨q0, q1⟩ : Z.cell? ⟨gx, 0, none⟩ = some (.int .i64 (x.1 : Int)) ∧ Z.cell? ⟨gx, 1, none⟩ = some (.int .i64 x.2) := ⟨(rx.cell 0).trans rfl, (rx.cell 1).trans rfl⟩
      obtain ⟨r0, r1⟩ : Z.cell? ⟨gb, 0, none⟩ = some (.int .i64 (bb.1 : Int)) ∧ Z.cell? ⟨gb, 1, none⟩ = some (.int .i64 bb.2) := ⟨(N.row.cell 0).trans rfl, (N.row.cell 1).trans rfl⟩
      have f0 := N.row.thaw 0
      have f1 := N.row.thaw 1
      have HN := Lib.hid N; clear N rx
      by_cases hc : bb.2 < x.2
      · have HC := Lib.hid (show better bb x = x from if_pos hc)
        go_wp2_with fail
        go_roundw
        case rel => exact ⟨k + 1, by omega, by go_num, by rw [HB.out, HC.out]; exact HN.out.put x⟩
        case measure => simp [intOf]; omega
      · have HC := Lib.hid (show better bb x = bb from if_neg hc)
        go_wp2_with fail
        go_roundw
        case rel => exact ⟨k + 1, by omega, by go_num, by rw [HB.out, HC.out]; exact HN.out⟩
        case measure => simp [intOf]; omega
    · have hke : k = L.length := by omega
      have k1 : ¬ ((k : Int) < (L.length : Int)) := by omega
      have hbe : bestTo L k = best L := by unfold bestTo best; rw [hke, List.take_length]
      rw [hbe] at N
      have HKE := Lib.hid hke; clear hke hbe
      obtain ⟨r0, r1⟩ : wr.cell? ⟨gb, 0, none⟩ = some (.int .i64 ((best L).1 : Int)) ∧ wr.cell? ⟨gb, 1, none⟩ = some (.int .i64 (best L).2) := ⟨(N.row.cell 0).trans rfl, (N.row.cell 1).trans rfl⟩
      have HN := Lib.hid N; clear N
      go_wp2_with fail
      go_ret2
      exact ⟨by rw [HLOC.out]; rfl, HN.out.below⟩
end Go.Proofs.YtejoabaanclcbaaGreat



namespace Go.Proofs.YtejoabaanclcbaaGreat
open Go.RowKit

/-- A function's answer is a pair of numbers, whatever the world. -/
def Pair (F : Nat) (n f a b c x y : Int) : Prop := ∀ w, Calls Tryz.prog F #[.int .i64 n, .agg #[.int .i64 f, .int .i64 a, .int .i64 b, .int .i64 c]] w fun e w' => e = .returned (.tuple #[.int .i64 x, .int .i64 y]) ∧ Below w.heap.size w w'
/-- A function's answer is a list of shares and a number. -/
def Lst (F : Nat) (n f a b c : Int) (L : List (Nat × Int)) (y : Int) : Prop := ∀ w, Calls Tryz.prog F #[.int .i64 n, .agg #[.int .i64 f, .int .i64 a, .int .i64 b, .int .i64 c]] w fun e w' => ∃ v, e = .returned (.tuple #[v, .int .i64 y]) ∧ Below w.heap.size w w' ∧ ShIn w' v L
theorem ok_or (n F a b c : Int) : (¬ (1 ≤ n ∧ n ≤ 8) ∨ vb F a b c = false) ∨ ∃ m f : Nat, n = m ∧ F = f ∧ Lat.frq m ∧ Ico.Vld f a b c := by
  by_cases hn : 1 ≤ n ∧ n ≤ 8
  · cases h : vb F a b c
    · exact .inl (.inr rfl)
    · obtain ⟨f, hf, hv⟩ := vb_nat h
      exact .inr ⟨n.toNat, f, by omega, hf, ⟨by omega, by omega⟩, hv⟩
  · exact .inl (.inl hn)
end Go.Proofs.YtejoabaanclcbaaGreat


