/- The contract of Locate. -/
import Derived.Test.YtehehhehilgnkaaGreatShares
namespace Go.Proofs.YtehehhehilgnkaaGreat
open Go.RowKit Go.Maps

/-- What Locate leaves for a frequency and a place. -/
def LocateR (W : World) (L : List (Nat × Int)) (e : Ending) (w : World) : Prop := ∃ v, e = .returned (.tuple #[v, .int .i64 0]) ∧ ShareR W L v w
theorem locate_bad (n F a b c : Int) (w : World) (h : ¬ (1 ≤ n ∧ n ≤ 8) ∨ vb F a b c = false) :
    Calls Tryz.prog 32 #[.int .i64 n, .agg #[.int .i64 F, .int .i64 a, .int .i64 b, .int .i64 c]] w fun e w' => e = .returned (.tuple #[.slice none 0 0, .int .i64 1]) ∧ Below w.heap.size w w' := by
  by_cases h1 : 1 ≤ n ∧ n ≤ 8
  · have h2 : vb F a b c = false := h.resolve_left (fun k => k h1)
    have hd : decide (1 ≤ n ∧ n ≤ 8) = true := decide_eq_true h1
    clear h h1
    go_enter Tryz.func32, Tryz.ntmps32
    go_wp2_with fail
    refine (isFrequency_any _ _).mono ?_
    rintro e w1 ⟨rfl, rfl⟩
    go_wp2_with fail
    refine (valid_any _ _ _ _ _).mono ?_
    rintro e w2 ⟨rfl, hb2⟩
    go_wp2_with fail
    go_ret2
    exact ⟨rfl, ((Below.refl _ _).alloc (Nat.le_refl _) _).trans (hb2.mono (by simp))⟩
  · have hd : decide (1 ≤ n ∧ n ≤ 8) = false := decide_eq_false h1
    clear h h1
    go_enter Tryz.func32, Tryz.ntmps32
    go_wp2_with fail
    refine (isFrequency_any _ _).mono ?_
    rintro e w1 ⟨rfl, rfl⟩
    go_wp2_with fail
    go_ret2
    exact ⟨rfl, (Below.refl _ _).alloc (Nat.le_refl _) _⟩
theorem shares_loc {W w' : World} {n f : Nat} {A B C : Int} {e : Ending} (hn : Lat.frq n) (hv : Ico.Vld f A B C) {T : List ((Nat × Nat) × Int)} (hT : Lat.tri n A B C = T) (h : ShareS W (Lat.shl n f T) e w') : ∃ v, e = .returned v ∧ ShareR W (Lat.loc n f A B C) v w' := by
  obtain ⟨v, L', he, hp, hs, hr⟩ := h
  rw [← hT] at hp
  rw [Lat.loc_uniq hn hv hp hs] at hr
  exact ⟨v, he, hr⟩
theorem vb_of {f : Nat} {a b c : Int} (h : Ico.Vld f a b c) : vb f a b c = true := by
  unfold Ico.Vld at h
  unfold vb
  exact decide_eq_true (by omega)
theorem tri_cases {n f : Nat} {A B C : Int} (hn : Lat.frq n) (hv : Ico.Vld f A B C) :
    (Lat.rs n A = 0 ∧ Lat.rs n B = 0 ∧ Lat.rs n C = 0 ∧ Lat.xa n A + Lat.xa n B + Lat.xa n C = n ∧ Lat.tri n A B C = [((Lat.xa n A, Lat.xa n B), 840), ((Lat.xa n A, Lat.xa n B), 0), ((Lat.xa n A, Lat.xa n B), 0)]) ∨
    (Lat.rs n A + Lat.rs n B + Lat.rs n C = 840 ∧ Lat.xa n A + Lat.xa n B + Lat.xa n C + 1 = n ∧ Lat.tri n A B C = [((Lat.xa n A + 1, Lat.xa n B), Lat.rs n A), ((Lat.xa n A, Lat.xa n B + 1), Lat.rs n B), ((Lat.xa n A, Lat.xa n B), Lat.rs n C)]) ∨
    (Lat.rs n A + Lat.rs n B + Lat.rs n C = 1680 ∧ Lat.xa n A + Lat.xa n B + Lat.xa n C + 2 = n ∧ Lat.tri n A B C = [((Lat.xa n A, Lat.xa n B + 1), 840 - Lat.rs n A), ((Lat.xa n A + 1, Lat.xa n B), 840 - Lat.rs n B), ((Lat.xa n A + 1, Lat.xa n B + 1), 840 - Lat.rs n C)]) := by
  unfold Lat.tri
  rcases (Lat.cut hn hv).2 with ⟨a, b, c, d⟩ | ⟨a, b⟩ | ⟨a, b⟩
  · exact .inl ⟨a, b, c, d, by rw [if_pos (by omega)]⟩
  · exact .inr (.inl ⟨a, b, by rw [if_neg (by omega), if_pos a]⟩)
  · exact .inr (.inr ⟨a, b, by rw [if_neg (by omega), if_neg (by omega)]⟩)
theorem ShareR.lower {W W0 w : World} {L : List (Nat × Int)} {v : Value} (h : ShareR W L v w) (hb : Below W0.heap.size W0 W) : ShareR W0 L v w := by
  obtain ⟨g, cap, h1, h2, h3, h4, h5, h6, h7⟩ := h
  exact ⟨g, cap, h1, h2, h3, hb.trans (h4.mono hb.size), Nat.le_trans hb.size h5, h6, h7⟩
set_option maxRecDepth 100000 in
set_option maxHeartbeats 4000000 in
theorem locate_yes (n f : Nat) (A B C : Int) (w : World) (hn : Lat.frq n) (hv : Ico.Vld f A B C) :
    Calls Tryz.prog 32 #[.int .i64 n, .agg #[.int .i64 f, .int .i64 A, .int .i64 B, .int .i64 C]] w (LocateR w (Lat.loc n f A B C)) := by
  have hvb := vb_of hv
  have HV := Lib.hid hv
  have HN := Lib.hid hn
  obtain ⟨-, A1, A2, B1, B2, C1, C2, -⟩ := hv
  obtain ⟨dA1, dA2, p1, p2, rA0, rA1⟩ := Lat.div_eq hn A1
  obtain ⟨dB1, dB2, -, -, rB0, rB1⟩ := Lat.div_eq hn B1
  obtain ⟨dC1, dC2, -, -, rC0, rC1⟩ := Lat.div_eq hn C1
  have n1 : 1 ≤ (n : Int) ∧ (n : Int) ≤ 8 := by unfold Lat.frq at hn; omega
  obtain ⟨n1, n2⟩ := n1
  clear hn
  obtain ⟨⟨s1, s2, s3, s4, s5, s6⟩, hc⟩ := Lat.cut HN.out HV.out
  have HC := Lib.hid hc; clear hc
  have x1 : IntKind.i64.wrap (A % ((840 : Int) / (n : Int)) * (n : Int)) = Lat.rs n A := by rw [dA2]; exact IntWalk.i64_in _ (by omega)
  have x2 : IntKind.i64.wrap (B % ((840 : Int) / (n : Int)) * (n : Int)) = Lat.rs n B := by rw [dB2]; exact IntWalk.i64_in _ (by omega)
  have x3 : IntKind.i64.wrap (C % ((840 : Int) / (n : Int)) * (n : Int)) = Lat.rs n C := by rw [dC2]; exact IntWalk.i64_in _ (by omega)
  have z0 : ((840 : Int) / (n : Int) == 0) = false := beq_eq_false_iff_ne.2 (by omega)
  have tA : A.tdiv ((840 : Int) / (n : Int)) = (Lat.xa n A : Int) := by rw [Int.tdiv_eq_ediv_of_nonneg A1]; exact dA1
  have tB : B.tdiv ((840 : Int) / (n : Int)) = (Lat.xa n B : Int) := by rw [Int.tdiv_eq_ediv_of_nonneg B1]; exact dB1
  have tC : C.tdiv ((840 : Int) / (n : Int)) = (Lat.xa n C : Int) := by rw [Int.tdiv_eq_ediv_of_nonneg C1]; exact dC1
  have uA : A.tmod ((840 : Int) / (n : Int)) = A % ((840 : Int) / (n : Int)) := Int.tmod_eq_emod_of_nonneg A1
  have uB : B.tmod ((840 : Int) / (n : Int)) = B % ((840 : Int) / (n : Int)) := Int.tmod_eq_emod_of_nonneg B1
  have uC : C.tmod ((840 : Int) / (n : Int)) = C % ((840 : Int) / (n : Int)) := Int.tmod_eq_emod_of_nonneg C1
  have y1 : IntKind.i64.wrap (A % ((840 : Int) / (n : Int))) = A % ((840 : Int) / (n : Int)) := IntWalk.i64_in _ (by omega)
  have y2 : IntKind.i64.wrap (B % ((840 : Int) / (n : Int))) = B % ((840 : Int) / (n : Int)) := IntWalk.i64_in _ (by omega)
  have y3 : IntKind.i64.wrap (C % ((840 : Int) / (n : Int))) = C % ((840 : Int) / (n : Int)) := IntWalk.i64_in _ (by omega)
  have a8 : Lat.xa n A ≤ 8 ∧ Lat.xa n B ≤ 8 ∧ Lat.xa n C ≤ 8 := by have := HC.out; omega
  have v1 : IntKind.i64.wrap (Lat.xa n A : Int) = (Lat.xa n A : Int) := IntWalk.i64_in _ (by omega)
  have v2 : IntKind.i64.wrap (Lat.xa n B : Int) = (Lat.xa n B : Int) := IntWalk.i64_in _ (by omega)
  have v3 : IntKind.i64.wrap (Lat.xa n C : Int) = (Lat.xa n C : Int) := IntWalk.i64_in _ (by omega)
  have A8 := Lib.hid a8; clear a8
  clear dA2 dB2 dC2
  go_enter Tryz.func32, Tryz.ntmps32
  go_wp2_with fail
  refine (isFrequency_yes _ _ HN.out).mono ?_
  rintro e w1 ⟨rfl, rfl⟩
  go_wp2_with fail
  have r0 := Row.new w #[.int .i64 f, .int .i64 A, .int .i64 B, .int .i64 C] 32
  refine (valid_any _ _ _ _ _).mono ?_
  rintro e w2 ⟨rfl, hb2⟩
  rw [hvb]
  have r2 := r0.under hb2
  have b2 : Below w.heap.size w w2 := ((Below.refl _ _).alloc (Nat.le_refl _) _).trans (hb2.mono (by simp))
  clear r0 hb2
  generalize w.heap.size = gp at r2
  obtain ⟨c0, c1, c2, c3⟩ := row4 r2
  go_upto_region 4 with fail
  have eg := World.new_ne w2 ⟨gp, 0, none⟩ c0
  generalize hq : (840 : Int) / (n : Int) = q at *
  clear hq
  have zq : ¬ q = 0 := by omega
  go_region_held3 (fun w' => w'.cell? ⟨gp, 0, none⟩ = some (.int .i64 f) ∧ w'.cell? ⟨gp, 1, none⟩ = some (.int .i64 A) ∧ w'.cell? ⟨gp, 2, none⟩ = some (.int .i64 B) ∧ w'.cell? ⟨gp, 3, none⟩ = some (.int .i64 C)) (go_keep) (fail)
  go_upto_region 5 with fail
  refine forget (fun Z => Below w.heap.size w Z ∧ Row Z gp 32 #[.int .i64 f, .int .i64 A, .int .i64 B, .int .i64 C] ∧ Row Z w2.heap.size 79 #[.int .i64 f, .int .i64 (Lat.xa n A : Nat), .int .i64 (Lat.xa n B : Nat), .int .i64 (Lat.xa n C : Nat)])
    ⟨(b2.alloc b2.size _).drew, (r2.alloc _).drew, (Row.new _ _ _).drew⟩ ?_
  clear b2 r2 c0 c1 c2 c3 eg
  generalize w2.heap.size = gq at *
  rintro Z ⟨bZ, r1, r2⟩
  obtain ⟨c0, c1, c2, c3⟩ := row4 r1
  obtain ⟨d0, d1, d2, d3⟩ := row4 r2
  have BZ := Lib.hid bZ; clear bZ
  have R2 := Lib.hid r2; clear r2 r1
  go_quiet (fail)
  have HT := Lib.hid (tri_cases HN.out HV.out)
  generalize Lat.rs n A = X at *
  generalize Lat.rs n B = Y at *
  generalize Lat.rs n C = U at *
  generalize Lat.xa n A = a at *
  generalize Lat.xa n B = b at *
  generalize Lat.xa n C = c at *
  clear x1 x2 x3 y1 y2 y3 v1 v2 v3 tA tB tC uA uB uC dA1 dB1 dC1 z0 zq rA0 rA1 rB0 rB1 rC0 rC1 p1 p2
  have a0 : 0 ≤ (a : Int) ∧ (a : Int) ≤ 8 ∧ 0 ≤ (b : Int) ∧ (b : Int) ≤ 8 ∧ 0 ≤ (c : Int) ∧ (c : Int) ≤ 8 := by have := A8.out; omega
  obtain ⟨i1, i2, i3, i4, i5, i6⟩ := a0
  rcases HT.out with ⟨hX, hY, hU, hab, hT⟩ | ⟨hS, hab, hT⟩ | ⟨hS, hab, hT⟩
  · have KT := Lib.hid hT; clear hT
    have KA := Lib.hid hab; clear hab
    subst hX hY hU
    go_wp2_with fail
    refine (shares_any n f a b a b a b c c c 840 0 0 _ HN.out HV.out.1 (fun _ => by have := KA.out; omega) (fun _ => by have := KA.out; omega) (fun _ => by have := KA.out; omega) (.inl (by omega))).mono ?_
    rintro e w5 h5
    obtain ⟨v, rfl, hr⟩ := shares_loc HN.out HV.out KT.out h5
    have HR := Lib.hid hr; clear hr h5
    go_wp2_with fail
    go_ret2
    exact ⟨v, rfl, HR.out.lower (below_drewN BZ.out _)⟩
  · have KT := Lib.hid hT; clear hT
    have KA := Lib.hid hab; clear hab
    have t0 : (X + Y + U == 0) = false := beq_eq_false_iff_ne.2 (by omega)
    have t1 : (X + Y + U == 840) = true := beq_iff_eq.2 hS
    have KS := Lib.hid hS; clear hS
    go_wp2_with fail
    refine (upright_any _ _ _ _ _ i1 i2 i3 i4 i5 i6).mono ?_
    rintro e w5 ⟨rfl, hb5⟩
    have B5 := Lib.hid ((below_drewN BZ.out _).trans (hb5.mono BZ.out.size)); clear hb5
    go_wp2_with fail
    refine (shares_any n f (a + 1) b a (b + 1) a b c c (c + 1) X Y U _ HN.out HV.out.1 (fun _ => by have := KA.out; omega) (fun _ => by have := KA.out; omega) (fun _ => by have := KA.out; omega) (by have := KS.out; omega)).mono ?_
    rintro e w6 h6
    obtain ⟨v, rfl, hr⟩ := shares_loc HN.out HV.out KT.out h6
    have HR := Lib.hid hr; clear hr h6
    go_wp2_with fail
    go_ret2
    exact ⟨v, rfl, HR.out.lower B5.out⟩
  · have KT := Lib.hid hT; clear hT
    have KA := Lib.hid hab; clear hab
    have t0 : (X + Y + U == 0) = false := beq_eq_false_iff_ne.2 (by omega)
    have t1 : (X + Y + U == 840) = false := beq_eq_false_iff_ne.2 (by omega)
    have KS := Lib.hid hS; clear hS
    go_wp2_with fail
    refine (inverted_any _ _ _ _ _ i1 i2 i3 i4 i5 i6).mono ?_
    rintro e w5 ⟨rfl, hb5⟩
    have B5 := Lib.hid ((below_drewN BZ.out _).trans (hb5.mono BZ.out.size)); clear hb5
    go_wp2_with fail
    refine (shares_any n f a (b + 1) (a + 1) b (a + 1) (b + 1) (c + 1) (c + 1) c (840 - X) (840 - Y) (840 - U) _ HN.out HV.out.1 (fun _ => by have := KA.out; omega) (fun _ => by have := KA.out; omega) (fun _ => by have := KA.out; omega) (by have := KS.out; omega)).mono ?_
    rintro e w6 h6
    obtain ⟨v, rfl, hr⟩ := shares_loc HN.out HV.out KT.out h6
    have HR := Lib.hid hr; clear hr h6
    go_wp2_with fail
    go_ret2
    exact ⟨v, rfl, HR.out.lower B5.out⟩
end Go.Proofs.YtehehhehilgnkaaGreat

