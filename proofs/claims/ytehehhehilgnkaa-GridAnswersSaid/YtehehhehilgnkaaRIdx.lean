/- The contract of the reference's Index, and of the program's Index at a place that is no node. -/
import Derived.Test.YtehehhehilgnkaaRAt
namespace Go.Proofs.Ytehehhehilgnkaa
open Go.RowKit

theorem wd_xa {n : Nat} {A : Int} (hn : Lat.frq n) (h0 : 0 ≤ A) (h1 : A ≤ 840) (h : Lat.rs n A = 0) : A = wd n (Lat.xa n A) := by
  rcases Lat.eight hn with rfl | rfl | rfl | rfl | rfl | rfl | rfl | rfl <;> (simp only [Lat.rs, Lat.xa, wd] at *; simp at *; omega)
theorem no_same {n f : Nat} {A B C : Int} (hn : Lat.frq n) (hv : Ico.Vld f A B C) (hz : ¬ (Lat.rs n A = 0 ∧ Lat.rs n B = 0 ∧ Lat.rs n C = 0)) : ∀ k, k < cn n → ¬ sameN n k (Ico.nf f A B C) (nw f A B C 0) (nw f A B C 1) := by
  intro k hk hs
  obtain ⟨hf', hab', -⟩ := Lat.nd_in hn hk
  obtain ⟨e1, e2, e3⟩ := hs
  have hV := nf_vld hv
  have e4 : nw f A B C 2 = wd n (n - (Lat.nd n k).2.1 - (Lat.nd n k).2.2) := by
    rw [← (wd_le hn).2.2 hab', e2, e3]
    have := hV.2.2.2.2.2.2.2
    omega
  have hon : ∀ v, Ico.wt (Ico.nf f A B C) (nw f A B C 0) (nw f A B C 1) (nw f A B C 2) v = Ico.wt f A B C v := Ico.wt_on hv (Ico.nf_ok hv).1 (Ico.nf_ok hv).2
  have hall : ∀ v, Lat.rs n (Ico.wt f A B C v) = 0 := by
    intro v
    rw [← hon v, ← e2, ← e3, e4, wt_wd hn]
    exact (rs_wd hn (Lat.wn_le (by omega) (by omega) (by omega) v)).1
  refine hz ⟨?_, ?_, ?_⟩
  · have := hall (Ico.cor f 0); rwa [Ico.wt0] at this
  · have := hall (Ico.cor f 1); rwa [Ico.wt1 hv.1] at this
  · have := hall (Ico.cor f 2); rwa [Ico.wt2 hv.1] at this
theorem vb_nat {F a b c : Int} (h : vb F a b c = true) : ∃ f : Nat, F = f ∧ Ico.Vld f a b c := by
  unfold vb at h
  have h' := of_decide_eq_true h
  exact ⟨F.toNat, by omega, by unfold Ico.Vld; omega⟩
theorem refIndex_bad (n F a b c : Int) (w : World) (h : ¬ (1 ≤ n ∧ n ≤ 8) ∨ vb F a b c = false) :
    Calls Try.prog 15 #[.int .i64 n, .agg #[.int .i64 F, .int .i64 a, .int .i64 b, .int .i64 c]] w fun e w' => e = .returned (.tuple #[.int .i64 0, .int .i64 1]) ∧ Below w.heap.size w w' := by
  cases hvb : vb F a b c
  · clear h
    go_enter Try.func15, Try.ntmps15
    go_wp2_with fail
    refine (refNormal_no _ _ _ _ _ hvb).mono ?_
    rintro e w1 ⟨rfl, hb1⟩
    have B1 := Lib.hid (((Below.refl w.heap.size w).alloc (Nat.le_refl _) (.cells #[.int .i64 F, .int .i64 a, .int .i64 b, .int .i64 c] 23)).trans (hb1.mono (by simp)))
    clear hb1
    by_cases hn : 1 ≤ n ∧ n ≤ 8
    · obtain ⟨m, rfl⟩ := Int.eq_ofNat_of_zero_le (show 0 ≤ n by omega)
      have hm : Lat.frq m := ⟨by omega, by omega⟩
      have hc : 1 ≤ (cn m : Int) := by unfold cn; omega
      have z0 : ((cn m : Int) == 0) = false := beq_eq_false_iff_ne.2 (by omega)
      clear hn
      go_wp2_with fail
      refine (refCount_yes _ _ hm).mono ?_
      rintro e w2 ⟨rfl, rfl⟩
      go_wp2_with fail
      go_ret2
      exact ⟨rfl, B1.out.alloc B1.out.size _⟩
    · go_wp2_with fail
      refine (refCount_no _ _ hn).mono ?_
      rintro e w2 ⟨rfl, rfl⟩
      go_wp2_with fail
      go_ret2
      exact ⟨rfl, B1.out.alloc B1.out.size _⟩
  · have hn : ¬ (1 ≤ n ∧ n ≤ 8) := h.resolve_right (by rw [hvb]; decide)
    obtain ⟨f, rfl, hv⟩ := vb_nat hvb
    have HV := Lib.hid hv; clear hv h hvb
    have HN := Lib.hid hn; clear hn
    go_enter Try.func15, Try.ntmps15
    go_wp2_with fail
    refine (refNormal_yes _ _ _ _ _ HV.out).mono ?_
    rintro e w1 ⟨rfl, hb1⟩
    have B1 := Lib.hid (((Below.refl w.heap.size w).alloc (Nat.le_refl _) (.cells #[.int .i64 f, .int .i64 a, .int .i64 b, .int .i64 c] 23)).trans (hb1.mono (by simp)))
    clear hb1
    go_wp2_with fail
    refine (refCount_no _ _ HN.out).mono ?_
    rintro e w2 ⟨rfl, rfl⟩
    go_wp2_with fail
    go_ret2
    exact ⟨rfl, B1.out.alloc B1.out.size _⟩
/-- What Index answers for a frequency and a place. -/
def IndexR (W : World) (n f : Nat) (A B C : Int) (e : Ending) (w : World) : Prop := Below W.heap.size W w ∧
  ((Lat.rs n A = 0 ∧ Lat.rs n B = 0 ∧ Lat.rs n C = 0 ∧ e = .returned (.tuple #[.int .i64 (Lat.idx n f (Lat.xa n A) (Lat.xa n B) : Nat), .int .i64 0])) ∨
   (¬ (Lat.rs n A = 0 ∧ Lat.rs n B = 0 ∧ Lat.rs n C = 0) ∧ e = .returned (.tuple #[.int .i64 0, .int .i64 9])))
set_option maxRecDepth 100000 in
set_option maxHeartbeats 2000000 in
theorem refIndex_yes (n f : Nat) (A B C : Int) (w : World) (hn : Lat.frq n) (hv : Ico.Vld f A B C) :
    Calls Try.prog 15 #[.int .i64 n, .agg #[.int .i64 f, .int .i64 A, .int .i64 B, .int .i64 C]] w (IndexR w n f A B C) := by
  have HV := Lib.hid hv; clear hv
  have hc : 1 ≤ (cn n : Int) := by unfold cn; omega
  have z0 : ((cn n : Int) == 0) = false := beq_eq_false_iff_ne.2 (by omega)
  have HN := Lib.hid hn; clear hn
  go_enter Try.func15, Try.ntmps15
  go_wp2_with fail
  refine (refNormal_yes _ _ _ _ _ HV.out).mono ?_
  rintro e w1 ⟨rfl, hb1⟩
  have b1 : Below w.heap.size w w1 := ((Below.refl w.heap.size w).alloc (Nat.le_refl _) _).trans (hb1.mono (by simp))
  go_upto_region 2 with fail
  refine forget (fun Y => Below w.heap.size w Y ∧ Row Y w1.heap.size 23 #[.int .i64 (Ico.nf f A B C : Nat), .int .i64 (nw f A B C 0), .int .i64 (nw f A B C 1), .int .i64 (nw f A B C 2)]) ⟨b1.alloc b1.size _, Row.new _ _ _⟩ ?_
  clear b1 hb1
  generalize w1.heap.size = gq at *
  rintro Y ⟨bY, r⟩
  have BY := Lib.hid bY; clear bY
  go_wp2_with fail
  refine (refCount_yes _ _ HN.out).mono ?_
  rintro e w2 ⟨rfl, rfl⟩
  go_wp2_with fail
  refine (refNodes_yes _ _ HN.out).mono ?_
  rintro e w3 ⟨g, cap, rfl, hb3, hown⟩
  have HL := Lib.hid (NdL.of HN.out hown); clear hown
  have B3 := Lib.hid (BY.out.trans (hb3.mono BY.out.size))
  obtain ⟨p0, p1, p2, p3⟩ := row4 (r.under hb3)
  clear r hb3
  go_wp2_with fail
  refine (reffind_any n _ g cap _ _ _ _ HN.out (nf_vld HV.out) HL.out).mono ?_
  rintro e w4 ⟨hb4, r, rfl, hr⟩
  have B4 := Lib.hid (B3.out.trans (hb4.mono B3.out.size)); clear hb4
  clear p0 p1 p2 p3
  by_cases hz : Lat.rs n A = 0 ∧ Lat.rs n B = 0 ∧ Lat.rs n C = 0
  · obtain ⟨h0, h1, h2⟩ := hz
    have hab : Lat.xa n A + Lat.xa n B ≤ n := by have := (Lat.cut HN.out HV.out).2; omega
    have hre : r = (Lat.idx n f (Lat.xa n A) (Lat.xa n B) : Nat) := by
      obtain ⟨v0, v1, v2, v3, v4, v5, v6, v7⟩ := HV.out
      have eA := wd_xa HN.out v1 v2 h0
      have eB := wd_xa HN.out v3 v4 h1
      have eC : C = wd n (n - Lat.xa n A - Lat.xa n B) := by rw [← (wd_le HN.out).2.2 hab, ← eA, ← eB]; omega
      have hs := same_idx HN.out v0 hab
      rw [← eA, ← eB, ← eC] at hs
      rcases hr with ⟨k, hk, rfl, hs'⟩ | ⟨-, hno⟩
      · rw [same_uniq HN.out hk (Lat.ix_of HN.out v0 hab).2.1 hs' hs]
      · exact absurd hs (hno _ (Lat.ix_of HN.out v0 hab).2.1)
    subst hre
    have H0 := Lib.hid (show Lat.rs n A = 0 ∧ Lat.rs n B = 0 ∧ Lat.rs n C = 0 from ⟨h0, h1, h2⟩)
    clear h0 h1 h2 hr hab
    go_wp2_with fail
    go_ret2
    exact ⟨B4.out, .inl ⟨H0.out.1, H0.out.2.1, H0.out.2.2, rfl⟩⟩
  · have hre : r = -1 := by
      rcases hr with ⟨k, hk, rfl, hs'⟩ | ⟨h, -⟩
      · exact absurd hs' (no_same HN.out HV.out hz k hk)
      · exact h
    subst hre
    have HZ := Lib.hid hz; clear hz hr
    go_wp2_with fail
    go_ret2
    exact ⟨B4.out, .inr ⟨HZ.out, rfl⟩⟩
set_option maxRecDepth 100000 in
set_option maxHeartbeats 2000000 in
theorem index_none (n f : Nat) (A B C : Int) (w : World) (hn : Lat.frq n) (hv : Ico.Vld f A B C) (hz : ¬ (Lat.rs n A = 0 ∧ Lat.rs n B = 0 ∧ Lat.rs n C = 0)) :
    Calls Try.prog 14 #[.int .i64 n, .agg #[.int .i64 f, .int .i64 A, .int .i64 B, .int .i64 C]] w fun e w' => e = .returned (.tuple #[.int .i64 0, .int .i64 9]) ∧ Below w.heap.size w w' := by
  have hvb := vb_of hv
  have HN := Lib.hid hn
  obtain ⟨-, A1, A2, B1, B2, C1, C2, -⟩ := hv
  obtain ⟨-, dA2, p1, p2, rA0, rA1⟩ := Lat.div_eq hn A1
  obtain ⟨-, dB2, -, -, rB0, rB1⟩ := Lat.div_eq hn B1
  obtain ⟨-, dC2, -, -, rC0, rC1⟩ := Lat.div_eq hn C1
  have hz' : ¬ (A % ((840 : Int) / (n : Int)) = 0 ∧ B % ((840 : Int) / (n : Int)) = 0 ∧ C % ((840 : Int) / (n : Int)) = 0) := fun h => hz ⟨by rw [← dA2, h.1]; simp, by rw [← dB2, h.2.1]; simp, by rw [← dC2, h.2.2]; simp⟩
  clear hn dA2 dB2 dC2 hz
  have n1 : 1 ≤ (n : Int) ∧ (n : Int) ≤ 8 := by have := HN.out; unfold Lat.frq at this; omega
  obtain ⟨n1, n2⟩ := n1
  have hcase : (A % ((840 : Int) / (n : Int)) ≠ 0) ∨ (A % ((840 : Int) / (n : Int)) = 0 ∧ B % ((840 : Int) / (n : Int)) ≠ 0) ∨ (A % ((840 : Int) / (n : Int)) = 0 ∧ B % ((840 : Int) / (n : Int)) = 0 ∧ C % ((840 : Int) / (n : Int)) ≠ 0) := by omega
  have HC := Lib.hid hcase; clear hcase hz'
  go_enter Try.func14, Try.ntmps14
  go_wp2_with fail
  refine (isFrequency_yes _ _ HN.out).mono ?_
  rintro e w1 ⟨rfl, rfl⟩
  go_wp2_with fail
  have r0 := Row.new w #[.int .i64 f, .int .i64 A, .int .i64 B, .int .i64 C] 23
  refine (valid_any _ _ _ _ _).mono ?_
  rintro e w2 ⟨rfl, hb2⟩
  rw [hvb]
  have r2 := r0.under hb2
  have B2' := Lib.hid (((Below.refl w.heap.size w).alloc (Nat.le_refl _) (.cells #[.int .i64 f, .int .i64 A, .int .i64 B, .int .i64 C] 23)).trans (hb2.mono (by simp)))
  clear r0 hb2
  generalize w.heap.size = gp at r2
  obtain ⟨c0, c1, c2, c3⟩ := row4 r2
  clear r2
  go_upto_region 4 with fail
  generalize hq : (840 : Int) / (n : Int) = q at *
  clear hq
  have zq : ¬ q = 0 := by omega
  rcases HC.out with h | ⟨h0, h⟩ | ⟨h0, h1, h⟩
  · have e1 : (A % q != 0) = true := by simpa using h
    clear HC
    go_wp2_with fail
    go_ret2
    exact ⟨rfl, B2'.out⟩
  · have e1 : (B % q != 0) = true := by simpa using h
    clear HC
    go_wp2_with fail
    go_ret2
    exact ⟨rfl, B2'.out⟩
  · have e1 : (C % q != 0) = true := by simpa using h
    clear HC
    go_wp2_with fail
    go_ret2
    exact ⟨rfl, B2'.out⟩
theorem index_any (n f : Nat) (A B C : Int) (w : World) (hn : Lat.frq n) (hv : Ico.Vld f A B C) :
    Calls Try.prog 14 #[.int .i64 n, .agg #[.int .i64 f, .int .i64 A, .int .i64 B, .int .i64 C]] w (IndexR w n f A B C) := by
  by_cases hz : Lat.rs n A = 0 ∧ Lat.rs n B = 0 ∧ Lat.rs n C = 0
  · exact (index_yes n f A B C w hn hv hz.1 hz.2.1 hz.2.2).mono fun _ _ ⟨he, hb⟩ => ⟨hb, .inl ⟨hz.1, hz.2.1, hz.2.2, he⟩⟩
  · exact (index_none n f A B C w hn hv hz).mono fun _ _ ⟨he, hb⟩ => ⟨hb, .inr ⟨hz, he⟩⟩
end Go.Proofs.Ytehehhehilgnkaa
