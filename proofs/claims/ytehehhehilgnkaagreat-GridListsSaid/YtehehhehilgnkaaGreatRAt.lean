/- The contract of the reference's at. -/
import Derived.Test.YtehehhehilgnkaaGreatRFind
namespace Go.Proofs.YtehehhehilgnkaaGreat
open Go.RowKit

theorem wt_wd {n : Nat} (hn : Lat.frq n) (f a b c v : Nat) : Ico.wt f (wd n a) (wd n b) (wd n c) v = wd n (Lat.wn f a b c v) := by
  have h0 := (wd_step (a := 0) hn).2.2.1
  unfold Ico.wt Lat.wn
  split
  · rfl
  · split
    · rfl
    · split
      · rfl
      · exact h0.symm
/-- The node of a point, seen from its least face. -/
theorem same_idx {n f a b : Nat} (hn : Lat.frq n) (hf : f < 20) (hab : a + b ≤ n) :
    sameN n (Lat.idx n f a b) (Ico.nf f (wd n a) (wd n b) (wd n (n - a - b))) (nw f (wd n a) (wd n b) (wd n (n - a - b)) 0) (nw f (wd n a) (wd n b) (wd n (n - a - b)) 1) := by
  obtain ⟨-, hk, hp⟩ := Lat.ix_of hn hf hab
  obtain ⟨hf', hab', -⟩ := Lat.nd_in hn hk
  have hnr := Lat.nd_nrm hn hk
  generalize hkk : Lat.idx n f a b = k at *
  obtain ⟨⟨f', a', b'⟩, hnd⟩ : ∃ q, Lat.nd n k = q := ⟨_, rfl⟩
  rw [hnd] at hf' hab' hnr hp
  simp only at hf' hab' hnr
  have h9 : n ≤ 8 := hn.2
  have hw : ∀ v, Lat.wn f' a' b' (n - a' - b') v = Lat.wn f a b (n - a - b) v := Lat.pk_wn hf' hf (by omega) (by omega) (by omega) (by omega) (by omega) (by omega) hp
  have hwt : ∀ v, Ico.wt f (wd n a) (wd n b) (wd n (n - a - b)) v = Ico.wt f' (wd n a') (wd n b') (wd n (n - a' - b')) v := fun v => by rw [wt_wd hn, wt_wd hn, hw v]
  have hnf : Ico.nf f (wd n a) (wd n b) (wd n (n - a - b)) = f' := by
    rw [Ico.nf_same hwt, nf_nfB hn hf' hab', hnr]
  unfold sameN
  rw [hnd, hnf]
  refine ⟨rfl, ?_, ?_⟩
  · show wd n a' = nw f _ _ _ 0
    unfold nw
    rw [hnf, hwt, Ico.wt0]
  · show wd n b' = nw f _ _ _ 1
    unfold nw
    rw [hnf, hwt, Ico.wt1 hf']
theorem same_uniq {n k j f : Nat} {A B : Int} (hn : Lat.frq n) (hk : k < cn n) (hj : j < cn n) (h1 : sameN n k f A B) (h2 : sameN n j f A B) : k = j := by
  obtain ⟨e1, e2, e3⟩ := h1
  obtain ⟨d1, d2, d3⟩ := h2
  have a := (wd_lt (a := (Lat.nd n k).2.1) (b := (Lat.nd n j).2.1) hn).2.2 (by rw [e2, d2])
  have b := (wd_lt (a := (Lat.nd n k).2.2) (b := (Lat.nd n j).2.2) hn).2.2 (by rw [e3, d3])
  have hk' := (Lat.nd_in hn hk).2.2
  have hj' := (Lat.nd_in hn hj).2.2
  rw [← hk', ← hj', a, b, e1, d1]
theorem nf_vld {f : Nat} {A B C : Int} (h : Ico.Vld f A B C) : Ico.Vld (Ico.nf f A B C) (nw f A B C 0) (nw f A B C 1) (nw f A B C 2) :=
  Ico.vld_on h (Ico.nf_ok h).1 (Ico.nf_ok h).2
set_option maxRecDepth 100000 in
set_option maxHeartbeats 2000000 in
theorem at_any (n f a b g cap : Nat) (w : World) (hn : Lat.frq n) (hf : f < 20) (hab : a + b ≤ n) (hL : NdL w n g) :
    Calls Tryz.prog 27 #[.slice (some ⟨g, 0, none⟩) (cn n) cap, .int .i64 f, .int .i64 (wd n a), .int .i64 (wd n b)] w fun e w' => e = .returned (.int .i64 (Lat.idx n f a b : Nat)) ∧ Below w.heap.size w w' := by
  have hC : 840 - wd n a - wd n b = wd n (n - a - b) := (wd_le hn).2.2 hab
  have h1 := rs_wd hn (show a ≤ n by omega)
  have h2 := rs_wd hn (show b ≤ n by omega)
  have a0 := h1.2.2.1
  have a1 := h1.2.2.2
  have b0 := h2.2.2.1
  have b1 := h2.2.2.2
  have HV := Lib.hid (pt_vld hn hf hab)
  have HS := Lib.hid (same_idx hn hf hab)
  have HI := Lib.hid (Lat.ix_of hn hf hab).2.1
  have HL := Lib.hid hL; clear hL h1 h2
  have HN := Lib.hid hn; clear hn
  generalize wd n a = A at *
  generalize wd n b = B at *
  generalize wd n (n - a - b) = C at *
  go_enter Tryz.func27, Tryz.ntmps27
  go_wp2_with fail
  refine (refNormal_yes f A B C _ HV.out).mono ?_
  rintro e w1 ⟨rfl, hb1⟩
  have B1 := Lib.hid hb1
  have HL1 := Lib.hid ((HL.out.under hb1).under ((Below.refl _ _).alloc (Nat.le_refl _) (.cells #[.int .i64 (Ico.nf f A B C : Nat), .int .i64 (nw f A B C 0), .int .i64 (nw f A B C 1), .int .i64 (nw f A B C 2)] 32)))
  clear hb1
  go_wp2_with fail
  refine (reffind_any n (Ico.nf f A B C) g cap (nw f A B C 0) (nw f A B C 1) (nw f A B C 2) _ HN.out (nf_vld HV.out) HL1.out).mono ?_
  rintro e w2 ⟨hb2, r, rfl, hr⟩
  have hre : r = (Lat.idx n f a b : Nat) := by
    rcases hr with ⟨k, hk, rfl, hs⟩ | ⟨-, hno⟩
    · rw [same_uniq HN.out hk HI.out hs HS.out]
    · exact absurd HS.out (hno _ HI.out)
  subst hre
  have B2 := Lib.hid ((B1.out.alloc B1.out.size (.cells #[.int .i64 (Ico.nf f A B C : Nat), .int .i64 (nw f A B C 0), .int .i64 (nw f A B C 1), .int .i64 (nw f A B C 2)] 32)).trans (hb2.mono (by have := B1.out.size; simp; omega)))
  clear hr hb2
  go_wp2_with fail
  go_ret
  exact ⟨rfl, B2.out⟩
end Go.Proofs.YtehehhehilgnkaaGreat

