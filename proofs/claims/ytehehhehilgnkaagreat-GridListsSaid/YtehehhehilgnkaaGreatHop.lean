/- Contracts of isNode, Neighbours and Hops. -/
import Derived.Test.YtehehhehilgnkaaGreatLks
namespace Go.Proofs.YtehehhehilgnkaaGreat
open Go.RowKit Go.Maps Go.Shelf

/-- The grid of a frequency has this node. -/
def okB (n x : Int) : Bool := decide (1 ≤ n ∧ n ≤ 8 ∧ 0 ≤ x ∧ x < 10 * (n.toNat : Int) * (n.toNat : Int) + 2)
theorem okB_nat {n x : Int} (h : okB n x = true) : ∃ m y : Nat, n = m ∧ x = y ∧ Lat.frq m ∧ y < cn m := by
  unfold okB at h
  rw [decide_eq_true_eq] at h
  obtain ⟨h1, h2, h3, h4⟩ := h
  refine ⟨n.toNat, x.toNat, by omega, by omega, ⟨by omega, by omega⟩, ?_⟩
  have e : ((10 * n.toNat * n.toNat + 2 : Nat) : Int) = 10 * (n.toNat : Int) * (n.toNat : Int) + 2 := rfl
  unfold cn
  omega
theorem okB_of {m y : Nat} (h : Lat.frq m) (hy : y < cn m) : okB m y = true := by
  unfold okB
  rw [decide_eq_true_eq]
  have e : ((10 * m * m + 2 : Nat) : Int) = 10 * (m : Int) * (m : Int) + 2 := rfl
  unfold Lat.frq at h
  unfold cn at hy
  refine ⟨by omega, by omega, by omega, ?_⟩
  rw [Int.toNat_natCast]
  omega
theorem okB_no {m : Nat} {x : Int} (hx : ¬ x < (cn m : Int)) : okB m x = false := by
  unfold okB
  rw [decide_eq_false_iff_not]
  rintro ⟨_, _, _, h⟩
  rw [Int.toNat_natCast] at h
  have e : ((10 * m * m + 2 : Nat) : Int) = 10 * (m : Int) * (m : Int) + 2 := rfl
  unfold cn at hx
  omega
set_option maxHeartbeats 1000000 in
theorem isNode_any (n x : Int) (w : World) : Calls Tryz.prog 30 #[.int .i64 n, .int .i64 x] w fun e w' => e = .returned (.bool (okB n x)) ∧ w = w' := by
  by_cases h0 : 0 ≤ x
  · by_cases hn : 1 ≤ n ∧ n ≤ 8
    · obtain ⟨m, rfl⟩ := Int.eq_ofNat_of_zero_le (show 0 ≤ n by omega)
      have hm : Lat.frq m := ⟨by omega, by omega⟩
      by_cases hx : x < (cn m : Int)
      · obtain ⟨y, rfl⟩ := Int.eq_ofNat_of_zero_le h0
        have HO := Lib.hid (okB_of hm (show y < cn m by omega))
        have HM := Lib.hid hm; clear hm hn
        go_enter Tryz.func30, Tryz.ntmps30
        go_wp2_with fail
        refine (count_yes _ _ HM.out).mono ?_
        rintro e w1 ⟨rfl, rfl⟩
        go_wp2_with fail
        go_ret
        exact ⟨by rw [HO.out]; first | rfl | (simp; done) | (simp; omega), rfl⟩
      · have HO := Lib.hid (okB_no hx)
        have HM := Lib.hid hm; clear hm hn
        go_enter Tryz.func30, Tryz.ntmps30
        go_wp2_with fail
        refine (count_yes _ _ HM.out).mono ?_
        rintro e w1 ⟨rfl, rfl⟩
        go_wp2_with fail
        go_ret
        exact ⟨by rw [HO.out]; first | rfl | (simp; done) | (simp; omega), rfl⟩
    · have HO : Hid (okB n x = false) := Lib.hid (by unfold okB; rw [decide_eq_false_iff_not]; exact fun h => hn ⟨h.1, h.2.1⟩)
      have hx : ¬ x < 0 := by omega
      have HN := Lib.hid hn; clear hn
      go_enter Tryz.func30, Tryz.ntmps30
      go_wp2_with fail
      refine (count_no _ _ HN.out).mono ?_
      rintro e w1 ⟨rfl, rfl⟩
      go_wp2_with fail
      go_ret
      exact ⟨by rw [HO.out]; first | rfl | (simp; done) | (simp; omega), rfl⟩
  · have HO : Hid (okB n x = false) := Lib.hid (by unfold okB; rw [decide_eq_false_iff_not]; exact fun h => h0 h.2.2.1)
    go_enter Tryz.func30, Tryz.ntmps30
    go_wp2_with fail
    go_ret
    exact ⟨by rw [HO.out]; first | rfl | (simp; done) | (simp; omega), rfl⟩
/-- What Neighbours leaves. -/
def NeiR (W : World) (n a : Nat) (e : Ending) (w : World) : Prop := ∃ v, e = .returned (.tuple #[v, .int .i64 0]) ∧ Below W.heap.size W w ∧ NmL w v (Lat.nbs n a)
set_option maxHeartbeats 1000000 in
theorem neighbours_yes (n a : Nat) (w : World) (hn : Lat.frq n) (ha : a < cn n) : Calls Tryz.prog 12 #[.int .i64 n, .int .i64 a] w (NeiR w n a) := by
  have HO := Lib.hid (okB_of hn ha)
  have hc := cn_le hn
  have a0 : (0 : Int) ≤ (a : Int) := by omega
  have a1 : (a : Int) < (cn n : Int) := by omega
  have HN := Lib.hid hn; clear hn
  have HA := Lib.hid ha; clear ha
  go_enter Tryz.func12, Tryz.ntmps12
  go_wp2_with fail
  refine (isNode_any _ _ _).mono ?_
  rintro e w1 ⟨rfl, rfl⟩
  rw [HO.out]
  go_wp2_with fail
  refine (links_any _ _ HN.out).mono ?_
  rintro e w2 ⟨g, cg, rfl, h1, h2, hb, hg, hnb, -⟩
  obtain ⟨v, q0, hv⟩ := hnb.at_ a HA.out
  obtain ⟨bv, cv, rfl, v1, v2, v3⟩ := hv
  have H := Lib.hid (And.intro hb v3); clear hb v3 hnb
  go_wp2_with fail
  go_ret2
  exact ⟨_, rfl, H.out.1, bv, cv, rfl, v1, v2, H.out.2⟩
theorem neighbours_no (n x : Int) (w : World) (h : okB n x = false) : Calls Tryz.prog 12 #[.int .i64 n, .int .i64 x] w fun e w' => e = .returned (.tuple #[.slice none 0 0, .int .i64 1]) ∧ w = w' := by
  have HO := Lib.hid h; clear h
  go_enter Tryz.func12, Tryz.ntmps12
  go_wp2_with fail
  refine (isNode_any _ _ _).mono ?_
  rintro e w1 ⟨rfl, rfl⟩
  rw [HO.out]
  go_wp2_with fail
  go_ret2
  exact ⟨rfl, rfl⟩
end Go.Proofs.YtehehhehilgnkaaGreat

