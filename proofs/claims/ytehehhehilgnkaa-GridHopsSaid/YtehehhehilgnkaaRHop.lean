/- The contracts of the reference's From and Hops, out of that of around. -/
import Derived.Test.YtehehhehilgnkaaRFrl
import Derived.Test.YtehehhehilgnkaaRCells
namespace Go.Proofs.Ytehehhehilgnkaa
open Go.RowKit Go.Maps Go.Shelf

/-- What around leaves. -/
def AroundR (W : World) (n : Nat) (e : Ending) (w : World) : Prop := ∃ g cap, e = .returned (.slice (some ⟨g, 0, none⟩) (cn n) cap) ∧ cn n ≤ cap ∧ cap ≤ 9223372036854775807 ∧ Below W.heap.size W w ∧ Nb w g n
/-- around answers as it should. -/
def Arn : Prop := ∀ (n : Nat) (w : World), Lat.frq n → Calls Try.prog 73 #[.int .i64 (n : Int)] w (AroundR w n)
set_option maxRecDepth 100000 in
set_option maxHeartbeats 2000000 in
theorem from_of (H : Arn) (n a : Nat) (D : Nat → Nat) (w : World) (hn : Lat.frq n) (ha : a < cn n) (hD : Lat.Far n a D) (hDb : ∀ x, x < cn n → D x ≤ 100000) : Calls Try.prog 58 #[.int .i64 (n : Int), .int .i64 (a : Int)] w (FlR w n D) := by
  go_enter Try.func58, Try.ntmps58
  go_wp2_with fail
  refine (H n _ hn).mono ?_
  rintro e w1 ⟨g, cap, rfl, h1, h2, hb, hnb⟩
  have HB := Lib.hid hb; clear hb
  go_wp2_with fail
  refine (fromList_any n g cap a D _ hn ha hnb hD hDb h1 h2).mono ?_
  rintro e w2 ⟨g2, rfl, hb2, hg2, hns⟩
  have HF : Hid (Below w.heap.size w w2 ∧ w.heap.size ≤ g2 ∧ Ns w2 g2 (cn n) (fun x => (D x : Int))) := Lib.hid ⟨HB.out.trans (hb2.mono HB.out.size), Nat.le_trans HB.out.size hg2, hns⟩
  clear hb2 hg2 hns
  go_wp2_with fail
  go_ret
  exact ⟨g2, rfl, HF.out⟩
set_option maxRecDepth 100000 in
set_option maxHeartbeats 2000000 in
theorem refHops_of (H : Arn) (n a b : Nat) (D : Nat → Nat) (w : World) (hn : Lat.frq n) (ha : a < cn n) (hb : b < cn n) (hD : Lat.Far n a D) (hDb : ∀ x, x < cn n → D x ≤ 100000) : Calls Try.prog 31 #[.int .i64 (n : Int), .int .i64 (a : Int), .int .i64 (b : Int)] w (HopR w (D b)) := by
  have a0 : ¬ ((a : Int) < 0) := by omega
  have b0 : ¬ ((b : Int) < 0) := by omega
  have b0' : (0 : Int) ≤ (b : Int) := by omega
  have a1 : ¬ ((cn n : Int) ≤ (a : Int)) := by omega
  have b1 : ¬ ((cn n : Int) ≤ (b : Int)) := by omega
  have a2 : ¬ (cn n ≤ a) := by omega
  have b2 : ¬ (cn n ≤ b) := by omega
  have b3 : (b : Int) < (cn n : Int) := by omega
  have HN := Lib.hid hn; clear hn
  have HA := Lib.hid ha; clear ha
  have HBB := Lib.hid hb; clear hb
  go_enter Try.func31, Try.ntmps31
  go_upto_region 3 with ((go_at_call 13; refine (refCount_yes _ _ HN.out).mono ?_; rintro e w1 ⟨rfl, rfl⟩))
  go_wp2_with fail
  refine (from_of H n a D _ HN.out HA.out hD hDb).mono ?_
  rintro e w1 ⟨g, rfl, hb1, -, hns⟩
  obtain ⟨c0, -⟩ := hns.at_ HBB.out
  have HB := Lib.hid hb1; clear hb1 hns
  go_wp2_with fail
  go_ret2
  exact ⟨rfl, HB.out⟩
theorem count_some (n : Int) : ∃ m : Int, (∀ w : World, Calls Try.prog 13 #[.int .i64 n] w fun e w' => e = .returned (.int .i64 m) ∧ w = w') ∧ ∀ x, okB n x = false → x < 0 ∨ m ≤ x := by
  by_cases h : 1 ≤ n ∧ n ≤ 8
  · obtain ⟨k, rfl⟩ := Int.eq_ofNat_of_zero_le (show 0 ≤ n by omega)
    have hk : Lat.frq k := ⟨by omega, by omega⟩
    refine ⟨(cn k : Int), fun w => refCount_yes k w hk, fun x hx => ?_⟩
    rcases Int.lt_or_le x 0 with h0 | h0
    · exact .inl h0
    · refine .inr ?_
      rcases Int.lt_or_le x (cn k : Int) with h1 | h1
      · obtain ⟨y, rfl⟩ := Int.eq_ofNat_of_zero_le h0
        have := okB_of hk (show y < cn k by omega)
        rw [this] at hx
        cases hx
      · exact h1
  · exact ⟨0, fun w => refCount_no n w h, fun x _ => by omega⟩
set_option maxRecDepth 100000 in
set_option maxHeartbeats 2000000 in
theorem refHops_no (n a b : Int) (w : World) (h : okB n a = false ∨ okB n b = false) : Calls Try.prog 31 #[.int .i64 n, .int .i64 a, .int .i64 b] w fun e w' => e = .returned (.tuple #[.int .i64 0, .int .i64 1]) ∧ w = w' := by
  obtain ⟨m, hm, hx⟩ := count_some n
  have h' : (a < 0 ∨ m ≤ a) ∨ (b < 0 ∨ m ≤ b) := h.imp (hx a) (hx b)
  have HM := Lib.hid hm; clear hm hx h
  by_cases a0 : a < 0
  · clear h'
    go_enter Try.func31, Try.ntmps31
    go_wp2_with fail
    go_ret2
    exact ⟨rfl, rfl⟩
  · by_cases a1 : m ≤ a
    · clear h'
      go_enter Try.func31, Try.ntmps31
      go_wp2_with ((go_at_call 13; refine (HM.out _).mono ?_; rintro e w1 ⟨rfl, rfl⟩))
      go_ret2
      exact ⟨rfl, rfl⟩
    · by_cases b0 : b < 0
      · clear h'
        go_enter Try.func31, Try.ntmps31
        go_wp2_with ((go_at_call 13; refine (HM.out _).mono ?_; rintro e w1 ⟨rfl, rfl⟩))
        go_ret2
        exact ⟨rfl, rfl⟩
      · have b1 : m ≤ b := by omega
        clear h'
        go_enter Try.func31, Try.ntmps31
        go_wp2_with ((go_at_call 13; refine (HM.out _).mono ?_; rintro e w1 ⟨rfl, rfl⟩))
        go_ret2
        exact ⟨rfl, rfl⟩
end Go.Proofs.Ytehehhehilgnkaa
