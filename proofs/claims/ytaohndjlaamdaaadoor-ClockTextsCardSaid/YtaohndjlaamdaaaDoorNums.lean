/- Contracts of the functions over plain numbers: days of a month, times of day, days before a year, distances, remainders. -/
import Derived.Test.YtaohndjlaamdaaaDoorChecked
import Derived.Test.YtaohndjlaamdaaaDoorNear
import Derived.WalkKit
import Derived.WalkSpells
import Derived.WalkLawsBesides
import Derived.Deep.QuietTactic
import Derived.BigQuiet
import Derived.Lib.Hide
import Derived.Outline
namespace Go.Proofs.YtaohndjlaamdaaaDoor
open Go.RowKit

/-- The table of the months' lengths lies in its variable. -/
def lens : List Int := [31, 28, 31, 30, 31, 30, 31, 31, 30, 31, 30, 31]
def Tab (w : World) : Prop := ∀ i : Nat, i < 12 → w.cell? ⟨0, i, none⟩ = some (.int .i64 (lens.getD i 0))
theorem lens_dim (y m : Int) (h1 : 1 ≤ m) (h2 : m ≤ 12) (h : ¬ (m = 2 ∧ y % 4 = 0)) : lens.getD (m.toNat - 1) 0 = Cal.dim y m := by
  have h : m = 1 ∨ m = 2 ∨ m = 3 ∨ m = 4 ∨ m = 5 ∨ m = 6 ∨ m = 7 ∨ m = 8 ∨ m = 9 ∨ m = 10 ∨ m = 11 ∨ m = 12 := by omega
  rcases h with h | h | h | h | h | h | h | h | h | h | h | h <;> subst h <;> simp_all [Cal.dim, Cal.leap, lens]

set_option maxHeartbeats 400000 in
theorem timeOfDay_any (h i : Int) (w : World) :
    Calls Tryd.prog 34 #[.int .i64 h, .int .i64 i] w fun e w' => e = .returned (.bool (Cal.tod h i)) ∧ w = w' := by
  by_cases h1 : 0 ≤ h
  · by_cases h2 : h ≤ 23
    · by_cases h3 : 0 ≤ i
      · by_cases h4 : i ≤ 59
        all_goals
          go_enter Tryd.func34, Tryd.ntmps34
          go_wp2
          go_ret
          exact ⟨by simp [Cal.tod]; omega, rfl⟩
      · go_enter Tryd.func34, Tryd.ntmps34
        go_wp2
        go_ret
        exact ⟨by simp [Cal.tod]; omega, rfl⟩
    · go_enter Tryd.func34, Tryd.ntmps34
      go_wp2
      go_ret
      exact ⟨by simp [Cal.tod]; omega, rfl⟩
  · go_enter Tryd.func34, Tryd.ntmps34
    go_wp2
    go_ret
    exact ⟨by simp [Cal.tod]; omega, rfl⟩

set_option maxHeartbeats 400000 in
theorem inRange_any (n : Int) (w : World) :
    Calls Tryd.prog 35 #[.int .i64 n] w fun e w' => e = .returned (.bool (Cal.rng n)) ∧ w = w' := by
  by_cases h1 : 0 ≤ n
  · by_cases h2 : n ≤ 52595999
    all_goals
      go_enter Tryd.func35, Tryd.ntmps35
      go_wp2
      go_ret
      exact ⟨by simp [Cal.rng]; omega, rfl⟩
  · go_enter Tryd.func35, Tryd.ntmps35
    go_wp2
    go_ret
    exact ⟨by simp [Cal.rng]; omega, rfl⟩
set_option maxHeartbeats 400000 in
theorem refIn_any (n : Int) (w : World) :
    Calls Tryd.prog 36 #[.int .i64 n] w fun e w' => e = .returned (.bool (Cal.rng n)) ∧ w = w' := by
  by_cases h1 : 0 ≤ n
  · by_cases h2 : n ≤ 52595999
    all_goals
      go_enter Tryd.func36, Tryd.ntmps36
      go_wp2
      go_ret
      exact ⟨by simp [Cal.rng]; omega, rfl⟩
  · go_enter Tryd.func36, Tryd.ntmps36
    go_wp2
    go_ret
    exact ⟨by simp [Cal.rng]; omega, rfl⟩

theorem ret_i64 {a b : Int} (h : a = b) : Ending.returned (.int .i64 a) = .returned (.int .i64 b) := by rw [h]

set_option maxHeartbeats 400000 in
theorem days_any (y m : Int) (w : World) (hT : Tab w) :
    Calls Tryd.prog 16 #[.int .i64 y, .int .i64 m] w fun e w' => e = .returned (.int .i64 (Cal.days y m)) ∧ w = w' := by
  by_cases hin : 2000 ≤ y ∧ y ≤ 2099 ∧ 1 ≤ m ∧ m ≤ 12
  · obtain ⟨h1, h2, h3, h4⟩ := hin
    have hd := Cal.days_in ⟨h1, h2, h3, h4⟩
    by_cases hm : m = 2
    · subst hm
      by_cases hy : y % 4 = 0
      · have H := Lib.hid hy; clear hy
        have e1 : Cal.days y 2 = 29 := by rw [hd]; unfold Cal.dim Cal.leap; rw [if_pos rfl, if_pos H.out]; omega
        have E := Lib.hid e1; clear e1 hd
        have hb : (y % 4 == 0) = true := beq_iff_eq.2 H.out
        go_enter Tryd.func16, Tryd.ntmps16
        go_wp2
        go_ret
        exact ⟨ret_i64 E.out.symm, rfl⟩
      · have e1 : Cal.days y 2 = 28 := by rw [hd]; unfold Cal.dim Cal.leap; rw [if_pos rfl, if_neg hy]; omega
        have E := Lib.hid e1; clear e1 hd
        have hb : (y % 4 == 0) = false := beq_eq_false_iff_ne.2 hy
        have hc := hT 1 (by omega)
        clear hy
        go_enter Tryd.func16, Tryd.ntmps16
        go_wp2
        go_ret
        exact ⟨ret_i64 E.out.symm, rfl⟩
    · have e1 := lens_dim y m h3 h4 (fun h => hm h.1)
      have e2 : Cal.days y m = lens.getD (m.toNat - 1) 0 := by rw [hd, e1]
      have E := Lib.hid e2; clear e1 e2 hd
      have hc := hT (m.toNat - 1) (by omega)
      have hb : (m == 2) = false := beq_eq_false_iff_ne.2 hm
      clear hm
      go_enter Tryd.func16, Tryd.ntmps16
      go_wp2
      go_ret
      exact ⟨ret_i64 E.out.symm, rfl⟩
  · have E := Lib.hid (Cal.days_out hin)
    by_cases h1 : y < 2000
    · go_enter Tryd.func16, Tryd.ntmps16
      go_wp2
      go_ret
      exact ⟨ret_i64 E.out.symm, rfl⟩
    · by_cases h2 : 2099 < y
      · go_enter Tryd.func16, Tryd.ntmps16
        go_wp2
        go_ret
        exact ⟨ret_i64 E.out.symm, rfl⟩
      · by_cases h3 : m < 1
        · go_enter Tryd.func16, Tryd.ntmps16
          go_wp2
          go_ret
          exact ⟨ret_i64 E.out.symm, rfl⟩
        · have h4 : 12 < m := by omega
          clear hin
          go_enter Tryd.func16, Tryd.ntmps16
          go_wp2
          go_ret
          exact ⟨ret_i64 E.out.symm, rfl⟩

set_option maxHeartbeats 400000 in
theorem daysBefore_any (y : Int) (w : World) (h1 : 2000 ≤ y) (h2 : y ≤ 2100) :
    Calls Tryd.prog 32 #[.int .i64 y] w fun e w' => e = .returned (.int .i64 (Cal.dby y)) ∧ w = w' := by
  go_enter Tryd.func32, Tryd.ntmps32
  go_wp2
  go_ret
  exact ⟨ret_i64 (by unfold Cal.dby; omega), rfl⟩
set_option maxHeartbeats 400000 in
theorem distance_any (a b : Int) (w : World) (h1 : 0 ≤ a) (h2 : a ≤ 52595999) (h3 : 0 ≤ b) (h4 : b ≤ 52595999) :
    Calls Tryd.prog 40 #[.int .i64 a, .int .i64 b] w fun e w' => e = .returned (.int .i64 (dist a b)) ∧ w = w' := by
  go_enter Tryd.func40, Tryd.ntmps40
  go_wp2
  all_goals go_ret
  all_goals exact ⟨ret_i64 (by unfold dist; omega), rfl⟩
set_option maxHeartbeats 400000 in
theorem refDistance_any (a b : Int) (w : World) (h1 : 0 ≤ a) (h2 : a ≤ 52595999) (h3 : 0 ≤ b) (h4 : b ≤ 52595999) :
    Calls Tryd.prog 41 #[.int .i64 a, .int .i64 b] w fun e w' => e = .returned (.int .i64 (dist a b)) ∧ w = w' := by
  go_enter Tryd.func41, Tryd.ntmps41
  go_wp2
  all_goals go_ret
  all_goals exact ⟨ret_i64 (by unfold dist; omega), rfl⟩
/-- An int64. -/
def I64 (x : Int) : Prop := -9223372036854775808 ≤ x ∧ x ≤ 9223372036854775807
theorem tmod_neg {x n : Int} (h0 : ¬ 0 ≤ x) (h1 : 1 ≤ n) : -n < x.tmod n ∧ x.tmod n ≤ 0 ∧ (x.tmod n < 0 → x.tmod n + n = x % n) ∧ (¬ x.tmod n < 0 → x.tmod n = x % n) := by
  have a := Int.lt_tmod_of_pos x (by omega : 0 < n)
  have c := Int.emod_nonneg x (by omega : n ≠ 0)
  have d := Int.emod_lt_of_pos x (by omega : 0 < n)
  have e : x.tmod n = x % n - ↑(if 0 ≤ x ∨ n ∣ x then 0 else n.natAbs) := Int.tmod_eq_emod
  by_cases hd : n ∣ x
  · rw [if_pos (.inr hd)] at e
    have := Int.emod_eq_zero_of_dvd hd
    omega
  · rw [if_neg (fun h => h.elim h0 hd)] at e
    have : x % n ≠ 0 := fun h => hd (Int.dvd_of_emod_eq_zero h)
    omega
set_option maxHeartbeats 400000 in
theorem mod_any (x n : Int) (w : World) (hx : I64 x) (h1 : 1 ≤ n) (h2 : n ≤ 100000000) :
    Calls Tryd.prog 25 #[.int .i64 x, .int .i64 n] w fun e w' => e = .returned (.int .i64 (x % n)) ∧ w = w' := by
  obtain ⟨hx1, hx2⟩ := hx
  by_cases h0 : 0 ≤ x
  · have c := Int.emod_nonneg x (by omega : n ≠ 0)
    go_enter Tryd.func25, Tryd.ntmps25
    go_wp2
    go_ret
    exact ⟨rfl, rfl⟩
  · obtain ⟨a, b, c, d⟩ := tmod_neg h0 h1
    by_cases h3 : x.tmod n < 0
    · have C := Lib.hid (c h3); clear c d
      go_enter Tryd.func25, Tryd.ntmps25
      go_wp2
      go_ret
      exact ⟨ret_i64 C.out, rfl⟩
    · have D := Lib.hid (d h3); clear c d
      go_enter Tryd.func25, Tryd.ntmps25
      go_wp2
      go_ret
      exact ⟨ret_i64 D.out, rfl⟩
end Go.Proofs.YtaohndjlaamdaaaDoor
