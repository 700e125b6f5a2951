/- Contracts of the document's own functions over numbers and dates: Days, before, Valid, Minutes, Date. -/
import Derived.Test.YtcheadbhkbbegaaDoorQac
import Derived.Deep.Cut
import Derived.Outline
namespace Go.Proofs.YtcheadbhkbbegaaDoor.Ck
open Go.RowKit

set_option maxHeartbeats 1000000 in
theorem refDays_any (y m : Int) (w : World) :
    Calls Tryd.prog 92 #[.int .i64 y, .int .i64 m] w fun e w' => e = .returned (.int .i64 (Cal.days y m)) ∧ w = w' := by
  by_cases hin : 2000 ≤ y ∧ y ≤ 2099 ∧ 1 ≤ m ∧ m ≤ 12
  · obtain ⟨h1, h2, h3, h4⟩ := hin
    have hd := Cal.days_in ⟨h1, h2, h3, h4⟩
    by_cases h5 : m = 2
    · subst h5
      by_cases hy : y % 4 = 0
      · have E := Lib.hid (show Cal.days y 2 = 29 by rw [hd]; unfold Cal.dim Cal.leap; rw [if_pos rfl, if_pos hy]; omega)
        have hb : (y % 4 == 0) = true := beq_iff_eq.2 hy
        clear hy hd
        go_enter Tryd.func92, Tryd.ntmps92
        go_wp2
        go_ret
        exact ⟨ret_i64 E.out.symm, rfl⟩
      · have E := Lib.hid (show Cal.days y 2 = 28 by rw [hd]; unfold Cal.dim Cal.leap; rw [if_pos rfl, if_neg hy]; omega)
        have hb : (y % 4 == 0) = false := beq_eq_false_iff_ne.2 hy
        clear hy hd
        go_enter Tryd.func92, Tryd.ntmps92
        go_wp2
        go_ret
        exact ⟨ret_i64 E.out.symm, rfl⟩
    · have E := Lib.hid (show Cal.days y m = if m = 4 ∨ m = 6 ∨ m = 9 ∨ m = 11 then 30 else 31 by rw [hd]; unfold Cal.dim; rw [if_neg h5])
      clear hd
      have hc : m = 1 ∨ m = 3 ∨ m = 4 ∨ m = 5 ∨ m = 6 ∨ m = 7 ∨ m = 8 ∨ m = 9 ∨ m = 10 ∨ m = 11 ∨ m = 12 := by omega
      clear h5 h3 h4
      rcases hc with rfl | rfl | rfl | rfl | rfl | rfl | rfl | rfl | rfl | rfl | rfl
      all_goals
        go_enter Tryd.func92, Tryd.ntmps92
        go_wp2
        go_ret
        exact ⟨ret_i64 (by rw [E.out]; rfl), rfl⟩
  · have E := Lib.hid (Cal.days_out hin)
    by_cases h1 : y < 2000
    · go_enter Tryd.func92, Tryd.ntmps92
      go_wp2
      go_ret
      exact ⟨ret_i64 E.out.symm, rfl⟩
    · by_cases h2 : 2099 < y
      · go_enter Tryd.func92, Tryd.ntmps92
        go_wp2
        go_ret
        exact ⟨ret_i64 E.out.symm, rfl⟩
      · by_cases h3 : m < 1
        · go_enter Tryd.func92, Tryd.ntmps92
          go_wp2
          go_ret
          exact ⟨ret_i64 E.out.symm, rfl⟩
        · have h4 : 12 < m := by omega
          clear hin
          go_enter Tryd.func92, Tryd.ntmps92
          go_wp2
          go_ret
          exact ⟨ret_i64 E.out.symm, rfl⟩

set_option maxHeartbeats 1000000 in
theorem before_any (y m : Int) (w : World) (y1 : 2000 ≤ y) (y2 : y ≤ 2099) (m1 : 1 ≤ m) (m2 : m ≤ 12) :
    Calls Tryd.prog 71 #[.int .i64 y, .int .i64 m] w fun e w' => e = .returned (.int .i64 ((Cal.dby y + Cal.cum y m) * 1440)) ∧ w = w' := by
  go_enter Tryd.func71, Tryd.ntmps71
  go_wp2_with fail
  go_loop [5, 6] (fun s q => ∃ k : Int, 2000 ≤ k ∧ k ≤ y ∧ q = .int .i64 k ∧ s = .int .i64 (Cal.dby k)) (fun _ q => (3000 - intOf q).toNat)
  case atStart => exact ⟨2000, by omega, by omega, rfl, rfl⟩
  case round =>
    obtain ⟨k, k1, k2, rfl, rfl⟩ := hrel
    have c3 := Cal.dby_bd k k1 (by omega)
    by_cases hlt : k < y
    · have D := Lib.hid (Cal.dby_succ k k1)
      by_cases hy : k % 4 = 0
      · have L := Lib.hid (show Cal.leap k = 1 by unfold Cal.leap; rw [if_pos hy])
        have hb : (k % 4 == 0) = true := beq_iff_eq.2 hy
        clear hy
        go_wp2_with fail
        go_round
        case rel => exact ⟨k + 1, by omega, by omega, rfl, by rw [D.out, L.out]⟩
        case measure => simp [intOf]; omega
      · have L := Lib.hid (show Cal.leap k = 0 by unfold Cal.leap; rw [if_neg hy])
        have hb : (k % 4 == 0) = false := beq_eq_false_iff_ne.2 hy
        clear hy
        go_wp2_with fail
        go_round
        case rel => exact ⟨k + 1, by omega, by omega, rfl, by rw [D.out, L.out, Int.add_zero]⟩
        case measure => simp [intOf]; omega
    · obtain rfl : k = y := by omega
      go_wp2_with fail
      go_loop [5, 7] (fun s q => ∃ j : Int, 1 ≤ j ∧ j ≤ m ∧ q = .int .i64 j ∧ s = .int .i64 (Cal.dby k + Cal.cum k j)) (fun _ q => (14 - intOf q).toNat)
      case atStart => exact ⟨1, by omega, by omega, rfl, by rw [Cal.cum_one, Int.add_zero]⟩
      case round =>
        obtain ⟨j, j1, j2, rfl, rfl⟩ := hrel
        have c4 := Cal.cum_bd k j (by omega) (by omega)
        by_cases hj : j < m
        · have c5 := Cal.dim_bd k j
          have C := Lib.hid (Cal.cum_succ k j j1 (by omega))
          have hd := Cal.days_in (y := k) (m := j) ⟨by omega, by omega, j1, by omega⟩
          go_wp2_with (go_at_call 92; refine (refDays_any _ _ _).mono ?_; rintro e w2 ⟨rfl, rfl⟩)
          go_round
          case rel => exact ⟨j + 1, by omega, by omega, rfl, by rw [C.out]; congr 1; omega⟩
          case measure => simp [intOf]; omega
        · obtain rfl : j = m := by omega
          go_wp2_with fail
          go_ret
          exact ⟨rfl, rfl⟩

set_option maxHeartbeats 1000000 in
theorem refValid_any (y m d h i : Int) (w : World) :
    Calls Tryd.prog 72 #[.agg #[.int .i64 y, .int .i64 m, .int .i64 d, .int .i64 h, .int .i64 i]] w fun e w' => e = .returned (.bool (Cal.vld y m d h i)) ∧ Below w.heap.size w w' := by
  have E := Lib.hid (show Cal.vld y m d h i = (decide (1 ≤ d) && decide (d ≤ Cal.days y m) && decide (0 ≤ h) && decide (h ≤ 23) && decide (0 ≤ i) && decide (i ≤ 59)) by
    unfold Cal.vld; rw [Bool.eq_iff_iff]; simp; omega)
  by_cases h1 : 1 ≤ d
  · by_cases h2 : d ≤ Cal.days y m
    · by_cases h3 : 0 ≤ h
      · by_cases h4 : h ≤ 23
        · by_cases h5 : 0 ≤ i
          · by_cases h6 : i ≤ 59
            · go_enter Tryd.func72, Tryd.ntmps72
              go_wp2
              go_quiet ((go_at_call 92; exact quiet_left (refDays_any _ _ _)))
              go_wp2
              go_ret
              exact ⟨ret_bool (by rw [E.out]; simp [*]), below_drewN ((Below.refl _ _).alloc (Nat.le_refl _) _) _⟩
            · have hd : decide (i ≤ 59) = false := by simpa using h6
              go_enter Tryd.func72, Tryd.ntmps72
              go_wp2
              go_quiet ((go_at_call 92; exact quiet_left (refDays_any _ _ _)))
              go_wp2
              go_ret
              exact ⟨ret_bool (by rw [E.out, hd]; simp), below_drewN ((Below.refl _ _).alloc (Nat.le_refl _) _) _⟩
          · have hd : decide (0 ≤ i) = false := by simpa using h5
            go_enter Tryd.func72, Tryd.ntmps72
            go_wp2
            go_quiet ((go_at_call 92; exact quiet_left (refDays_any _ _ _)))
            go_wp2
            go_ret
            exact ⟨ret_bool (by rw [E.out, hd]; simp), below_drewN ((Below.refl _ _).alloc (Nat.le_refl _) _) _⟩
        · have hd : decide (h ≤ 23) = false := by simpa using h4
          go_enter Tryd.func72, Tryd.ntmps72
          go_wp2
          go_quiet ((go_at_call 92; exact quiet_left (refDays_any _ _ _)))
          go_wp2
          go_ret
          exact ⟨ret_bool (by rw [E.out, hd]; simp), below_drewN ((Below.refl _ _).alloc (Nat.le_refl _) _) _⟩
      · have hd : decide (0 ≤ h) = false := by simpa using h3
        go_enter Tryd.func72, Tryd.ntmps72
        go_wp2
        go_quiet ((go_at_call 92; exact quiet_left (refDays_any _ _ _)))
        go_wp2
        go_ret
        exact ⟨ret_bool (by rw [E.out, hd]; simp), below_drewN ((Below.refl _ _).alloc (Nat.le_refl _) _) _⟩
    · have hd : decide (d ≤ Cal.days y m) = false := by simpa using h2
      go_enter Tryd.func72, Tryd.ntmps72
      go_wp2
      go_quiet ((go_at_call 92; exact quiet_left (refDays_any _ _ _)))
      go_wp2
      go_ret
      exact ⟨ret_bool (by rw [E.out, hd]; simp), below_drewN ((Below.refl _ _).alloc (Nat.le_refl _) _) _⟩
  · have hd : decide (1 ≤ d) = false := by simpa using h1
    go_enter Tryd.func72, Tryd.ntmps72
    go_wp2
    go_quiet (fail)
    go_wp2
    go_ret
    exact ⟨ret_bool (by rw [E.out, hd]; simp), below_drewN ((Below.refl _ _).alloc (Nat.le_refl _) _) _⟩
end Go.Proofs.YtcheadbhkbbegaaDoor.Ck

