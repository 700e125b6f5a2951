/- Texts of this proof. -/
import Derived.Test.YtlakgkoohdfiaaaDoorQab
import Derived.Deep.Cut
import Derived.Outline
import Derived.Deep.LoopGhost
namespace Go.Proofs.YtlakgkoohdfiaaaDoor.Ck
open Go.RowKit

set_option maxHeartbeats 1000000 in
theorem refDays_any (y m : Int) (w : World) :
    Calls Tryd.prog 122 #[.int .i64 y, .int .i64 m] w fun e w' => e = .returned (.int .i64 (Cal.days y m)) ∧ w = w' := by
  by_cases hin : 2000 ≤ y ∧ y ≤ 2099 ∧ 1 ≤ m ∧ m ≤ 12
  · obtain ⟨h1, h2, h3, h4⟩ := hin
    have hd := Cal.days_in ⟨h1, h2, h3, h4⟩
    by_cases h5 : m = 2
    · subst h5
      by_cases hy : y % 4 = 0
      · have E := Lib.hid (show Cal.days y 2 = 29 by rw [hd]; unfold Cal.dim Cal.leap; rw [if_pos rfl, if_pos hy]; omega)
        have hb : (y % 4 == 0) = true := beq_iff_eq.2 hy
        clear hy hd
        go_enter Tryd.func122, Tryd.ntmps122
        go_wp2
        go_ret
        exact ⟨ret_i64 E.out.symm, rfl⟩
      · have E := Lib.hid (show Cal.days y 2 = 28 by rw [hd]; unfold Cal.dim Cal.leap; rw [if_pos rfl, if_neg hy]; omega)
        have hb : (y % 4 == 0) = false := beq_eq_false_iff_ne.2 hy
        clear hy hd
        go_enter Tryd.func122, Tryd.ntmps122
        go_wp2
        go_ret
        exact ⟨ret_i64 E.out.symm, rfl⟩
    · have E := Lib.hid (show Cal.days y m = if m = 4 ∨ m = 6 ∨ m = 9 ∨ m = 11 then 30 else 31 by rw [hd]; unfold Cal.dim; rw [if_neg h5])
      clear hd
      have hc : m = 1 ∨ m = 3 ∨ m = 4 ∨ m = 5 ∨ m = 6 ∨ m = 7 ∨ m = 8 ∨ m = 9 ∨ m = 10 ∨ m = 11 ∨ m = 12 := by omega
      clear h5 h3 h4
      rcases hc with rfl | rfl | rfl | rfl | rfl | rfl | rfl | rfl | rfl | rfl | rfl
      all_goals
        go_enter Tryd.func122, Tryd.ntmps122
        go_wp2
        go_ret
        exact ⟨ret_i64 (by rw [E.out]; rfl), rfl⟩
  · have E := Lib.hid (Cal.days_out hin)
    by_cases h1 : y < 2000
    · go_enter Tryd.func122, Tryd.ntmps122
      go_wp2
      go_ret
      exact ⟨ret_i64 E.out.symm, rfl⟩
    · by_cases h2 : 2099 < y
      · go_enter Tryd.func122, Tryd.ntmps122
        go_wp2
        go_ret
        exact ⟨ret_i64 E.out.symm, rfl⟩
      · by_cases h3 : m < 1
        · go_enter Tryd.func122, Tryd.ntmps122
          go_wp2
          go_ret
          exact ⟨ret_i64 E.out.symm, rfl⟩
        · have h4 : 12 < m := by omega
          clear hin
          go_enter Tryd.func122, Tryd.ntmps122
          go_wp2
          go_ret
          exact ⟨ret_i64 E.out.symm, rfl⟩

set_option maxHeartbeats 1000000 in
theorem before_any (y m : Int) (w : World) (y1 : 2000 ≤ y) (y2 : y ≤ 2099) (m1 : 1 ≤ m) (m2 : m ≤ 12) :
    Calls Tryd.prog 96 #[.int .i64 y, .int .i64 m] w fun e w' => e = .returned (.int .i64 ((Cal.dby y + Cal.cum y m) * 1440)) ∧ w = w' := by
  go_enter Tryd.func96, Tryd.ntmps96
  go_wp2_with fail
  go_loop [5, 6] (fun s q => ∃ k : Int, 2000 ≤ k ∧ k ≤ y ∧ q = .int .i64 k ∧ s = .int .i64 (Cal.dby k)) (fun _ q => (3000 - intOf q).toNat)
  case atStart => exact ⟨2000, by omega, by omega, rfl, rfl⟩
  case round =>
    obtain ⟨k, k1, k2, rfl, rfl⟩ := hrel
    have c3 := Cal.dby_bd k k1 (by omega)
    by_cases hlt : k < y
    · have D := Lib.hid (Cal.dby_succ k k1)
      by_cases hy : k % 4 = 0
      · have L := Lib.hid (show Cal.leap k = 1 by unfold Cal.leap; rw [if_pos hy])
        have hb : (k % 4 == 0) = true := beq_iff_eq.2 hy
        clear hy
        go_wp2_with fail
        go_round
        case rel => exact ⟨k + 1, by omega, by omega, rfl, by rw [D.out, L.out]⟩
        case measure => simp [intOf]; omega
      · have L := Lib.hid (show Cal.leap k = 0 by unfold Cal.leap; rw [if_neg hy])
        have hb : (k % 4 == 0) = false := beq_eq_false_iff_ne.2 hy
        clear hy
        go_wp2_with fail
        go_round
        case rel => exact ⟨k + 1, by omega, by omega, rfl, by rw [D.out, L.out, Int.add_zero]⟩
        case measure => simp [intOf]; omega
    · obtain rfl : k = y := by omega
      go_wp2_with fail
      go_loop [5, 7] (fun s q => ∃ j : Int, 1 ≤ j ∧ j ≤ m ∧ q = .int .i64 j ∧ s = .int .i64 (Cal.dby k + Cal.cum k j)) (fun _ q => (14 - intOf q).toNat)
      case atStart => exact ⟨1, by omega, by omega, rfl, by rw [Cal.cum_one, Int.add_zero]⟩
      case round =>
        obtain ⟨j, j1, j2, rfl, rfl⟩ := hrel
        have c4 := Cal.cum_bd k j (by omega) (by omega)
        by_cases hj : j < m
        · have c5 := Cal.dim_bd k j
          have C := Lib.hid (Cal.cum_succ k j j1 (by omega))
          have hd := Cal.days_in (y := k) (m := j) ⟨by omega, by omega, j1, by omega⟩
          go_wp2_with (go_at_call 122; refine (refDays_any _ _ _).mono ?_; rintro e w2 ⟨rfl, rfl⟩)
          go_round
          case rel => exact ⟨j + 1, by omega, by omega, rfl, by rw [C.out]; congr 1; omega⟩
          case measure => simp [intOf]; omega
        · obtain rfl : j = m := by omega
          go_wp2_with fail
          go_ret
          exact ⟨rfl, rfl⟩

end Go.Proofs.YtlakgkoohdfiaaaDoor.Ck



namespace Go.Proofs.YtlakgkoohdfiaaaDoor.Ck
open Go.RowKit

set_option maxHeartbeats 400000 in
theorem refDate_no (n : Int) (w : World) (hr : Cal.rng n = false) :
    Calls Tryd.prog 65 #[.int .i64 n] w fun e w' => e = .returned (.tuple #[.agg #[.int .i64 0, .int .i64 0, .int .i64 0, .int .i64 0, .int .i64 0], .int .i64 1]) ∧ Below w.heap.size w w' := by
  go_enter Tryd.func65, Tryd.ntmps65
  go_wp2_with (go_at_call 70; refine (refIn_any _ _).mono ?_; rintro e w1 ⟨rfl, rfl⟩)
  exact bodyPost_ret (v := .tuple #[.agg #[.int .i64 0, .int .i64 0, .int .i64 0, .int .i64 0, .int .i64 0], .int .i64 1]) (by simp [results, Tryd.results65, go_sem]) rfl ⟨rfl, (Below.refl _ _).alloc (Nat.le_refl _) _⟩

theorem before_one (y : Int) (w : World) (y1 : 2000 ≤ y) (y2 : y ≤ 2099) :
    Calls Tryd.prog 96 #[.int .i64 y, .int .i64 1] w fun e w' => e = .returned (.int .i64 (Cal.dby y * 1440)) ∧ w = w' := by
  have h := before_any y 1 w y1 y2 (by omega) (by omega)
  rw [Cal.cum_one, Int.add_zero] at h
  exact h
theorem Two.cast {W w : World} {g g' : Nat} {y m d h i y' m' d' h' i' a b c : Int} (t : Two W g g' y m d h i y' m' d' h' i' w) (e1 : d = a) (e2 : h = b) (e3 : i = c) : Two W g g' y m a b c y' m' d' h' i' w := by
  subst e1 e2 e3; exact t
set_option maxRecDepth 100000 in
set_option maxHeartbeats 2000000 in
theorem refDate_yes (n y m d h i : Int) (w : World) (hn : Cal.num y m d h i = n) (hv : Cal.vld y m d h i = true) :
    Calls Tryd.prog 65 #[.int .i64 n] w fun e w' => e = .returned (.tuple #[.agg #[.int .i64 y, .int .i64 m, .int .i64 d, .int .i64 h, .int .i64 i], .int .i64 0]) ∧ Below w.heap.size w w' := by
  obtain ⟨n1, n2⟩ := Cal.num_bd hv
  obtain ⟨⟨a1, a2, a3, a4⟩, a5, a6, a7, a8, a9, a10⟩ := Cal.vld_iff.1 hv
  have p3 := Cal.doy_bd ⟨a3, a4⟩ ⟨a5, a6⟩
  have c1 := Cal.cum_bd y m (by omega) (by omega)
  have c3 := Cal.dby_bd y (by omega) (by omega)
  have p4 : n = (Cal.dby y + Cal.cum y m + d - 1) * 1440 + h * 60 + i := by rw [← hn]; rfl
  rw [hn] at n1 n2
  have hr : Cal.rng n = true := Cal.rng_yes n1 n2
  have E1 := Lib.hid (show 1 + (n - (Cal.dby y + Cal.cum y m) * 1440) / 1440 = d by omega)
  have E2 := Lib.hid (show (n - (Cal.dby y + Cal.cum y m) * 1440) / 60 % 24 = h by omega)
  have E3 := Lib.hid (show (n - (Cal.dby y + Cal.cum y m) * 1440) % 60 = i by omega)
  have rest0 : 0 ≤ n - (Cal.dby y + Cal.cum y m) * 1440 := by omega
  have P4 := Lib.hid p4
  clear p4 hn
  go_enter Tryd.func65, Tryd.ntmps65
  go_wp2_with (go_at_call 70; refine (refIn_any _ _).mono ?_; rintro e w1 ⟨rfl, rfl⟩)
  have T0 : Two w (w.heap.size + 1) w.heap.size 2000 1 0 0 0 0 0 0 0 0 ((w.alloc (.cells #[.int .i64 0, .int .i64 0, .int .i64 0, .int .i64 0, .int .i64 0] 113)).alloc (.cells #[.int .i64 2000, .int .i64 1, .int .i64 0, .int .i64 0, .int .i64 0] 113)) :=
    ⟨((Below.refl _ _).alloc (Nat.le_refl _) _).alloc (by simp) _, by omega, by omega, Box.newAt (by simp) _ _ _ _ _, (Box.new _ _ _ _ _ _).alloc _⟩
  have hleap := Cal.leap_01 y
  have up1 : ∀ t : Int, 2000 ≤ t → t < y → Cal.dby (t + 1) * 1440 ≤ n := fun t t1 t2 => by
    have e := P4.out
    by_cases c : t + 1 = y
    · rw [c]; omega
    · have := Cal.dby_lt (t + 1) y (by omega) (by omega)
      have := Cal.leap_01 (t + 1)
      omega
  have top1 : y < 2099 → n < Cal.dby (y + 1) * 1440 := fun _ => by
    have e := P4.out
    have := Cal.dby_succ y a1
    omega
  have up2 : ∀ j : Int, 1 ≤ j → j < m → (Cal.dby y + Cal.cum y (j + 1)) * 1440 ≤ n := fun j j1 j2 => by
    have e := P4.out
    by_cases c : j + 1 = m
    · rw [c]; omega
    · have := Cal.cum_lt y (j + 1) m (by omega) (by omega) (by omega)
      have := Cal.dim_bd y (j + 1)
      omega
  have top2 : m < 12 → n < (Cal.dby y + Cal.cum y (m + 1)) * 1440 := fun _ => by
    have e := P4.out
    have := Cal.cum_succ y m a3 a4
    omega
  have Up1 := Lib.hid up1; clear up1
  have Top1 := Lib.hid top1; clear top1
  have Up2 := Lib.hid up2; clear up2
  have Top2 := Lib.hid top2; clear top2
  go_loopg [] 3000 (fun k wr => ∃ t : Int, 2000 ≤ t ∧ t ≤ y ∧ k = (5000 - t).toNat ∧ Two w (w.heap.size + 1) w.heap.size t 1 0 0 0 0 0 0 0 0 wr)
  case atStart => exact ⟨2000, by omega, by omega, by omega, T0⟩
  case round =>
    obtain ⟨t, t1, t2, rfl, T⟩ := hrel
    obtain ⟨⟨⟨k0, k1, k2, k3, k4⟩, f0, f1, f2, f3, f4⟩, q0, q1, q2, q3, q4⟩ := T.facts
    have d1 := Cal.dby_bd (t + 1) (by omega) (by omega)
    by_cases hlt : t < y
    · have hle := Up1.out t t1 hlt
      go_wp2_with (go_at_call 96; refine (before_one _ _ (by omega) (by omega)).mono ?_; rintro e w2 ⟨rfl, rfl⟩)
      go_roundg (5000 - (t + 1)).toNat
      case measure => omega
      case rel => exact ⟨t + 1, by omega, by omega, rfl, T.set0 _⟩
    · obtain rfl : t = y := by omega
      have hgt : t < 2099 → n < Cal.dby (t + 1) * 1440 := Top1.out
      by_cases hy : t < 2099
      · have hgt' := hgt hy
        clear hgt
        go_wp2_with (go_at_call 96; refine (before_one _ _ (by omega) (by omega)).mono ?_; rintro e w2 ⟨rfl, rfl⟩)
        go_loopg [] 3000 (fun k wr => ∃ j : Int, 1 ≤ j ∧ j ≤ m ∧ k = (3001 - j).toNat ∧ Two w (w.heap.size + 1) w.heap.size t j 0 0 0 0 0 0 0 0 wr)
        case atStart => exact ⟨1, by omega, by omega, by omega, T⟩
        case round =>
          clear k0 k1 k2 k3 k4 f0 f1 f2 f3 f4 q0 q1 q2 q3 q4 T
          obtain ⟨j, j1, j2, rfl, T⟩ := hrel
          obtain ⟨⟨⟨k0, k1, k2, k3, k4⟩, f0, f1, f2, f3, f4⟩, q0, q1, q2, q3, q4⟩ := T.facts
          have d2 := Cal.cum_bd t (j + 1) (by omega) (by omega)
          by_cases hj : j < m
          · have hle := Up2.out j j1 hj
            go_wp2_with (go_at_call 96; refine (before_any _ _ _ (by omega) (by omega) (by omega) (by omega)).mono ?_; rintro e w2 ⟨rfl, rfl⟩)
            go_roundg (3001 - (j + 1)).toNat
            case measure => omega
            case rel => exact ⟨j + 1, by omega, by omega, rfl, T.set1 _⟩
          · obtain rfl : j = m := by omega
            have hgt : j < 12 → n < (Cal.dby t + Cal.cum t (j + 1)) * 1440 := Top2.out
            by_cases hm : j < 12
            · have hgt' := hgt hm
              clear hgt
              go_upto_region 8 with (go_at_call 96; refine (before_any _ _ _ (by omega) (by omega) (by omega) (by omega)).mono ?_; rintro e w2 ⟨rfl, rfl⟩)
              refine forget (Two w (w.heap.size + 1) w.heap.size t j 0 0 0 0 0 0 0 0) T ?_
              clear k0 k1 k2 k3 k4 f0 f1 f2 f3 f4 q0 q1 q2 q3 q4 T
              intro Y T
              obtain ⟨⟨⟨k0, k1, k2, k3, k4⟩, f0, f1, f2, f3, f4⟩, q0, q1, q2, q3, q4⟩ := T.facts
              go_upto_region 10 with (go_at_call 96; refine (before_any _ _ _ (by omega) (by omega) (by omega) (by omega)).mono ?_; rintro e w2 ⟨rfl, rfl⟩)
              refine forget (Two w (w.heap.size + 1) w.heap.size t j d h i 0 0 0 0 0) (Two.cast (((T.set2 _).set3 _).set4 _) E1.out E2.out E3.out) ?_
              clear k0 k1 k2 k3 k4 f0 f1 f2 f3 f4 q0 q1 q2 q3 q4 T Y
              intro Y T
              have F := T.frozen
              obtain ⟨z0, z1, z2, z3, z4⟩ := F
              obtain ⟨⟨⟨k0, k1, k2, k3, k4⟩, f0, f1, f2, f3, f4⟩, q0, q1, q2, q3, q4⟩ := T.facts
              go_wp2_with fail
              refine bodyPost_ret (v := .tuple #[.agg #[.int .i64 t, .int .i64 j, .int .i64 d, .int .i64 h, .int .i64 i], .int .i64 0]) (by simp [results, Tryd.results65, go_sem, q0, q1, q2, q3, q4]) rfl ⟨rfl, ?_⟩
              exact ((((T.below.setCell (Nat.le_refl _) _).setCell (Nat.le_refl _) _).setCell (Nat.le_refl _) _).setCell (Nat.le_refl _) _).setCell (Nat.le_refl _) _
            · clear hgt
              go_upto_region 8 with fail
              refine forget (Two w (w.heap.size + 1) w.heap.size t j 0 0 0 0 0 0 0 0) T ?_
              clear k0 k1 k2 k3 k4 f0 f1 f2 f3 f4 q0 q1 q2 q3 q4 T
              intro Y T
              obtain ⟨⟨⟨k0, k1, k2, k3, k4⟩, f0, f1, f2, f3, f4⟩, q0, q1, q2, q3, q4⟩ := T.facts
              go_upto_region 10 with (go_at_call 96; refine (before_any _ _ _ (by omega) (by omega) (by omega) (by omega)).mono ?_; rintro e w2 ⟨rfl, rfl⟩)
              refine forget (Two w (w.heap.size + 1) w.heap.size t j d h i 0 0 0 0 0) (Two.cast (((T.set2 _).set3 _).set4 _) E1.out E2.out E3.out) ?_
              clear k0 k1 k2 k3 k4 f0 f1 f2 f3 f4 q0 q1 q2 q3 q4 T Y
              intro Y T
              have F := T.frozen
              obtain ⟨z0, z1, z2, z3, z4⟩ := F
              obtain ⟨⟨⟨k0, k1, k2, k3, k4⟩, f0, f1, f2, f3, f4⟩, q0, q1, q2, q3, q4⟩ := T.facts
              go_wp2_with fail
              refine bodyPost_ret (v := .tuple #[.agg #[.int .i64 t, .int .i64 j, .int .i64 d, .int .i64 h, .int .i64 i], .int .i64 0]) (by simp [results, Tryd.results65, go_sem, q0, q1, q2, q3, q4]) rfl ⟨rfl, ?_⟩
              exact ((((T.below.setCell (Nat.le_refl _) _).setCell (Nat.le_refl _) _).setCell (Nat.le_refl _) _).setCell (Nat.le_refl _) _).setCell (Nat.le_refl _) _
      · clear hgt
        go_wp2_with fail
        go_loopg [] 3000 (fun k wr => ∃ j : Int, 1 ≤ j ∧ j ≤ m ∧ k = (3001 - j).toNat ∧ Two w (w.heap.size + 1) w.heap.size t j 0 0 0 0 0 0 0 0 wr)
        case atStart => exact ⟨1, by omega, by omega, by omega, T⟩
        case round =>
          clear k0 k1 k2 k3 k4 f0 f1 f2 f3 f4 q0 q1 q2 q3 q4 T
          obtain ⟨j, j1, j2, rfl, T⟩ := hrel
          obtain ⟨⟨⟨k0, k1, k2, k3, k4⟩, f0, f1, f2, f3, f4⟩, q0, q1, q2, q3, q4⟩ := T.facts
          have d2 := Cal.cum_bd t (j + 1) (by omega) (by omega)
          by_cases hj : j < m
          · have hle := Up2.out j j1 hj
            go_wp2_with (go_at_call 96; refine (before_any _ _ _ (by omega) (by omega) (by omega) (by omega)).mono ?_; rintro e w2 ⟨rfl, rfl⟩)
            go_roundg (3001 - (j + 1)).toNat
            case measure => omega
            case rel => exact ⟨j + 1, by omega, by omega, rfl, T.set1 _⟩
          · obtain rfl : j = m := by omega
            have hgt : j < 12 → n < (Cal.dby t + Cal.cum t (j + 1)) * 1440 := Top2.out
            by_cases hm : j < 12
            · have hgt' := hgt hm
              clear hgt
              go_upto_region 8 with (go_at_call 96; refine (before_any _ _ _ (by omega) (by omega) (by omega) (by omega)).mono ?_; rintro e w2 ⟨rfl, rfl⟩)
              refine forget (Two w (w.heap.size + 1) w.heap.size t j 0 0 0 0 0 0 0 0) T ?_
              clear k0 k1 k2 k3 k4 f0 f1 f2 f3 f4 q0 q1 q2 q3 q4 T
              intro Y T
              obtain ⟨⟨⟨k0, k1, k2, k3, k4⟩, f0, f1, f2, f3, f4⟩, q0, q1, q2, q3, q4⟩ := T.facts
              go_upto_region 10 with (go_at_call 96; refine (before_any _ _ _ (by omega) (by omega) (by omega) (by omega)).mono ?_; rintro e w2 ⟨rfl, rfl⟩)
              refine forget (Two w (w.heap.size + 1) w.heap.size t j d h i 0 0 0 0 0) (Two.cast (((T.set2 _).set3 _).set4 _) E1.out E2.out E3.out) ?_
              clear k0 k1 k2 k3 k4 f0 f1 f2 f3 f4 q0 q1 q2 q3 q4 T Y
              intro Y T
              have F := T.frozen
              obtain ⟨z0, z1, z2, z3, z4⟩ := F
              obtain ⟨⟨⟨k0, k1, k2, k3, k4⟩, f0, f1, f2, f3, f4⟩, q0, q1, q2, q3, q4⟩ := T.facts
              go_wp2_with fail
              refine bodyPost_ret (v := .tuple #[.agg #[.int .i64 t, .int .i64 j, .int .i64 d, .int .i64 h, .int .i64 i], .int .i64 0]) (by simp [results, Tryd.results65, go_sem, q0, q1, q2, q3, q4]) rfl ⟨rfl, ?_⟩
              exact ((((T.below.setCell (Nat.le_refl _) _).setCell (Nat.le_refl _) _).setCell (Nat.le_refl _) _).setCell (Nat.le_refl _) _).setCell (Nat.le_refl _) _
            · clear hgt
              go_upto_region 8 with fail
              refine forget (Two w (w.heap.size + 1) w.heap.size t j 0 0 0 0 0 0 0 0) T ?_
              clear k0 k1 k2 k3 k4 f0 f1 f2 f3 f4 q0 q1 q2 q3 q4 T
              intro Y T
              obtain ⟨⟨⟨k0, k1, k2, k3, k4⟩, f0, f1, f2, f3, f4⟩, q0, q1, q2, q3, q4⟩ := T.facts
              go_upto_region 10 with (go_at_call 96; refine (before_any _ _ _ (by omega) (by omega) (by omega) (by omega)).mono ?_; rintro e w2 ⟨rfl, rfl⟩)
              refine forget (Two w (w.heap.size + 1) w.heap.size t j d h i 0 0 0 0 0) (Two.cast (((T.set2 _).set3 _).set4 _) E1.out E2.out E3.out) ?_
              clear k0 k1 k2 k3 k4 f0 f1 f2 f3 f4 q0 q1 q2 q3 q4 T Y
              intro Y T
              have F := T.frozen
              obtain ⟨z0, z1, z2, z3, z4⟩ := F
              obtain ⟨⟨⟨k0, k1, k2, k3, k4⟩, f0, f1, f2, f3, f4⟩, q0, q1, q2, q3, q4⟩ := T.facts
              go_wp2_with fail
              refine bodyPost_ret (v := .tuple #[.agg #[.int .i64 t, .int .i64 j, .int .i64 d, .int .i64 h, .int .i64 i], .int .i64 0]) (by simp [results, Tryd.results65, go_sem, q0, q1, q2, q3, q4]) rfl ⟨rfl, ?_⟩
              exact ((((T.below.setCell (Nat.le_refl _) _).setCell (Nat.le_refl _) _).setCell (Nat.le_refl _) _).setCell (Nat.le_refl _) _).setCell (Nat.le_refl _) _
end Go.Proofs.YtlakgkoohdfiaaaDoor.Ck


