/- Contracts of the document's own functions Minutes and Date. -/
import Derived.Test.YtcheadbhkbbegaaDoorCRefDates
import Derived.Deep.LoopGhost
namespace Go.Proofs.YtcheadbhkbbegaaDoor.Ck
open Go.RowKit

set_option maxHeartbeats 400000 in
theorem refMinutes_no (y m d h i : Int) (w : World) (hv : Cal.vld y m d h i = false) :
    Calls Tryd.prog 35 #[.agg #[.int .i64 y, .int .i64 m, .int .i64 d, .int .i64 h, .int .i64 i]] w fun e w' => e = .returned (.tuple #[.int .i64 0, .int .i64 1]) ∧ Below w.heap.size w w' := by
  go_enter Tryd.func35, Tryd.ntmps35
  go_wp2_with (go_at_call 72; refine (refValid_any _ _ _ _ _ _).mono ?_; rintro e w1 ⟨rfl, hb⟩)
  go_ret2
  exact ⟨rfl, ((Below.refl _ _).alloc (Nat.le_refl _) _).trans (hb.mono (by simp))⟩
set_option maxHeartbeats 400000 in
theorem refMinutes_yes (y m d h i : Int) (w : World) (hv : Cal.vld y m d h i = true) :
    Calls Tryd.prog 35 #[.agg #[.int .i64 y, .int .i64 m, .int .i64 d, .int .i64 h, .int .i64 i]] w fun e w' => e = .returned (.tuple #[.int .i64 (Cal.num y m d h i), .int .i64 0]) ∧ Below w.heap.size w w' := by
  obtain ⟨⟨a1, a2, a3, a4⟩, a5, a6, a7, a8, a9, a10⟩ := Cal.vld_iff.1 hv
  have c1 := Cal.cum_bd y m (by omega) (by omega)
  have c2 := Cal.dim_bd y m
  have c3 := Cal.dby_bd y (by omega) (by omega)
  go_enter Tryd.func35, Tryd.ntmps35
  go_wp2_with (go_at_call 72; refine (refValid_any _ _ _ _ _ _).mono ?_; rintro e w1 ⟨rfl, hb⟩)
  obtain ⟨⟨k0, k1, k2, k3, k4⟩, hb1⟩ := box5 hb
  clear hb
  go_quiet ((go_at_call 71; exact quiet_left (before_any _ _ _ (by omega) (by omega) (by omega) (by omega))))
  go_wp2
  go_ret2
  exact ⟨ret_i2 (by unfold Cal.num; omega), below_drewN hb1 _⟩

set_option maxHeartbeats 400000 in
theorem refDate_no (n : Int) (w : World) (hr : Cal.rng n = false) :
    Calls Tryd.prog 34 #[.int .i64 n] w fun e w' => e = .returned (.tuple #[.agg #[.int .i64 0, .int .i64 0, .int .i64 0, .int .i64 0, .int .i64 0], .int .i64 1]) ∧ Below w.heap.size w w' := by
  go_enter Tryd.func34, Tryd.ntmps34
  go_wp2_with (go_at_call 64; refine (refIn_any _ _).mono ?_; rintro e w1 ⟨rfl, rfl⟩)
  exact bodyPost_ret (v := .tuple #[.agg #[.int .i64 0, .int .i64 0, .int .i64 0, .int .i64 0, .int .i64 0], .int .i64 1]) (by simp [results, Tryd.results34, go_sem]) rfl ⟨rfl, (Below.refl _ _).alloc (Nat.le_refl _) _⟩

theorem before_one (y : Int) (w : World) (y1 : 2000 ≤ y) (y2 : y ≤ 2099) :
    Calls Tryd.prog 71 #[.int .i64 y, .int .i64 1] w fun e w' => e = .returned (.int .i64 (Cal.dby y * 1440)) ∧ w = w' := by
  have h := before_any y 1 w y1 y2 (by omega) (by omega)
  rw [Cal.cum_one, Int.add_zero] at h
  exact h
theorem Two.cast {W w : World} {g g' : Nat} {y m d h i y' m' d' h' i' a b c : Int} (t : Two W g g' y m d h i y' m' d' h' i' w) (e1 : d = a) (e2 : h = b) (e3 : i = c) : Two W g g' y m a b c y' m' d' h' i' w := by
  subst e1 e2 e3; exact t
set_option maxRecDepth 100000 in
set_option maxHeartbeats 2000000 in
theorem refDate_yes (n y m d h i : Int) (w : World) (hn : Cal.num y m d h i = n) (hv : Cal.vld y m d h i = true) :
    Calls Tryd.prog 34 #[.int .i64 n] w fun e w' => e = .returned (.tuple #[.agg #[.int .i64 y, .int .i64 m, .int .i64 d, .int .i64 h, .int .i64 i], .int .i64 0]) ∧ Below w.heap.size w w' := by
  obtain ⟨n1, n2⟩ := Cal.num_bd hv
  obtain ⟨⟨a1, a2, a3, a4⟩, a5, a6, a7, a8, a9, a10⟩ := Cal.vld_iff.1 hv
  have p3 := Cal.doy_bd ⟨a3, a4⟩ ⟨a5, a6⟩
  have c1 := Cal.cum_bd y m (by omega) (by omega)
  have c3 := Cal.dby_bd y (by omega) (by omega)
  have p4 : n = (Cal.dby y + Cal.cum y m + d - 1) * 1440 + h * 60 + i := by rw [← hn]; rfl
  rw [hn] at n1 n2
  have hr : Cal.rng n = true := Cal.rng_yes n1 n2
  have E1 := Lib.hid (show 1 + (n - (Cal.dby y + Cal.cum y m) * 1440) / 1440 = d by omega)
  have E2 := Lib.hid (show (n - (Cal.dby y + Cal.cum y m) * 1440) / 60 % 24 = h by omega)
  have E3 := Lib.hid (show (n - (Cal.dby y + Cal.cum y m) * 1440) % 60 = i by omega)
  have rest0 : 0 ≤ n - (Cal.dby y + Cal.cum y m) * 1440 := by omega
  have P4 := Lib.hid p4
  clear p4 hn
  go_enter Tryd.func34, Tryd.ntmps34
  go_wp2_with (go_at_call 64; refine (refIn_any _ _).mono ?_; rintro e w1 ⟨rfl, rfl⟩)
  have T0 : Two w (w.heap.size + 1) w.heap.size 2000 1 0 0 0 0 0 0 0 0 ((w.alloc (.cells #[.int .i64 0, .int .i64 0, .int .i64 0, .int .i64 0, .int .i64 0] 68)).alloc (.cells #[.int .i64 2000, .int .i64 1, .int .i64 0, .int .i64 0, .int .i64 0] 68)) :=
    ⟨((Below.refl _ _).alloc (Nat.le_refl _) _).alloc (by simp) _, by omega, by omega, Box.newAt (by simp) _ _ _ _ _, (Box.new _ _ _ _ _ _).alloc _⟩
  have hleap := Cal.leap_01 y
  have up1 : ∀ t : Int, 2000 ≤ t → t < y → Cal.dby (t + 1) * 1440 ≤ n := fun t t1 t2 => by
    have e := P4.out
    by_cases c : t + 1 = y
    · rw [c]; omega
    · have := Cal.dby_lt (t + 1) y (by omega) (by omega)
      have := Cal.leap_01 (t + 1)
      omega
  have top1 : y < 2099 → n < Cal.dby (y + 1) * 1440 := fun _ => by
    have e := P4.out
    have := Cal.dby_succ y a1
    omega
  have up2 : ∀ j : Int, 1 ≤ j → j < m → (Cal.dby y + Cal.cum y (j + 1)) * 1440 ≤ n := fun j j1 j2 => by
    have e := P4.out
    by_cases c : j + 1 = m
    · rw [c]; omega
    · have := Cal.cum_lt y (j + 1) m (by omega) (by omega) (by omega)
      have := Cal.dim_bd y (j + 1)
      omega
  have top2 : m < 12 → n < (Cal.dby y + Cal.cum y (m + 1)) * 1440 := fun _ => by
    have e := P4.out
    have := Cal.cum_succ y m a3 a4
    omega
  have Up1 := Lib.hid up1; clear up1
  have Top1 := Lib.hid top1; clear top1
  have Up2 := Lib.hid up2; clear up2
  have Top2 := Lib.hid top2; clear top2
  go_loopg [] 3000 (fun k wr => ∃ t : Int, 2000 ≤ t ∧ t ≤ y ∧ k = (5000 - t).toNat ∧ Two w (w.heap.size + 1) w.heap.size t 1 0 0 0 0 0 0 0 0 wr)
  case atStart => exact ⟨2000, by omega, by omega, by omega, T0⟩
  case round =>
    obtain ⟨t, t1, t2, rfl, T⟩ := hrel
    obtain ⟨⟨⟨k0, k1, k2, k3, k4⟩, f0, f1, f2, f3, f4⟩, q0, q1, q2, q3, q4⟩ := T.facts
    have d1 := Cal.dby_bd (t + 1) (by omega) (by omega)
    by_cases hlt : t < y
    · have hle := Up1.out t t1 hlt
      go_wp2_with (go_at_call 71; refine (before_one _ _ (by omega) (by omega)).mono ?_; rintro e w2 ⟨rfl, rfl⟩)
      go_roundg (5000 - (t + 1)).toNat
      case measure => omega
      case rel => exact ⟨t + 1, by omega, by omega, rfl, T.set0 _⟩
    · obtain rfl : t = y := by omega
      have hgt : t < 2099 → n < Cal.dby (t + 1) * 1440 := Top1.out
      by_cases hy : t < 2099
      · have hgt' := hgt hy
        clear hgt
        go_wp2_with (go_at_call 71; refine (before_one _ _ (by omega) (by omega)).mono ?_; rintro e w2 ⟨rfl, rfl⟩)
        go_loopg [] 3000 (fun k wr => ∃ j : Int, 1 ≤ j ∧ j ≤ m ∧ k = (3001 - j).toNat ∧ Two w (w.heap.size + 1) w.heap.size t j 0 0 0 0 0 0 0 0 wr)
        case atStart => exact ⟨1, by omega, by omega, by omega, T⟩
        case round =>
          clear k0 k1 k2 k3 k4 f0 f1 f2 f3 f4 q0 q1 q2 q3 q4 T
          obtain ⟨j, j1, j2, rfl, T⟩ := hrel
          obtain ⟨⟨⟨k0, k1, k2, k3, k4⟩, f0, f1, f2, f3, f4⟩, q0, q1, q2, q3, q4⟩ := T.facts
          have d2 := Cal.cum_bd t (j + 1) (by omega) (by omega)
          by_cases hj : j < m
          · have hle := Up2.out j j1 hj
            go_wp2_with (go_at_call 71; refine (before_any _ _ _ (by omega) (by omega) (by omega) (by omega)).mono ?_; rintro e w2 ⟨rfl, rfl⟩)
            go_roundg (3001 - (j + 1)).toNat
            case measure => omega
            case rel => exact ⟨j + 1, by omega, by omega, rfl, T.set1 _⟩
          · obtain rfl : j = m := by omega
            have hgt : j < 12 → n < (Cal.dby t + Cal.cum t (j + 1)) * 1440 := Top2.out
            by_cases hm : j < 12
            · have hgt' := hgt hm
              clear hgt
              go_upto_region 8 with (go_at_call 71; refine (before_any _ _ _ (by omega) (by omega) (by omega) (by omega)).mono ?_; rintro e w2 ⟨rfl, rfl⟩)
              refine forget (Two w (w.heap.size + 1) w.heap.size t j 0 0 0 0 0 0 0 0) T ?_
              clear k0 k1 k2 k3 k4 f0 f1 f2 f3 f4 q0 q1 q2 q3 q4 T
              intro Y T
              obtain ⟨⟨⟨k0, k1, k2, k3, k4⟩, f0, f1, f2, f3, f4⟩, q0, q1, q2, q3, q4⟩ := T.facts
              go_upto_region 10 with (go_at_call 71; refine (before_any _ _ _ (by omega) (by omega) (by omega) (by omega)).mono ?_; rintro e w2 ⟨rfl, rfl⟩)
              refine forget (Two w (w.heap.size + 1) w.heap.size t j d h i 0 0 0 0 0) (Two.cast (((T.set2 _).set3 _).set4 _) E1.out E2.out E3.out) ?_
              clear k0 k1 k2 k3 k4 f0 f1 f2 f3 f4 q0 q1 q2 q3 q4 T Y
              intro Y T
              have F := T.frozen
              obtain ⟨z0, z1, z2, z3, z4⟩ := F
              obtain ⟨⟨⟨k0, k1, k2, k3, k4⟩, f0, f1, f2, f3, f4⟩, q0, q1, q2, q3, q4⟩ := T.facts
              go_wp2_with fail
              refine bodyPost_ret (v := .tuple #[.agg #[.int .i64 t, .int .i64 j, .int .i64 d, .int .i64 h, .int .i64 i], .int .i64 0]) (by simp [results, Tryd.results34, go_sem, q0, q1, q2, q3, q4]) rfl ⟨rfl, ?_⟩
              exact ((((T.below.setCell (Nat.le_refl _) _).setCell (Nat.le_refl _) _).setCell (Nat.le_refl _) _).setCell (Nat.le_refl _) _).setCell (Nat.le_refl _) _
            · clear hgt
              go_upto_region 8 with fail
              refine forget (Two w (w.heap.size + 1) w.heap.size t j 0 0 0 0 0 0 0 0) T ?_
              clear k0 k1 k2 k3 k4 f0 f1 f2 f3 f4 q0 q1 q2 q3 q4 T
              intro Y T
              obtain ⟨⟨⟨k0, k1, k2, k3, k4⟩, f0, f1, f2, f3, f4⟩, q0, q1, q2, q3, q4⟩ := T.facts
              go_upto_region 10 with (go_at_call 71; refine (before_any _ _ _ (by omega) (by omega) (by omega) (by omega)).mono ?_; rintro e w2 ⟨rfl, rfl⟩)
              refine forget (Two w (w.heap.size + 1) w.heap.size t j d h i 0 0 0 0 0) (Two.cast (((T.set2 _).set3 _).set4 _) E1.out E2.out E3.out) ?_
              clear k0 k1 k2 k3 k4 f0 f1 f2 f3 f4 q0 q1 q2 q3 q4 T Y
              intro Y T
              have F := T.frozen
              obtain ⟨z0, z1, z2, z3, z4⟩ := F
              obtain ⟨⟨⟨k0, k1, k2, k3, k4⟩, f0, f1, f2, f3, f4⟩, q0, q1, q2, q3, q4⟩ := T.facts
              go_wp2_with fail
              refine bodyPost_ret (v := .tuple #[.agg #[.int .i64 t, .int .i64 j, .int .i64 d, .int .i64 h, .int .i64 i], .int .i64 0]) (by simp [results, Tryd.results34, go_sem, q0, q1, q2, q3, q4]) rfl ⟨rfl, ?_⟩
              exact ((((T.below.setCell (Nat.le_refl _) _).setCell (Nat.le_refl _) _).setCell (Nat.le_refl _) _).setCell (Nat.le_refl _) _).setCell (Nat.le_refl _) _
      · clear hgt
        go_wp2_with fail
        go_loopg [] 3000 (fun k wr => ∃ j : Int, 1 ≤ j ∧ j ≤ m ∧ k = (3001 - j).toNat ∧ Two w (w.heap.size + 1) w.heap.size t j 0 0 0 0 0 0 0 0 wr)
        case atStart => exact ⟨1, by omega, by omega, by omega, T⟩
        case round =>
          clear k0 k1 k2 k3 k4 f0 f1 f2 f3 f4 q0 q1 q2 q3 q4 T
          obtain ⟨j, j1, j2, rfl, T⟩ := hrel
          obtain ⟨⟨⟨k0, k1, k2, k3, k4⟩, f0, f1, f2, f3, f4⟩, q0, q1, q2, q3, q4⟩ := T.facts
          have d2 := Cal.cum_bd t (j + 1) (by omega) (by omega)
          by_cases hj : j < m
          · have hle := Up2.out j j1 hj
            go_wp2_with (go_at_call 71; refine (before_any _ _ _ (by omega) (by omega) (by omega) (by omega)).mono ?_; rintro e w2 ⟨rfl, rfl⟩)
            go_roundg (3001 - (j + 1)).toNat
            case measure => omega
            case rel => exact ⟨j + 1, by omega, by omega, rfl, T.set1 _⟩
          · obtain rfl : j = m := by omega
            have hgt : j < 12 → n < (Cal.dby t + Cal.cum t (j + 1)) * 1440 := Top2.out
            by_cases hm : j < 12
            · have hgt' := hgt hm
              clear hgt
              go_upto_region 8 with (go_at_call 71; refine (before_any _ _ _ (by omega) (by omega) (by omega) (by omega)).mono ?_; rintro e w2 ⟨rfl, rfl⟩)
              refine forget (Two w (w.heap.size + 1) w.heap.size t j 0 0 0 0 0 0 0 0) T ?_
              clear k0 k1 k2 k3 k4 f0 f1 f2 f3 f4 q0 q1 q2 q3 q4 T
              intro Y T
              obtain ⟨⟨⟨k0, k1, k2, k3, k4⟩, f0, f1, f2, f3, f4⟩, q0, q1, q2, q3, q4⟩ := T.facts
              go_upto_region 10 with (go_at_call 71; refine (before_any _ _ _ (by omega) (by omega) (by omega) (by omega)).mono ?_; rintro e w2 ⟨rfl, rfl⟩)
              refine forget (Two w (w.heap.size + 1) w.heap.size t j d h i 0 0 0 0 0) (Two.cast (((T.set2 _).set3 _).set4 _) E1.out E2.out E3.out) ?_
              clear k0 k1 k2 k3 k4 f0 f1 f2 f3 f4 q0 q1 q2 q3 q4 T Y
              intro Y T
              have F := T.frozen
              obtain ⟨z0, z1, z2, z3, z4⟩ := F
              obtain ⟨⟨⟨k0, k1, k2, k3, k4⟩, f0, f1, f2, f3, f4⟩, q0, q1, q2, q3, q4⟩ := T.facts
              go_wp2_with fail
              refine bodyPost_ret (v := .tuple #[.agg #[.int .i64 t, .int .i64 j, .int .i64 d, .int .i64 h, .int .i64 i], .int .i64 0]) (by simp [results, Tryd.results34, go_sem, q0, q1, q2, q3, q4]) rfl ⟨rfl, ?_⟩
              exact ((((T.below.setCell (Nat.le_refl _) _).setCell (Nat.le_refl _) _).setCell (Nat.le_refl _) _).setCell (Nat.le_refl _) _).setCell (Nat.le_refl _) _
            · clear hgt
              go_upto_region 8 with fail
              refine forget (Two w (w.heap.size + 1) w.heap.size t j 0 0 0 0 0 0 0 0) T ?_
              clear k0 k1 k2 k3 k4 f0 f1 f2 f3 f4 q0 q1 q2 q3 q4 T
              intro Y T
              obtain ⟨⟨⟨k0, k1, k2, k3, k4⟩, f0, f1, f2, f3, f4⟩, q0, q1, q2, q3, q4⟩ := T.facts
              go_upto_region 10 with (go_at_call 71; refine (before_any _ _ _ (by omega) (by omega) (by omega) (by omega)).mono ?_; rintro e w2 ⟨rfl, rfl⟩)
              refine forget (Two w (w.heap.size + 1) w.heap.size t j d h i 0 0 0 0 0) (Two.cast (((T.set2 _).set3 _).set4 _) E1.out E2.out E3.out) ?_
              clear k0 k1 k2 k3 k4 f0 f1 f2 f3 f4 q0 q1 q2 q3 q4 T Y
              intro Y T
              have F := T.frozen
              obtain ⟨z0, z1, z2, z3, z4⟩ := F
              obtain ⟨⟨⟨k0, k1, k2, k3, k4⟩, f0, f1, f2, f3, f4⟩, q0, q1, q2, q3, q4⟩ := T.facts
              go_wp2_with fail
              refine bodyPost_ret (v := .tuple #[.agg #[.int .i64 t, .int .i64 j, .int .i64 d, .int .i64 h, .int .i64 i], .int .i64 0]) (by simp [results, Tryd.results34, go_sem, q0, q1, q2, q3, q4]) rfl ⟨rfl, ?_⟩
              exact ((((T.below.setCell (Nat.le_refl _) _).setCell (Nat.le_refl _) _).setCell (Nat.le_refl _) _).setCell (Nat.le_refl _) _).setCell (Nat.le_refl _) _
end Go.Proofs.YtcheadbhkbbegaaDoor.Ck

