/- Contracts of the document's own functions Minutes and Date. The contract of Resolve of the program. The contract of the document's own function Resolve. Contracts of the functions over texts: two digits, numbers out of digits, Format, Parse of the program. Contracts of digits and Format of the program. The day, hour and minute of a minute; which minute they name near another one; contract of the program's Readable. The contract of Parse of the program. -/
import Derived.Test.YtfnlgfacadmjpaaGreatDoorCRefDates
import Derived.Deep.LoopGhost
import Derived.Test.YtfnlgfacadmjpaaGreatDoorCBox
import Derived.Outline
import Derived.Test.YtfnlgfacadmjpaaGreatDoorShelf
import Derived.Deep.RegionHeld3
import Derived.Lib.SmallJoins
import Derived.Lib.AppendIntMem
import Derived.Test.YtfnlgfacadmjpaaGreatDoorPNormal
import Derived.Test.YtfnlgfacadmjpaaGreatDoorGVali
namespace Go.Proofs.YtfnlgfacadmjpaaGreatDoor.Ck
open Go.RowKit

set_option maxHeartbeats 400000 in
theorem refMinutes_no (y m d h i : Int) (w : World) (hv : Cal.vld y m d h i = false) :
    Calls Tryz.prog 60 #[.agg #[.int .i64 y, .int .i64 m, .int .i64 d, .int .i64 h, .int .i64 i]] w fun e w' => e = .returned (.tuple #[.int .i64 0, .int .i64 1]) ∧ Below w.heap.size w w' := by
  go_enter Tryz.func60, Tryz.ntmps60
  go_wp2_with (go_at_call 100; refine (refValid_any _ _ _ _ _ _).mono ?_; rintro e w1 ⟨rfl, hb⟩)
  go_ret2
  exact ⟨rfl, ((Below.refl _ _).alloc (Nat.le_refl _) _).trans (hb.mono (by simp))⟩
set_option maxHeartbeats 400000 in
theorem refMinutes_yes (y m d h i : Int) (w : World) (hv : Cal.vld y m d h i = true) :
    Calls Tryz.prog 60 #[.agg #[.int .i64 y, .int .i64 m, .int .i64 d, .int .i64 h, .int .i64 i]] w fun e w' => e = .returned (.tuple #[.int .i64 (Cal.num y m d h i), .int .i64 0]) ∧ Below w.heap.size w w' := by
  obtain ⟨⟨a1, a2, a3, a4⟩, a5, a6, a7, a8, a9, a10⟩ := Cal.vld_iff.1 hv
  have c1 := Cal.cum_bd y m (by omega) (by omega)
  have c2 := Cal.dim_bd y m
  have c3 := Cal.dby_bd y (by omega) (by omega)
  go_enter Tryz.func60, Tryz.ntmps60
  go_wp2_with (go_at_call 100; refine (refValid_any _ _ _ _ _ _).mono ?_; rintro e w1 ⟨rfl, hb⟩)
  obtain ⟨⟨k0, k1, k2, k3, k4⟩, hb1⟩ := box5 hb
  clear hb
  go_quiet ((go_at_call 101; exact quiet_left (before_any _ _ _ (by omega) (by omega) (by omega) (by omega))))
  go_wp2
  go_ret2
  exact ⟨ret_i2 (by unfold Cal.num; omega), below_drewN hb1 _⟩

set_option maxHeartbeats 400000 in
theorem refDate_no (n : Int) (w : World) (hr : Cal.rng n = false) :
    Calls Tryz.prog 112 #[.int .i64 n] w fun e w' => e = .returned (.tuple #[.agg #[.int .i64 0, .int .i64 0, .int .i64 0, .int .i64 0, .int .i64 0], .int .i64 1]) ∧ Below w.heap.size w w' := by
  go_enter Tryz.func112, Tryz.ntmps112
  go_wp2_with (go_at_call 46; refine (refIn_any _ _).mono ?_; rintro e w1 ⟨rfl, rfl⟩)
  exact bodyPost_ret (v := .tuple #[.agg #[.int .i64 0, .int .i64 0, .int .i64 0, .int .i64 0, .int .i64 0], .int .i64 1]) (by simp [results, Tryz.results112, go_sem]) rfl ⟨rfl, (Below.refl _ _).alloc (Nat.le_refl _) _⟩

theorem before_one (y : Int) (w : World) (y1 : 2000 ≤ y) (y2 : y ≤ 2099) :
    Calls Tryz.prog 101 #[.int .i64 y, .int .i64 1] w fun e w' => e = .returned (.int .i64 (Cal.dby y * 1440)) ∧ w = w' := by
  have h := before_any y 1 w y1 y2 (by omega) (by omega)
  rw [Cal.cum_one, Int.add_zero] at h
  exact h
theorem Two.cast {W w : World} {g g' : Nat} {y m d h i y' m' d' h' i' a b c : Int} (t : Two W g g' y m d h i y' m' d' h' i' w) (e1 : d = a) (e2 : h = b) (e3 : i = c) : Two W g g' y m a b c y' m' d' h' i' w := by
  subst e1 e2 e3; exact t
set_option maxRecDepth 100000 in
set_option maxHeartbeats 2000000 in
theorem refDate_yes (n y m d h i : Int) (w : World) (hn : Cal.num y m d h i = n) (hv : Cal.vld y m d h i = true) :
    Calls Tryz.prog 112 #[.int .i64 n] w fun e w' => e = .returned (.tuple #[.agg #[.int .i64 y, .int .i64 m, .int .i64 d, .int .i64 h, .int .i64 i], .int .i64 0]) ∧ Below w.heap.size w w' := by
  obtain ⟨n1, n2⟩ := Cal.num_bd hv
  obtain ⟨⟨a1, a2, a3, a4⟩, a5, a6, a7, a8, a9, a10⟩ := Cal.vld_iff.1 hv
  have p3 := Cal.doy_bd ⟨a3, a4⟩ ⟨a5, a6⟩
  have c1 := Cal.cum_bd y m (by omega) (by omega)
  have c3 := Cal.dby_bd y (by omega) (by omega)
  have p4 : n = (Cal.dby y + Cal.cum y m + d - 1) * 1440 + h * 60 + i := by rw [← hn]; rfl
  rw [hn] at n1 n2
  have hr : Cal.rng n = true := Cal.rng_yes n1 n2
  have E1 := Lib.hid (show 1 + (n - (Cal.dby y + Cal.cum y m) * 1440) / 1440 = d by omega)
  have E2 := Lib.hid (show (n - (Cal.dby y + Cal.cum y m) * 1440) / 60 % 24 = h by omega)
  have E3 := Lib.hid (show (n - (Cal.dby y + Cal.cum y m) * 1440) % 60 = i by omega)
  have rest0 : 0 ≤ n - (Cal.dby y + Cal.cum y m) * 1440 := by omega
  have P4 := Lib.hid p4
  clear p4 hn
  go_enter Tryz.func112, Tryz.ntmps112
  go_wp2_with (go_at_call 46; refine (refIn_any _ _).mono ?_; rintro e w1 ⟨rfl, rfl⟩)
  have T0 : Two w (w.heap.size + 1) w.heap.size 2000 1 0 0 0 0 0 0 0 0 ((w.alloc (.cells #[.int .i64 0, .int .i64 0, .int .i64 0, .int .i64 0, .int .i64 0] 95)).alloc (.cells #[.int .i64 2000, .int .i64 1, .int .i64 0, .int .i64 0, .int .i64 0] 95)) :=
    ⟨((Below.refl _ _).alloc (Nat.le_refl _) _).alloc (by simp) _, by omega, by omega, Box.newAt (by simp) _ _ _ _ _, (Box.new _ _ _ _ _ _).alloc _⟩
  have hleap := Cal.leap_01 y
  have up1 : ∀ t : Int, 2000 ≤ t → t < y → Cal.dby (t + 1) * 1440 ≤ n := fun t t1 t2 => by
    have e := P4.out
    by_cases c : t + 1 = y
    · rw [c]; omega
    · have := Cal.dby_lt (t + 1) y (by omega) (by omega)
      have := Cal.leap_01 (t + 1)
      omega
  have top1 : y < 2099 → n < Cal.dby (y + 1) * 1440 := fun _ => by
    have e := P4.out
    have := Cal.dby_succ y a1
    omega
  have up2 : ∀ j : Int, 1 ≤ j → j < m → (Cal.dby y + Cal.cum y (j + 1)) * 1440 ≤ n := fun j j1 j2 => by
    have e := P4.out
    by_cases c : j + 1 = m
    · rw [c]; omega
    · have := Cal.cum_lt y (j + 1) m (by omega) (by omega) (by omega)
      have := Cal.dim_bd y (j + 1)
      omega
  have top2 : m < 12 → n < (Cal.dby y + Cal.cum y (m + 1)) * 1440 := fun _ => by
    have e := P4.out
    have := Cal.cum_succ y m a3 a4
    omega
  have Up1 := Lib.hid up1; clear up1
  have Top1 := Lib.hid top1; clear top1
  have Up2 := Lib.hid up2; clear up2
  have Top2 := Lib.hid top2; clear top2
  go_loopg [] 3000 (fun k wr => ∃ t : Int, 2000 ≤ t ∧ t ≤ y ∧ k = (5000 - t).toNat ∧ Two w (w.heap.size + 1) w.heap.size t 1 0 0 0 0 0 0 0 0 wr)
  case atStart => exact ⟨2000, by omega, by omega, by omega, T0⟩
  case round =>
    obtain ⟨t, t1, t2, rfl, T⟩ := hrel
    obtain ⟨⟨⟨k0, k1, k2, k3, k4⟩, f0, f1, f2, f3, f4⟩, q0, q1, q2, q3, q4⟩ := T.facts
    have d1 := Cal.dby_bd (t + 1) (by omega) (by omega)
    by_cases hlt : t < y
    · have hle := Up1.out t t1 hlt
      go_wp2_with (go_at_call 101; refine (before_one _ _ (by omega) (by omega)).mono ?_; rintro e w2 ⟨rfl, rfl⟩)
      go_roundg (5000 - (t + 1)).toNat
      case measure => omega
      case rel => exact ⟨t + 1, by omega, by omega, rfl, T.set0 _⟩
    · obtain rfl : t = y := by omega
      have hgt : t < 2099 → n < Cal.dby (t + 1) * 1440 := Top1.out
      by_cases hy : t < 2099
      · have hgt' := hgt hy
        clear hgt
        go_wp2_with (go_at_call 101; refine (before_one _ _ (by omega) (by omega)).mono ?_; rintro e w2 ⟨rfl, rfl⟩)
        go_loopg [] 3000 (fun k wr => ∃ j : Int, 1 ≤ j ∧ j ≤ m ∧ k = (3001 - j).toNat ∧ Two w (w.heap.size + 1) w.heap.size t j 0 0 0 0 0 0 0 0 wr)
        case atStart => exact ⟨1, by omega, by omega, by omega, T⟩
        case round =>
          clear k0 k1 k2 k3 k4 f0 f1 f2 f3 f4 q0 q1 q2 q3 q4 T
          obtain ⟨j, j1, j2, rfl, T⟩ := hrel
          obtain ⟨⟨⟨k0, k1, k2, k3, k4⟩, f0, f1, f2, f3, f4⟩, q0, q1, q2, q3, q4⟩ := T.facts
          have d2 := Cal.cum_bd t (j + 1) (by omega) (by omega)
          by_cases hj : j < m
          · have hle := Up2.out j j1 hj
            go_wp2_with (go_at_call 101; refine (before_any _ _ _ (by omega) (by omega) (by omega) (by omega)).mono ?_; rintro e w2 ⟨rfl, rfl⟩)
            go_roundg (3001 - (j + 1)).toNat
            case measure => omega
            case rel => exact ⟨j + 1, by omega, by omega, rfl, T.set1 _⟩
          · obtain rfl : j = m := by omega
            have hgt : j < 12 → n < (Cal.dby t + Cal.cum t (j + 1)) * 1440 := Top2.out
            by_cases hm : j < 12
            · have hgt' := hgt hm
              clear hgt
              go_upto_region 8 with (go_at_call 101; refine (before_any _ _ _ (by omega) (by omega) (by omega) (by omega)).mono ?_; rintro e w2 ⟨rfl, rfl⟩)
              refine forget (Two w (w.heap.size + 1) w.heap.size t j 0 0 0 0 0 0 0 0) T ?_
              clear k0 k1 k2 k3 k4 f0 f1 f2 f3 f4 q0 q1 q2 q3 q4 T
              intro Y T
              obtain ⟨⟨⟨k0, k1, k2, k3, k4⟩, f0, f1, f2, f3, f4⟩, q0, q1, q2, q3, q4⟩ := T.facts
              go_upto_region 10 with (go_at_call 101; refine (before_any _ _ _ (by omega) (by omega) (by omega) (by omega)).mono ?_; rintro e w2 ⟨rfl, rfl⟩)
              refine forget (Two w (w.heap.size + 1) w.heap.size t j d h i 0 0 0 0 0) (Two.cast (((T.set2 _).set3 _).set4 _) E1.out E2.out E3.out) ?_
              clear k0 k1 k2 k3 k4 f0 f1 f2 f3 f4 q0 q1 q2 q3 q4 T Y
              intro Y T
              have F := T.frozen
              obtain ⟨z0, z1, z2, z3, z4⟩ := F
              obtain ⟨⟨⟨k0, k1, k2, k3, k4⟩, f0, f1, f2, f3, f4⟩, q0, q1, q2, q3, q4⟩ := T.facts
              go_wp2_with fail
              refine bodyPost_ret (v := .tuple #[.agg #[.int .i64 t, .int .i64 j, .int .i64 d, .int .i64 h, .int .i64 i], .int .i64 0]) (by simp [results, Tryz.results112, go_sem, q0, q1, q2, q3, q4]) rfl ⟨rfl, ?_⟩
              exact ((((T.below.setCell (Nat.le_refl _) _).setCell (Nat.le_refl _) _).setCell (Nat.le_refl _) _).setCell (Nat.le_refl _) _).setCell (Nat.le_refl _) _
            · clear hgt
              go_upto_region 8 with fail
              refine forget (Two w (w.heap.size + 1) w.heap.size t j 0 0 0 0 0 0 0 0) T ?_
              clear k0 k1 k2 k3 k4 f0 f1 f2 f3 f4 q0 q1 q2 q3 q4 T
              intro Y T
              obtain ⟨⟨⟨k0, k1, k2, k3, k4⟩, f0, f1, f2, f3, f4⟩, q0, q1, q2, q3, q4⟩ := T.facts
              go_upto_region 10 with (go_at_call 101; refine (before_any _ _ _ (by omega) (by omega) (by omega) (by omega)).mono ?_; rintro e w2 ⟨rfl, rfl⟩)
              refine forget (Two w (w.heap.size + 1) w.heap.size t j d h i 0 0 0 0 0) (Two.cast (((T.set2 _).set3 _).set4 _) E1.out E2.out E3.out) ?_
              clear k0 k1 k2 k3 k4 f0 f1 f2 f3 f4 q0 q1 q2 q3 q4 T Y
              intro Y T
              have F := T.frozen
              obtain ⟨z0, z1, z2, z3, z4⟩ := F
              obtain ⟨⟨⟨k0, k1, k2, k3, k4⟩, f0, f1, f2, f3, f4⟩, q0, q1, q2, q3, q4⟩ := T.facts
              go_wp2_with fail
              refine bodyPost_ret (v := .tuple #[.agg #[.int .i64 t, .int .i64 j, .int .i64 d, .int .i64 h, .int .i64 i], .int .i64 0]) (by simp [results, Tryz.results112, go_sem, q0, q1, q2, q3, q4]) rfl ⟨rfl, ?_⟩
              exact ((((T.below.setCell (Nat.le_refl _) _).setCell (Nat.le_refl _) _).setCell (Nat.le_refl _) _).setCell (Nat.le_refl _) _).setCell (Nat.le_refl _) _
      · clear hgt
        go_wp2_with fail
        go_loopg [] 3000 (fun k wr => ∃ j : Int, 1 ≤ j ∧ j ≤ m ∧ k = (3001 - j).toNat ∧ Two w (w.heap.size + 1) w.heap.size t j 0 0 0 0 0 0 0 0 wr)
        case atStart => exact ⟨1, by omega, by omega, by omega, T⟩
        case round =>
          clear k0 k1 k2 k3 k4 f0 f1 f2 f3 f4 q0 q1 q2 q3 q4 T
          obtain ⟨j, j1, j2, rfl, T⟩ := hrel
          obtain ⟨⟨⟨k0, k1, k2, k3, k4⟩, f0, f1, f2, f3, f4⟩, q0, q1, q2, q3, q4⟩ := T.facts
          have d2 := Cal.cum_bd t (j + 1) (by omega) (by omega)
          by_cases hj : j < m
          · have hle := Up2.out j j1 hj
            go_wp2_with (go_at_call 101; refine (before_any _ _ _ (by omega) (by omega) (by omega) (by omega)).mono ?_; rintro e w2 ⟨rfl, rfl⟩)
            go_roundg (3001 - (j + 1)).toNat
            case measure => omega
            case rel => exact ⟨j + 1, by omega, by omega, rfl, T.set1 _⟩
          · obtain rfl : j = m := by omega
            have hgt : j < 12 → n < (Cal.dby t + Cal.cum t (j + 1)) * 1440 := Top2.out
            by_cases hm : j < 12
            · have hgt' := hgt hm
              clear hgt
              go_upto_region 8 with (go_at_call 101; refine (before_any _ _ _ (by omega) (by omega) (by omega) (by omega)).mono ?_; rintro e w2 ⟨rfl, rfl⟩)
              refine forget (Two w (w.heap.size + 1) w.heap.size t j 0 0 0 0 0 0 0 0) T ?_
              clear k0 k1 k2 k3 k4 f0 f1 f2 f3 f4 q0 q1 q2 q3 q4 T
              intro Y T
              obtain ⟨⟨⟨k0, k1, k2, k3, k4⟩, f0, f1, f2, f3, f4⟩, q0, q1, q2, q3, q4⟩ := T.facts
              go_upto_region 10 with (go_at_call 101; refine (before_any _ _ _ (by omega) (by omega) (by omega) (by omega)).mono ?_; rintro e w2 ⟨rfl, rfl⟩)
              refine forget (Two w (w.heap.size + 1) w.heap.size t j d h i 0 0 0 0 0) (Two.cast (((T.set2 _).set3 _).set4 _) E1.out E2.out E3.out) ?_
              clear k0 k1 k2 k3 k4 f0 f1 f2 f3 f4 q0 q1 q2 q3 q4 T Y
              intro Y T
              have F := T.frozen
              obtain ⟨z0, z1, z2, z3, z4⟩ := F
              obtain ⟨⟨⟨k0, k1, k2, k3, k4⟩, f0, f1, f2, f3, f4⟩, q0, q1, q2, q3, q4⟩ := T.facts
              go_wp2_with fail
              refine bodyPost_ret (v := .tuple #[.agg #[.int .i64 t, .int .i64 j, .int .i64 d, .int .i64 h, .int .i64 i], .int .i64 0]) (by simp [results, Tryz.results112, go_sem, q0, q1, q2, q3, q4]) rfl ⟨rfl, ?_⟩
              exact ((((T.below.setCell (Nat.le_refl _) _).setCell (Nat.le_refl _) _).setCell (Nat.le_refl _) _).setCell (Nat.le_refl _) _).setCell (Nat.le_refl _) _
            · clear hgt
              go_upto_region 8 with fail
              refine forget (Two w (w.heap.size + 1) w.heap.size t j 0 0 0 0 0 0 0 0) T ?_
              clear k0 k1 k2 k3 k4 f0 f1 f2 f3 f4 q0 q1 q2 q3 q4 T
              intro Y T
              obtain ⟨⟨⟨k0, k1, k2, k3, k4⟩, f0, f1, f2, f3, f4⟩, q0, q1, q2, q3, q4⟩ := T.facts
              go_upto_region 10 with (go_at_call 101; refine (before_any _ _ _ (by omega) (by omega) (by omega) (by omega)).mono ?_; rintro e w2 ⟨rfl, rfl⟩)
              refine forget (Two w (w.heap.size + 1) w.heap.size t j d h i 0 0 0 0 0) (Two.cast (((T.set2 _).set3 _).set4 _) E1.out E2.out E3.out) ?_
              clear k0 k1 k2 k3 k4 f0 f1 f2 f3 f4 q0 q1 q2 q3 q4 T Y
              intro Y T
              have F := T.frozen
              obtain ⟨z0, z1, z2, z3, z4⟩ := F
              obtain ⟨⟨⟨k0, k1, k2, k3, k4⟩, f0, f1, f2, f3, f4⟩, q0, q1, q2, q3, q4⟩ := T.facts
              go_wp2_with fail
              refine bodyPost_ret (v := .tuple #[.agg #[.int .i64 t, .int .i64 j, .int .i64 d, .int .i64 h, .int .i64 i], .int .i64 0]) (by simp [results, Tryz.results112, go_sem, q0, q1, q2, q3, q4]) rfl ⟨rfl, ?_⟩
              exact ((((T.below.setCell (Nat.le_refl _) _).setCell (Nat.le_refl _) _).setCell (Nat.le_refl _) _).setCell (Nat.le_refl _) _).setCell (Nat.le_refl _) _
end Go.Proofs.YtfnlgfacadmjpaaGreatDoor.Ck
namespace Go.Proofs.YtfnlgfacadmjpaaGreatDoor.Ck
open Go.RowKit

set_option maxHeartbeats 400000 in
theorem resolve_no (day h i near : Int) (w : World) (hr : ¬ ((1 ≤ day ∧ day ≤ 31) ∧ Cal.tod h i = true ∧ Cal.rng near = true)) :
    Calls Tryz.prog 79 #[.int .i64 day, .int .i64 h, .int .i64 i, .int .i64 near] w fun e w' => e = .returned (.tuple #[.int .i64 0, .int .i64 1]) ∧ w = w' := by
  by_cases h1 : 1 ≤ day
  · by_cases h2 : day ≤ 31
    · by_cases h3 : Cal.tod h i = true
      · have h4 : Cal.rng near = false := by
          rcases hb : Cal.rng near with _ | _
          · rfl
          · exact absurd ⟨⟨h1, h2⟩, h3, hb⟩ hr
        clear hr
        go_enter Tryz.func79, Tryz.ntmps79
        go_wp2_with (first | (go_at_call 131; refine (timeOfDay_any _ _ _).mono ?_; rintro e w1 ⟨rfl, rfl⟩) | (go_at_call 128; refine (inRange_any _ _).mono ?_; rintro e w1 ⟨rfl, rfl⟩))
        go_ret2
        exact ⟨rfl, rfl⟩
      · have h4 : Cal.tod h i = false := by simpa using h3
        clear hr h3
        go_enter Tryz.func79, Tryz.ntmps79
        go_wp2_with (first | (go_at_call 131; refine (timeOfDay_any _ _ _).mono ?_; rintro e w1 ⟨rfl, rfl⟩))
        go_ret2
        exact ⟨rfl, rfl⟩
    · clear hr
      go_enter Tryz.func79, Tryz.ntmps79
      go_wp2_with fail
      go_ret2
      exact ⟨rfl, rfl⟩
  · clear hr
    go_enter Tryz.func79, Tryz.ntmps79
    go_wp2_with fail
    go_ret2
    exact ⟨rfl, rfl⟩

/-- What Resolve leaves: the nearest minute. -/
def Resolved (day h i near : Int) (w : World) (e : Ending) (w' : World) : Prop := ∃ a, Nearest day h i near a ∧ e = .returned (.tuple #[.int .i64 a, .int .i64 0]) ∧ Below w.heap.size w w'

set_option maxHeartbeats 1000000 in
theorem resolve_yes (day h i near : Int) (w : World) (hT : Tab w) (h1 : 1 ≤ day) (h2 : day ≤ 31) (h3 : Cal.tod h i = true) (h4 : Cal.rng near = true) :
    Calls Tryz.prog 79 #[.int .i64 day, .int .i64 h, .int .i64 i, .int .i64 near] w (Resolved day h i near w) := by
  have h5 : 0 ≤ near ∧ near ≤ 52595999 := by unfold Cal.rng at h4; simpa using h4
  obtain ⟨y, m, d, p, q, hv, hn, -⟩ := Cal.num_of near h5.1 h5.2
  obtain ⟨⟨a1, a2, a3, a4⟩, -, -, -, -, -, -⟩ := Cal.vld_iff.1 hv
  have N := Lib.hid hn; clear hn
  go_enter Tryz.func79, Tryz.ntmps79
  go_wp2_with (first | (go_at_call 131; refine (timeOfDay_any _ _ _).mono ?_; rintro e w1 ⟨rfl, rfl⟩) | (go_at_call 128; refine (inRange_any _ _).mono ?_; rintro e w1 ⟨rfl, rfl⟩) | (go_at_call 78; refine (date_yes _ _ _ _ _ _ _ hT N.out hv).mono ?_; rintro e w1 ⟨rfl, hb⟩))
  have hb0 := hb.alloc hb.size (.cells #[.int .i64 y, .int .i64 m, .int .i64 d, .int .i64 p, .int .i64 q] 95)
  clear hb
  generalize w1.alloc _ = w0 at *
  go_loopw [13, 14, 15] (fun s13 s14 s15 wr => ∃ (k b : Int) (f : Bool), s15 = .int .i64 k ∧ s13 = .int .i64 b ∧ s14 = .bool f ∧ y * 12 + m - 1 - 2 ≤ k ∧ k ≤ y * 12 + m - 1 + 3 ∧ 0 ≤ b ∧ b ≤ 52595999 ∧ Best day h i near (y * 12 + m - 1 - 2) k b f ∧ Below w.heap.size w wr) (fun _ _ s15 _ => (400000 - intOf s15).toNat)
  case atStart => exact ⟨_, 0, false, rfl, rfl, rfl, by omega, by omega, by omega, by omega, Best.start, hb0⟩
  case round =>
    obtain ⟨k, b, f, rfl, rfl, rfl, k1, k2, b1, b2, hB, hbr⟩ := hrel
    have hTr := hT.under hbr
    by_cases hlt : k ≤ y * 12 + m - 1 + 2
    · by_cases hk : okM day h i k = true
      · have hbd := okM_bd hk
        unfold valM at hbd
        have hvk : Cal.vld (k / 12) (k % 12 + 1) day h i = true := hk
        cases f with
        | false =>
          have hB1 := hB.first k1 hk
          clear hk
          go_wp2_with (go_at_call 132; refine (minutes_yes _ _ _ _ _ _ hTr hvk).mono ?_; rintro e w2 ⟨rfl, hb2⟩)
          go_roundw
          case rel => exact ⟨k + 1, _, true, rfl, rfl, rfl, by omega, by omega, hbd.1, hbd.2, hB1, hbr.trans (hb2.mono hbr.size)⟩
          case measure => simp [intOf]; omega
        | true =>
          by_cases hd : dist (Cal.num (k / 12) (k % 12 + 1) day h i) near < dist b near
          · have hB1 := hB.better k1 hk hd
            clear hk
            go_wp2_with (first | (go_at_call 132; refine (minutes_yes _ _ _ _ _ _ hTr hvk).mono ?_; rintro e w2 ⟨rfl, hb2⟩) | (go_at_call 133; refine (distance_any _ _ _ (by omega) (by omega) (by omega) (by omega)).mono ?_; rintro e w3 ⟨rfl, rfl⟩))
            go_roundw
            case rel => exact ⟨k + 1, _, true, rfl, rfl, rfl, by omega, by omega, hbd.1, hbd.2, hB1, hbr.trans (hb2.mono hbr.size)⟩
            case measure => simp [intOf]; omega
          · have hB1 := hB.keep hk hd
            clear hk
            go_wp2_with (first | (go_at_call 132; refine (minutes_yes _ _ _ _ _ _ hTr hvk).mono ?_; rintro e w2 ⟨rfl, hb2⟩) | (go_at_call 133; refine (distance_any _ _ _ (by omega) (by omega) (by omega) (by omega)).mono ?_; rintro e w3 ⟨rfl, rfl⟩))
            go_roundw
            case rel => exact ⟨k + 1, b, true, rfl, rfl, rfl, by omega, by omega, b1, b2, hB1, hbr.trans (hb2.mono hbr.size)⟩
            case measure => simp [intOf]; omega
      · have hk' : okM day h i k = false := by simpa using hk
        have hvk : Cal.vld (k / 12) (k % 12 + 1) day h i = false := hk'
        have hB1 := hB.skip hk'
        clear hk hk'
        go_wp2_with (go_at_call 132; refine (minutes_no _ _ _ _ _ _ hTr hvk).mono ?_; rintro e w2 ⟨rfl, hb2⟩)
        go_roundw
        case rel => exact ⟨k + 1, b, f, rfl, rfl, rfl, by omega, by omega, b1, b2, hB1, hbr.trans (hb2.mono hbr.size)⟩
        case measure => simp [intOf]; omega
    · have hNear := hB.nearest hv N.out (by omega) (by omega) ⟨h1, h2⟩ h3
      go_wp2
      go_ret2
      exact ⟨b, hNear, rfl, hbr⟩
end Go.Proofs.YtfnlgfacadmjpaaGreatDoor.Ck
namespace Go.Proofs.YtfnlgfacadmjpaaGreatDoor.Ck
open Go.RowKit

set_option maxHeartbeats 1000000 in
theorem refResolve_no (day h i near : Int) (w : World) (hr : ¬ ((1 ≤ day ∧ day ≤ 31) ∧ Cal.tod h i = true ∧ Cal.rng near = true)) :
    Calls Tryz.prog 134 #[.int .i64 day, .int .i64 h, .int .i64 i, .int .i64 near] w fun e w' => e = .returned (.tuple #[.int .i64 0, .int .i64 1]) ∧ w = w' := by
  have ht : Cal.tod h i = decide (0 ≤ h ∧ h ≤ 23 ∧ 0 ≤ i ∧ i ≤ 59) := rfl
  by_cases h1 : 1 ≤ day
  · by_cases h2 : day ≤ 31
    · by_cases h3 : 0 ≤ h
      · by_cases h4 : h ≤ 23
        · by_cases h5 : 0 ≤ i
          · by_cases h6 : i ≤ 59
            · have h7 : Cal.rng near = false := by
                rcases hb : Cal.rng near with _ | _
                · rfl
                · exact absurd ⟨⟨h1, h2⟩, by rw [ht]; simp [*], hb⟩ hr
              clear hr ht
              go_enter Tryz.func134, Tryz.ntmps134
              go_wp2_with (go_at_call 46; refine (refIn_any _ _).mono ?_; rintro e w1 ⟨rfl, rfl⟩)
              go_ret2
              exact ⟨rfl, rfl⟩
            · clear hr ht
              go_enter Tryz.func134, Tryz.ntmps134
              go_wp2_with fail
              go_ret2
              exact ⟨rfl, rfl⟩
          · clear hr ht
            go_enter Tryz.func134, Tryz.ntmps134
            go_wp2_with fail
            go_ret2
            exact ⟨rfl, rfl⟩
        · clear hr ht
          go_enter Tryz.func134, Tryz.ntmps134
          go_wp2_with fail
          go_ret2
          exact ⟨rfl, rfl⟩
      · clear hr ht
        go_enter Tryz.func134, Tryz.ntmps134
        go_wp2_with fail
        go_ret2
        exact ⟨rfl, rfl⟩
    · clear hr ht
      go_enter Tryz.func134, Tryz.ntmps134
      go_wp2_with fail
      go_ret2
      exact ⟨rfl, rfl⟩
  · clear hr ht
    go_enter Tryz.func134, Tryz.ntmps134
    go_wp2_with fail
    go_ret2
    exact ⟨rfl, rfl⟩

set_option maxHeartbeats 1000000 in
theorem refResolve_yes (day h i near : Int) (w : World) (h1 : 1 ≤ day) (h2 : day ≤ 31) (h3 : Cal.tod h i = true) (h4 : Cal.rng near = true) :
    Calls Tryz.prog 134 #[.int .i64 day, .int .i64 h, .int .i64 i, .int .i64 near] w (Resolved day h i near w) := by
  have h5 : 0 ≤ near ∧ near ≤ 52595999 := by unfold Cal.rng at h4; simpa using h4
  obtain ⟨t1, t2, t3, t4⟩ : 0 ≤ h ∧ h ≤ 23 ∧ 0 ≤ i ∧ i ≤ 59 := by unfold Cal.tod at h3; simpa using h3
  obtain ⟨y, m, d, p, q, hv, hn, -⟩ := Cal.num_of near h5.1 h5.2
  obtain ⟨⟨a1, a2, a3, a4⟩, -, -, -, -, -, -⟩ := Cal.vld_iff.1 hv
  have N := Lib.hid hn; clear hn
  go_enter Tryz.func134, Tryz.ntmps134
  go_wp2_with (first | (go_at_call 46; refine (refIn_any _ _).mono ?_; rintro e w1 ⟨rfl, rfl⟩) | (go_at_call 112; refine (refDate_yes _ _ _ _ _ _ _ N.out hv).mono ?_; rintro e w1 ⟨rfl, hb⟩))
  have hb0 := hb.alloc hb.size (.cells #[.int .i64 y, .int .i64 m, .int .i64 d, .int .i64 p, .int .i64 q] 95)
  have B0 := Box.new w1 y m d p q
  clear hb
  generalize w1.heap.size = g at *
  generalize w1.alloc _ = w0 at *
  go_loopw [12, 13, 14] (fun s12 s13 s14 wr => ∃ (k b : Int) (f : Bool), s14 = .int .i64 (k - (y * 12 + m - 1)) ∧ s12 = .int .i64 b ∧ s13 = .bool f ∧ y * 12 + m - 1 - 3 ≤ k ∧ k ≤ y * 12 + m - 1 + 4 ∧ 0 ≤ b ∧ b ≤ 52595999 ∧ Best day h i near (y * 12 + m - 1 - 3) k b f ∧ Below w.heap.size w wr ∧ Box wr g y m d p q) (fun _ _ s14 _ => (400000 - intOf s14).toNat)
  case atStart => exact ⟨y * 12 + m - 1 - 3, 0, false, by congr 1; omega, rfl, rfl, by omega, by omega, by omega, by omega, Best.start, hb0, B0⟩
  case round =>
    clear B0 hb0
    obtain ⟨k, b, f, rfl, rfl, rfl, k1, k2, b1, b2, hB, hbr, Br⟩ := hrel
    obtain ⟨⟨c0, c1, c2, c3, c4⟩, -⟩ := Br.facts
    have ek : y * 12 + m - 1 + (k - (y * 12 + m - 1)) = k := by omega
    have en : k - (y * 12 + m - 1) + 1 = k + 1 - (y * 12 + m - 1) := by omega
    have EN := Lib.hid en; clear en
    by_cases hlt : k ≤ y * 12 + m - 1 + 3
    · by_cases hk : okM day h i k = true
      · have hbd := okM_bd hk
        unfold valM at hbd
        have hvk : Cal.vld (k / 12) (k % 12 + 1) day h i = true := hk
        cases f with
        | false =>
          have hB1 := hB.first k1 hk
          clear hk
          go_wp2_with (go_at_call 60; refine (refMinutes_yes _ _ _ _ _ _ hvk).mono ?_; rintro e w2 ⟨rfl, hb2⟩)
          go_roundw
          case rel => exact ⟨k + 1, _, true, by rw [EN.out], rfl, rfl, by omega, by omega, hbd.1, hbd.2, hB1, hbr.trans (hb2.mono hbr.size), Br.under hb2⟩
          case measure => simp [intOf]; omega
        | true =>
          by_cases hd : dist (Cal.num (k / 12) (k % 12 + 1) day h i) near < dist b near
          · have hB1 := hB.better k1 hk hd
            clear hk
            go_wp2_with (first | (go_at_call 60; refine (refMinutes_yes _ _ _ _ _ _ hvk).mono ?_; rintro e w2 ⟨rfl, hb2⟩) | (go_at_call 159; refine (refDistance_any _ _ _ (by omega) (by omega) (by omega) (by omega)).mono ?_; rintro e w3 ⟨rfl, rfl⟩))
            go_roundw
            case rel => exact ⟨k + 1, _, true, by rw [EN.out], rfl, rfl, by omega, by omega, hbd.1, hbd.2, hB1, hbr.trans (hb2.mono hbr.size), Br.under hb2⟩
            case measure => simp [intOf]; omega
          · have hB1 := hB.keep hk hd
            clear hk
            go_wp2_with (first | (go_at_call 60; refine (refMinutes_yes _ _ _ _ _ _ hvk).mono ?_; rintro e w2 ⟨rfl, hb2⟩) | (go_at_call 159; refine (refDistance_any _ _ _ (by omega) (by omega) (by omega) (by omega)).mono ?_; rintro e w3 ⟨rfl, rfl⟩))
            go_roundw
            case rel => exact ⟨k + 1, b, true, by rw [EN.out], rfl, rfl, by omega, by omega, b1, b2, hB1, hbr.trans (hb2.mono hbr.size), Br.under hb2⟩
            case measure => simp [intOf]; omega
      · have hk' : okM day h i k = false := by simpa using hk
        have hvk : Cal.vld (k / 12) (k % 12 + 1) day h i = false := hk'
        have hB1 := hB.skip hk'
        clear hk hk'
        go_wp2_with (go_at_call 60; refine (refMinutes_no _ _ _ _ _ _ hvk).mono ?_; rintro e w2 ⟨rfl, hb2⟩)
        go_roundw
        case rel => exact ⟨k + 1, b, f, by rw [EN.out], rfl, rfl, by omega, by omega, b1, b2, hB1, hbr.trans (hb2.mono hbr.size), Br.under hb2⟩
        case measure => simp [intOf]; omega
    · have hNear := hB.nearest hv N.out (by omega) (by omega) ⟨h1, h2⟩ h3
      go_wp2
      go_ret2
      exact ⟨b, hNear, rfl, hbr⟩
end Go.Proofs.YtfnlgfacadmjpaaGreatDoor.Ck
namespace Go.Proofs.YtfnlgfacadmjpaaGreatDoor.Ck
open Go.RowKit

theorem S_mk (l : List UInt8) : (⟨l.toArray⟩ : ByteArray) = S l := rfl
/-- A digit's byte. -/
def b10 (x : Int) : UInt8 := UInt8.ofNat (48 + x.toNat)
def dig2 (n : Int) : List UInt8 := [b10 (n / 10), b10 (n % 10)]
def dig4 (n : Int) : List UInt8 := [b10 (n / 1000), b10 (n / 100 % 10), b10 (n / 10 % 10), b10 (n % 10)]
/-- The value of digits; some value if other bytes are among them. -/
def numv (l : List UInt8) : Int := l.foldl (fun n c => 10 * n + (c.toNat : Int) - 48) 0
theorem numv_snoc (l : List UInt8) (c : UInt8) : numv (l ++ [c]) = 10 * numv l + (c.toNat : Int) - 48 := by unfold numv; rw [List.foldl_append]; rfl
theorem numv_bd : ∀ (k : Nat) (l : List UInt8), l.length = k → k ≤ 4 → -60000 ≤ numv l ∧ numv l ≤ 300000 := by
  intro k l hl hk
  match l, hl with
  | [], _ => exact ⟨by decide, by decide⟩
  | [a], _ => have := a.toNat_lt; simp only [numv, List.foldl]; omega
  | [a, b], _ => have := a.toNat_lt; have := b.toNat_lt; simp only [numv, List.foldl]; omega
  | [a, b, c], _ => have := a.toNat_lt; have := b.toNat_lt; have := c.toNat_lt; simp only [numv, List.foldl]; omega
  | [a, b, c, d], _ => have := a.toNat_lt; have := b.toNat_lt; have := c.toNat_lt; have := d.toNat_lt; simp only [numv, List.foldl]; omega
  | _ :: _ :: _ :: _ :: _ :: l, h => simp only [List.length_cons] at h; omega
theorem take_snoc (s : ByteArray) (k : Nat) (h : k < s.size) : s.data.toList.take (k + 1) = s.data.toList.take k ++ [s[k]] := by
  rw [List.take_succ_eq_append_getElem (by simpa using h)]; rfl
/-- What the program's tables hold. -/
def Env (w : World) : Prop := Tab w ∧ Lib.TabIs Tryz.prog w "internal/strconv.uint64pow10" .u64 Lib.pow10Tab
theorem pow_at : Tryz.prog.globalNamed "internal/strconv.uint64pow10" = some 6 := by kernel_rfl
theorem Env.under {w w' : World} (h : Env w) (hb : Below w.heap.size w w') : Env w' := ⟨h.1.under hb, Joins.tab_stays pow_at h.2 hb (Nat.le_refl _)⟩
theorem Env.alloc {w : World} (h : Env w) (o : Obj) : Env (w.alloc o) := h.under ((Below.refl _ _).alloc (Nat.le_refl _) o)
theorem Env.drewN {w : World} (h : Env w) (n : Nat) : Env (w.drewN n) := h

theorem Tab.drew {w : World} (h : Tab w) : Tab w.drew := h
theorem Env.drew {w : World} (h : Env w) : Env w.drew := h
theorem itoa_four (n : Nat) (h1 : 1000 ≤ n) (h2 : n ≤ 9999) : Lib.itoa (n : Int) = dig4 (n : Int) := by
  rw [Lib.itoa_nonneg, Lib.decDigits, dif_neg (by omega), Lib.decDigits, dif_neg (by omega), Lib.decDigits_two (by omega) (by omega)]
  unfold dig4 b10
  rw [show ((n : Int) / 1000).toNat = n / 10 / 10 / 10 by omega, show ((n : Int) / 100 % 10).toNat = n / 10 / 10 % 10 by omega, show ((n : Int) / 10 % 10).toNat = n / 10 % 10 by omega, show ((n : Int) % 10).toNat = n % 10 by omega]
  rfl
theorem itoa_any (n : Int) (w : World) (hE : Env w) (h1 : 1000 ≤ n) (h2 : n ≤ 9999) :
    Calls Tryz.prog 150 #[.int .i64 n] w fun e w' => e = .returned (.string (S (dig4 n))) ∧ Below w.heap.size w w' := by
  obtain ⟨k, rfl⟩ := Int.eq_ofNat_of_zero_le (show 0 ≤ n by omega)
  refine (Tryz.strconv_Itoa (k : Int) (by omega) (by omega) w hE.2).mono fun e w' ⟨he, q, os, hw⟩ => ⟨?_, ?_⟩
  · rw [he, itoa_four k (by omega) (by omega)]; rfl
  · rw [hw]; exact Lib.below_grow _ _ (Nat.le_refl _) _ _
/-- The text of a date. -/
def txt (y m d h i : Int) : List UInt8 := dig4 y ++ [45] ++ dig2 m ++ [45] ++ dig2 d ++ [32] ++ dig2 h ++ [58] ++ dig2 i
theorem dig2_length (n : Int) : (dig2 n).length = 2 := rfl
theorem dig4_length (n : Int) : (dig4 n).length = 4 := rfl
theorem txt_length (y m d h i : Int) : (txt y m d h i).length = 16 := rfl

theorem S_one (x : UInt8) : (⟨#[x]⟩ : ByteArray) = S [x] := rfl
attribute [local go_sem] S_add S_size S_one dig2_length dig4_length
end Go.Proofs.YtfnlgfacadmjpaaGreatDoor.Ck
namespace Go.Proofs.YtfnlgfacadmjpaaGreatDoor.Pl
open Go.RowKit

/-- A digit's byte. -/
def b10 (x : Int) : UInt8 := UInt8.ofNat (48 + x.toNat)
def dig2 (n : Int) : List UInt8 := [b10 (n / 10), b10 (n % 10)]
def dig3 (n : Int) : List UInt8 := [b10 (n / 100), b10 (n / 10 % 10), b10 (n % 10)]
/-- A number in two or three digits. -/
def dg (k n : Int) : List UInt8 := if k = 3 then dig3 n else dig2 n
theorem dg_three (n : Int) : dg 3 n = dig3 n := rfl
theorem dg_two (n : Int) : dg 2 n = dig2 n := rfl
theorem dig2_length (n : Int) : (dig2 n).length = 2 := rfl
theorem dig3_length (n : Int) : (dig3 n).length = 3 := rfl
/-- The table of powers of ten. -/
def Env (w : World) : Prop := Lib.TabIs Tryz.prog w "internal/strconv.uint64pow10" .u64 Lib.pow10Tab
theorem pow_at : Tryz.prog.globalNamed "internal/strconv.uint64pow10" = some 6 := by kernel_rfl
theorem Env.under {w w' : World} (h : Env w) (hb : Below w.heap.size w w') : Env w' := Joins.tab_stays pow_at h hb (Nat.le_refl _)
theorem Env.alloc {w : World} (h : Env w) (o : Obj) : Env (w.alloc o) := h.under ((Below.refl _ _).alloc (Nat.le_refl _) o)
theorem Env.drew {w : World} (h : Env w) : Env w.drew := h
theorem Env.drewN {w : World} (h : Env w) (n : Nat) : Env (w.drewN n) := h

theorem itoa_three (n : Nat) (h1 : 100 ≤ n) (h2 : n ≤ 999) : Lib.itoa (n : Int) = dig3 (n : Int) := by
  rw [Lib.itoa_nonneg, Lib.decDigits, dif_neg (by omega), Lib.decDigits_two (by omega) (by omega)]
  unfold dig3 b10
  rw [show ((n : Int) / 100).toNat = n / 10 / 10 by omega, show ((n : Int) / 10 % 10).toNat = n / 10 % 10 by omega, show ((n : Int) % 10).toNat = n % 10 by omega]
  rfl
/-- The digits of a number below a thousand, without leading zeros. -/
def sh (n : Int) : List UInt8 := if n < 10 then [b10 n] else if n < 100 then dig2 n else dig3 n
theorem itoa_any (n : Int) (w : World) (hE : Env w) (h1 : 0 ≤ n) (h2 : n ≤ 999) :
    Calls Tryz.prog 150 #[.int .i64 n] w fun e w' => e = .returned (.string (S (sh n))) ∧ Below w.heap.size w w' := by
  obtain ⟨k, rfl⟩ := Int.eq_ofNat_of_zero_le h1
  by_cases c1 : k < 10
  · have c := Tryz.strconv_Itoa_small k (by omega)
    rw [Lib.decDigits_one c1] at c
    refine (c w).mono fun e w' ⟨he, hw⟩ => ⟨?_, hw ▸ Below.refl _ _⟩
    rw [he]; exact ret_str (by unfold sh b10; rw [if_pos (by omega), Int.toNat_natCast]; rfl)
  · by_cases c2 : k < 100
    · have c := Tryz.strconv_Itoa_small k (by omega)
      rw [Lib.decDigits_two c1 c2] at c
      refine (c w).mono fun e w' ⟨he, hw⟩ => ⟨?_, hw ▸ Below.refl _ _⟩
      rw [he]; exact ret_str (by
        unfold sh; rw [if_neg (by omega), if_pos (by omega)]; unfold dig2 b10
        rw [show ((k : Int) / 10).toNat = k / 10 by omega, show ((k : Int) % 10).toNat = k % 10 by omega]; rfl)
    · refine (Tryz.strconv_Itoa (k : Int) (by omega) (by omega) w hE).mono fun e w' ⟨he, q, os, hw⟩ => ⟨?_, ?_⟩
      · rw [he, itoa_three k (by omega) (by omega)]
        exact ret_str (by unfold sh; rw [if_neg (by omega), if_neg (by omega)]; rfl)
      · rw [hw]; exact Lib.below_grow _ _ (Nat.le_refl _) _ _
/-- Zeros in front. -/
def zs (c : Int) : List UInt8 := List.replicate c.toNat 48
theorem repeat_any (c : Int) (w : World) (h1 : 0 ≤ c) (h2 : c ≤ 2) :
    Calls Tryz.prog 151 #[.string ⟨#[48]⟩, .int .i64 c] w fun e w' => e = .returned (.string (S (zs c))) ∧ Below w.heap.size w w' := by
  have h : c = 0 ∨ c = 1 ∨ c = 2 := by omega
  rcases h with rfl | rfl | rfl
  · exact (Tryz.strings_Repeat_zero _ w).mono fun e w' ⟨he, hw⟩ => ⟨he, hw ▸ Below.refl _ _⟩
  · exact (Tryz.strings_Repeat_one _ w).mono fun e w' ⟨he, hw⟩ => ⟨he, hw ▸ Below.refl _ _⟩
  · exact (Tryz.strings_Repeat_main ⟨#[48]⟩ 2 w (by omega) (by omega) (by decide) (by decide)).mono fun e w' ⟨he, hw⟩ => ⟨he, hw⟩
theorem sh_len (n : Int) (h1 : 0 ≤ n) (h2 : n ≤ 999) : 1 ≤ (sh n).length ∧ (sh n).length ≤ 3 ∧ (n ≤ 99 → (sh n).length ≤ 2) := by
  unfold sh; split
  · exact ⟨by simp, by simp, by simp⟩
  · split
    · exact ⟨by simp [dig2], by simp [dig2], by simp [dig2]⟩
    · exact ⟨by simp [dig3], by simp [dig3], fun h => by omega⟩
theorem zs_sh (k n : Int) (h1 : 0 ≤ n) (h2 : (k = 2 ∧ n ≤ 99) ∨ (k = 3 ∧ n ≤ 999)) : zs (k - ((sh n).length : Int)) ++ sh n = dg k n := by
  unfold sh
  by_cases c1 : n < 10
  · rw [if_pos c1]
    rcases h2 with ⟨rfl, h⟩ | ⟨rfl, h⟩
    · rw [dg_two]; unfold dig2; rw [show n / 10 = 0 by omega, show n % 10 = n by omega]; rfl
    · rw [dg_three]; unfold dig3; rw [show n / 100 = 0 by omega, show n / 10 % 10 = 0 by omega, show n % 10 = n by omega]; rfl
  · rw [if_neg c1]
    by_cases c2 : n < 100
    · rw [if_pos c2]
      rcases h2 with ⟨rfl, h⟩ | ⟨rfl, h⟩
      · rw [dg_two]; rfl
      · rw [dg_three]; unfold dig3 dig2; rw [show n / 100 = 0 by omega, show n / 10 % 10 = n / 10 by omega]; rfl
    · rw [if_neg c2]
      rcases h2 with ⟨rfl, h⟩ | ⟨rfl, h⟩
      · omega
      · rw [dg_three]; rfl
attribute [local go_sem] S_add S_size
set_option maxHeartbeats 400000 in
theorem digits_any (n k : Int) (w0 w : World) (hE : Env w0) (hb : Below w0.heap.size w0 w) (h1 : 0 ≤ n) (h2 : (k = 2 ∧ n ≤ 99) ∨ (k = 3 ∧ n ≤ 999)) :
    Calls Tryz.prog 108 #[.int .i64 n, .int .i64 k] w fun e w' => e = .returned (.string (S (dg k n))) ∧ Below w0.heap.size w0 w' := by
  have Z := Lib.hid (zs_sh k n h1 h2)
  obtain ⟨l1, l2, l3⟩ := sh_len n h1 (by omega)
  have m1 : 0 ≤ k - ((sh n).length : Int) ∧ k - ((sh n).length : Int) ≤ 2 := by
    rcases h2 with ⟨rfl, h⟩ | ⟨rfl, h⟩
    · have := l3 h; omega
    · omega
  have k1 : 2 ≤ k ∧ k ≤ 3 := by omega
  have z1 : (zs (k - ((sh n).length : Int))).length ≤ 2 := by unfold zs; rw [List.length_replicate]; omega
  have hE2 := hE.under hb
  have h3 : n ≤ 999 := by omega
  clear h2 l3
  go_enter Tryz.func108, Tryz.ntmps108
  go_wp2_with fail
  refine (itoa_any _ _ hE2 h1 h3).mono ?_
  rintro e w1 ⟨rfl, g1⟩
  have b1 := hb.trans (g1.mono hb.size)
  go_wp2_with fail
  refine (repeat_any _ _ (by omega) (by omega)).mono ?_
  rintro e w2 ⟨rfl, g2⟩
  have b2 := b1.trans (g2.mono b1.size)
  go_wp2_with fail
  go_ret
  exact ⟨ret_str (by rw [Z.out]), b2⟩
/-- The text of a place. -/
def txt (f : Nat) (a b : Int) : List UInt8 := dig2 f ++ dig3 a ++ dig3 b
theorem txt_length (f : Nat) (a b : Int) : (txt f a b).length = 8 := rfl
set_option maxHeartbeats 400000 in
theorem format_no (F a b c : Int) (w : World) (hv : vb F a b c = false) :
    Calls Tryz.prog 67 #[.agg #[.int .i64 F, .int .i64 a, .int .i64 b, .int .i64 c]] w fun e w' => e = .returned (.tuple #[.string ⟨#[]⟩, .int .i64 1]) ∧ Below w.heap.size w w' := by
  go_enter Tryz.func67, Tryz.ntmps67
  go_wp2_with fail
  refine (valid_is _ _ _ _ _ w _ ((Below.refl _ _).alloc (Nat.le_refl _) _) hv).mono ?_
  rintro e w1 ⟨rfl, g1⟩
  go_wp2_with fail
  go_ret2
  exact ⟨rfl, g1⟩
attribute [local go_sem] dg_two dg_three dig2_length dig3_length
set_option maxHeartbeats 1000000 in
theorem format_yes (f : Nat) (a b c : Int) (w : World) (hE : Env w) (hv : Ico.Vld f a b c) :
    Calls Tryz.prog 67 #[.agg #[.int .i64 f, .int .i64 a, .int .i64 b, .int .i64 c]] w fun e w' => e = .returned (.tuple #[.string (S (txt f a b)), .int .i64 0]) ∧ Below w.heap.size w w' := by
  have v1 := vb_of hv
  obtain ⟨u1, u2, u3, u4, u5, -⟩ := hv
  go_enter Tryz.func67, Tryz.ntmps67
  go_wp2_with fail
  have r0 := Row.new w #[.int .i64 f, .int .i64 a, .int .i64 b, .int .i64 c] 50
  refine (valid_is _ _ _ _ _ _ _ (Below.refl _ _) v1).mono ?_
  rintro e w1 ⟨rfl, g1⟩
  go_upto_region 3 with fail
  refine forget (fun Y => Below w.heap.size w Y ∧ Row Y w.heap.size 50 #[.int .i64 f, .int .i64 a, .int .i64 b, .int .i64 c]) ⟨((Below.refl _ _).alloc (Nat.le_refl _) _).trans (g1.mono (by simp)), r0.under g1⟩ ?_
  clear g1 r0
  rintro Y ⟨bY, BY⟩
  obtain ⟨k0, k1, k2, k3⟩ := row4 BY
  have R := Lib.hid BY; clear BY
  have hEY := (hE.under bY).drew
  have hb2 := Below.refl Y.drew.heap.size Y.drew
  go_region_held3 (fun w' => w'.cell? ⟨w.heap.size, 0, none⟩ = some (.int .i64 f) ∧ w'.cell? ⟨w.heap.size, 1, none⟩ = some (.int .i64 a) ∧ w'.cell? ⟨w.heap.size, 2, none⟩ = some (.int .i64 b) ∧ w'.cell? ⟨w.heap.size, 3, none⟩ = some (.int .i64 c))
    (first | go_keep | exact row4 (Row.under (w := Y.drew) R.out hb2))
    (first | (go_at_call 108; refine (digits_any _ _ Y.drew _ hEY hb2 (by omega) (by omega)).mono ?_; clear hb2; rintro e w2 ⟨rfl, hb2⟩))
  go_wp2
  go_ret2
  exact ⟨ret_str2 (by simp [txt]), bY.trans ((undrew hb2).mono bY.size)⟩
end Go.Proofs.YtfnlgfacadmjpaaGreatDoor.Pl
namespace Go.Proofs.YtfnlgfacadmjpaaGreatDoor
open Go.RowKit
open Ck (Nearest)

/-- The word of a kind. -/
def kws : List (List UInt8) := [[76, 65, 78, 68], [83, 72, 73, 80], [66, 85, 79, 89]]
def kw (k : Int) : List UInt8 := kws.getD (k - 1).toNat []
/-- What package variables hold. -/
structure Env (w : World) : Prop where
  ck : Ck.Tab w
  el : El.Env w
  kd : ∀ i : Nat, i < 3 → w.cell? ⟨0, i, none⟩ = some (.string (S (kws.getD i [])))
  ml : ∃ m, w.cell? ⟨3, 0, none⟩ = some (.int .i64 m)
theorem Env.pl {w : World} (h : Env w) : Pl.Env w := h.el.pow
theorem Env.under {w w' : World} (h : Env w) (hb : Below w.heap.size w w') : Env w' := by
  obtain ⟨t, p, kd, m, hm⟩ := h
  exact ⟨t.under hb, p.under hb, fun i hi => (hb.cell (p := ⟨0, i, none⟩) (World.block_lt_of_cell? w _ (kd i hi))).trans (kd i hi), m, (hb.cell (p := ⟨3, 0, none⟩) (World.block_lt_of_cell? w _ hm)).trans hm⟩
theorem Env.alloc {w : World} (h : Env w) (o : Obj) : Env (w.alloc o) := h.under ((Below.refl _ _).alloc (Nat.le_refl _) o)
theorem Env.drew {w : World} (h : Env w) : Env w.drew := ⟨h.ck, h.el.drew, h.kd, h.ml⟩
theorem Env.drewN {w : World} (h : Env w) (n : Nat) : Env (w.drewN n) := ⟨h.ck, h.el.drewN n, h.kd, h.ml⟩
theorem Env.tab {w : World} (h : Env w) : El.Tab w := h.el.tab

/-- A day of the month, an hour, a minute and a minute near which they are looked for. -/
def tmOk (d h i near : Int) : Prop := (1 ≤ d ∧ d ≤ 31) ∧ Ck.Cal.tod h i = true ∧ Ck.Cal.rng near = true
open Classical in
/-- The minute that they name. -/
noncomputable def rsv (d h i near : Int) : Option Int := if x : tmOk d h i near ∧ ∃ a, Nearest d h i near a then some (Classical.choose x.2) else none
theorem rsv_yes {d h i near a : Int} (ho : tmOk d h i near) (ha : Nearest d h i near a) : rsv d h i near = some a := by
  unfold rsv
  have x : tmOk d h i near ∧ ∃ a, Nearest d h i near a := ⟨ho, a, ha⟩
  rw [dif_pos x, Ck.Nearest.unique (Classical.choose_spec x.2) ha]
theorem rsv_no {d h i near : Int} (ho : ¬ tmOk d h i near) : rsv d h i near = none := by unfold rsv; rw [dif_neg fun x => ho x.1]
theorem rsv_some {d h i near a : Int} (h0 : rsv d h i near = some a) : tmOk d h i near ∧ Nearest d h i near a := by
  unfold rsv at h0
  split at h0
  · rename_i x
    obtain rfl := Option.some.inj h0
    exact ⟨x.1, Classical.choose_spec x.2⟩
  · cases h0
/-- What both sides' Resolve answers. -/
def RsvR (d h i near : Int) (w : World) (e : Ending) (w' : World) : Prop :=
  ((tmOk d h i near ∧ ∃ a, rsv d h i near = some a ∧ e = .returned (.tuple #[.int .i64 a, .int .i64 0])) ∨ (¬ tmOk d h i near ∧ rsv d h i near = none ∧ e = .returned (.tuple #[.int .i64 0, .int .i64 1]))) ∧ Below w.heap.size w w'
theorem resolve_is (d h i near : Int) (w : World) (hT : Ck.Tab w) :
    Calls Tryz.prog 79 #[.int .i64 d, .int .i64 h, .int .i64 i, .int .i64 near] w (RsvR d h i near w) := by
  by_cases ho : tmOk d h i near
  · exact (Ck.resolve_yes d h i near w hT ho.1.1 ho.1.2 ho.2.1 ho.2.2).mono fun e w' ⟨a, ha, he, hb⟩ => ⟨.inl ⟨ho, a, rsv_yes ho ha, he⟩, hb⟩
  · exact (Ck.resolve_no d h i near w ho).mono fun e w' ⟨he, hb⟩ => ⟨.inr ⟨ho, rsv_no ho, he⟩, hb ▸ Below.refl _ _⟩
theorem refResolve_is (d h i near : Int) (w : World) :
    Calls Tryz.prog 134 #[.int .i64 d, .int .i64 h, .int .i64 i, .int .i64 near] w (RsvR d h i near w) := by
  by_cases ho : tmOk d h i near
  · exact (Ck.refResolve_yes d h i near w ho.1.1 ho.1.2 ho.2.1 ho.2.2).mono fun e w' ⟨a, ha, he, hb⟩ => ⟨.inl ⟨ho, a, rsv_yes ho ha, he⟩, hb⟩
  · exact (Ck.refResolve_no d h i near w ho).mono fun e w' ⟨he, hb⟩ => ⟨.inr ⟨ho, rsv_no ho, he⟩, hb ▸ Below.refl _ _⟩
/-- The date of a minute. -/
def Dt (t y m d h i : Int) : Prop := Ck.Cal.vld y m d h i = true ∧ Ck.Cal.num y m d h i = t
open Classical in
noncomputable def dayOf (t : Int) : Int := if x : ∃ d y m h i, Dt t y m d h i then Classical.choose x else 0
def hourOf (t : Int) : Int := t % 1440 / 60
def minOf (t : Int) : Int := t % 1440 % 60
theorem dt_of {t : Int} (h : 0 ≤ t ∧ t ≤ 52595999) : ∃ y m, Dt t y m (dayOf t) (hourOf t) (minOf t) := by
  obtain ⟨y, m, d, p, q, hv, hn, -, -, e1, e2⟩ := Ck.Cal.num_of t h.1 h.2
  have x : ∃ d y m h i, Dt t y m d h i := ⟨d, y, m, p, q, hv, hn⟩
  have ed : dayOf t = d := by
    unfold dayOf; rw [dif_pos x]
    obtain ⟨y', m', p', q', hv', hn'⟩ := Classical.choose_spec x
    exact (Ck.Cal.num_inj hv' hv (hn'.trans hn.symm)).2.2.1
  refine ⟨y, m, ?_⟩
  rw [ed, show hourOf t = p from e1.symm, show minOf t = q from e2.symm]
  exact ⟨hv, hn⟩
theorem dt_bd {t : Int} (h : 0 ≤ t ∧ t ≤ 52595999) : (1 ≤ dayOf t ∧ dayOf t ≤ 31) ∧ (0 ≤ hourOf t ∧ hourOf t ≤ 23) ∧ (0 ≤ minOf t ∧ minOf t ≤ 59) := by
  obtain ⟨y, m, hv, -⟩ := dt_of h
  obtain ⟨⟨a1, a2, a3, a4⟩, a5, a6, a7, a8, a9, a10⟩ := Ck.Cal.vld_iff.1 hv
  have := Ck.Cal.dim_bd y m
  exact ⟨⟨a5, by omega⟩, ⟨a7, a8⟩, a9, a10⟩
theorem date_is (t : Int) (w : World) (hT : Ck.Tab w) (h : 0 ≤ t ∧ t ≤ 52595999) :
    Calls Tryz.prog 78 #[.int .i64 t] w fun e w' => (∃ y m, e = .returned (.tuple #[.agg #[.int .i64 y, .int .i64 m, .int .i64 (dayOf t), .int .i64 (hourOf t), .int .i64 (minOf t)], .int .i64 0])) ∧ Below w.heap.size w w' := by
  obtain ⟨y, m, hv, hn⟩ := dt_of h
  exact (Ck.date_yes t y m _ _ _ w hT hn hv).mono fun e w' ⟨he, hb⟩ => ⟨⟨y, m, he⟩, hb⟩
theorem refDate_is (t : Int) (w : World) (h : 0 ≤ t ∧ t ≤ 52595999) :
    Calls Tryz.prog 112 #[.int .i64 t] w fun e w' => (∃ y m, e = .returned (.tuple #[.agg #[.int .i64 y, .int .i64 m, .int .i64 (dayOf t), .int .i64 (hourOf t), .int .i64 (minOf t)], .int .i64 0])) ∧ Below w.heap.size w w' := by
  obtain ⟨y, m, hv, hn⟩ := dt_of h
  exact (Ck.refDate_yes t y m _ _ _ w hn hv).mono fun e w' ⟨he, hb⟩ => ⟨⟨y, m, he⟩, hb⟩
/-- The minute t is named by its own day, hour and minute near near. -/
def Rdb (t near : Int) : Prop := rsv (dayOf t) (hourOf t) (minOf t) near = some t
open Classical in
noncomputable def rdb (t near : Int) : Bool := decide (Rdb t near)
theorem rdb_iff {t near : Int} : rdb t near = true ↔ Rdb t near := by unfold rdb; simp
theorem rdb_near {t near : Int} (h : 0 ≤ t ∧ t ≤ 52595999) (hn : 0 ≤ near ∧ near ≤ 52595999) (h1 : near - 20160 < t) (h2 : t < near + 20160) : Rdb t near := by
  obtain ⟨y, m, hv, e⟩ := dt_of h
  obtain ⟨b1, b2, b3⟩ := dt_bd h
  have := Ck.nearest_near (near := near) hv (by omega) (by omega)
  rw [e] at this
  exact rsv_yes ⟨b1, Ck.Cal.vld_tod hv, Ck.Cal.rng_yes hn.1 hn.2⟩ this
/-- What is named has the same day, hour and minute, and is a minute. -/
theorem rsv_own {d h i near a : Int} (h0 : rsv d h i near = some a) : (0 ≤ a ∧ a ≤ 52595999) ∧ dayOf a = d ∧ hourOf a = h ∧ minOf a = i := by
  obtain ⟨ho, hn⟩ := rsv_some h0
  have hb := hn.bd
  obtain ⟨⟨M, hM, rfl⟩, -⟩ := hn
  obtain ⟨y, m, hv, e⟩ := dt_of hb
  have := Ck.Cal.num_inj hv hM e
  exact ⟨hb, this.2.2.1, this.2.2.2.1, this.2.2.2.2⟩
theorem validate_is (k : Int) (nm : ByteArray) (t F A B C : Int) (u : Value) (L : List El.Elt.R) (c : Int) (w : World) (hL : El.RdIn w u L) (hT : El.Tab w) (hc : vcode k nm t F A B C L = c) :
    Calls Tryz.prog 43 #[repV k nm t F A B C u] w fun e w' => e = .returned (.int .i64 c) ∧ Below w.heap.size w w' := hc ▸ validate_any k nm t F A B C u L w hL hT
set_option maxHeartbeats 1000000 in
theorem readable_any (k : Int) (nm : ByteArray) (t F A B C : Int) (u : Value) (L : List El.Elt.R) (near : Int) (w : World) (hL : El.RdIn w u L) (hE : Env w) :
    Calls Tryz.prog 44 #[repV k nm t F A B C u, .int .i64 near] w fun e w' => e = .returned (.bool (decide (vcode k nm t F A B C L = 0) && rdb t near)) ∧ Below w.heap.size w w' := by
  have b1 := (Below.refl w.heap.size w).alloc (Nat.le_refl _) (.cells (repC k nm t F A B C u) 53)
  have r1 := Row.new w (repC k nm t F A B C u) 53
  have hE1 := hE.under b1
  have hL1 := hL.under b1
  generalize hc : vcode k nm t F A B C L = c
  have hcb := vcode_bd k nm t F A B C L
  rw [hc] at hcb
  by_cases h0 : c = 0
  · have hV := Vd.of (hc.trans h0)
    have ht := hV.time
    have R := Lib.hid (show (decide (c = 0) && rdb t near) = rdb t near by rw [decide_eq_true h0, Bool.true_and])
    have HC := Lib.hid (hc.trans h0); clear hc hcb h0 hV
    obtain ⟨td, th, tm⟩ := dt_bd ht
    go_enter Tryz.func44, Tryz.ntmps44
    go_wp2_with fail
    generalize hW1 : w.alloc (.cells (repC k nm t F A B C u) 53) = W1 at *
    refine (validate_is k nm t F A B C u L 0 _ hL1 hE1.tab HC.out).mono ?_
    rintro e w2 ⟨rfl, g2⟩
    have b2 := b1.trans (g2.mono b1.size)
    have r2 := r1.under g2
    have hE2 := hE1.under g2
    clear g2 b1 r1 hL hL1 hE1 hE hW1
    obtain ⟨c0, c1, c2, c3, c4, c5, c6, c7⟩ := row8 r2
    go_wp2_with fail
    refine (date_is t _ hE2.ck ht).mono ?_
    rintro e w3 ⟨⟨y, m, rfl⟩, g3⟩
    have b3 := b2.trans (g3.mono b2.size)
    have r3 := r2.under g3
    have hE3 := hE2.under g3
    have hE4 := hE3.alloc (.cells #[.int .i64 y, .int .i64 m, .int .i64 (dayOf t), .int .i64 (hourOf t), .int .i64 (minOf t)] 95)
    have b4 := b3.alloc b3.size (.cells #[.int .i64 y, .int .i64 m, .int .i64 (dayOf t), .int .i64 (hourOf t), .int .i64 (minOf t)] 95)
    have r4 := r3.alloc (.cells #[.int .i64 y, .int .i64 m, .int .i64 (dayOf t), .int .i64 (hourOf t), .int .i64 (minOf t)] 95)
    clear g3 b2 r2 b3 r3 c0 c1 c2 c3 c4 c5 c6 c7 hE2 hE3
    have RS := Lib.hid (resolve_is (dayOf t) (hourOf t) (minOf t) near)
    have RB := Lib.hid (show rdb t near = true ↔ rsv (dayOf t) (hourOf t) (minOf t) near = some t from rdb_iff)
    unfold RsvR at RS
    generalize rsv (dayOf t) (hourOf t) (minOf t) near = o at *
    generalize dayOf t = d0 at *
    generalize hourOf t = h0 at *
    generalize minOf t = m0 at *
    go_wp2_with fail
    refine (RS.out _ hE4.ck).mono ?_
    rintro e w5 ⟨hr, g5⟩
    have b5 := b4.trans (g5.mono b4.size)
    have r5 := r4.under g5
    obtain ⟨c0, c1, c2, c3, c4, c5, c6, c7⟩ := row8 r5
    clear g5 b4 r4
    rcases hr with ⟨-, a, ha, rfl⟩ | ⟨-, ha, rfl⟩
    · by_cases hat : a = t
      · subst hat
        have Q := Lib.hid (RB.out.2 ha)
        clear ha
        go_wp2_with fail
        go_ret
        exact ⟨ret_bool (by rw [R.out, Q.out]), b5⟩
      · have Q := Lib.hid (show rdb t near = false by rw [← Bool.not_eq_true]; intro x; exact hat (Option.some.inj (ha.symm.trans (RB.out.1 x))))
        have qa : (a == t) = false := beq_eq_false_iff_ne.2 hat
        clear ha hat
        go_wp2_with fail
        go_ret
        exact ⟨ret_bool (by rw [R.out, Q.out]), b5⟩
    · have Q := Lib.hid (show rdb t near = false by rw [← Bool.not_eq_true]; intro x; have := ha.symm.trans (RB.out.1 x); cases this)
      clear ha
      go_wp2_with fail
      go_ret
      exact ⟨ret_bool (by rw [R.out, Q.out]), b5⟩
  · have R := Lib.hid (show (decide (c = 0) && rdb t near) = false by rw [decide_eq_false h0, Bool.false_and])
    have HC := Lib.hid hc; clear hc
    have q : (c != 0) = true := by rw [bne_iff_ne]; exact h0
    clear h0
    go_enter Tryz.func44, Tryz.ntmps44
    go_wp2_with fail
    refine (validate_is k nm t F A B C u L c _ hL1 hE1.tab HC.out).mono ?_
    rintro e w2 ⟨rfl, g2⟩
    go_wp2_with fail
    go_ret
    exact ⟨ret_bool (by rw [R.out]), b1.trans (g2.mono b1.size)⟩
end Go.Proofs.YtfnlgfacadmjpaaGreatDoor
namespace Go.Proofs.YtfnlgfacadmjpaaGreatDoor.Ck
open Go.RowKit

/-- The number in the bytes from a to b. -/
def fld (s : ByteArray) (a b : Nat) : Int := numv (s.extract a b).data.toList
theorem fld_mk (s : ByteArray) (a b : Nat) : numv (s.extract a b).data.toList = fld s a b := rfl
theorem fld_bd (s : ByteArray) (a b : Nat) (h : b - a ≤ 4) : -60000 ≤ fld s a b ∧ fld s a b ≤ 300000 :=
  numv_bd _ _ rfl (by rw [Array.length_toList]; show (s.extract a b).size ≤ 4; rw [ByteArray.size_extract]; omega)
theorem ret_par {a c b d : Int} (h : a = b) (k : c = d) : Ending.returned (.tuple #[.int .i64 a, .int .i64 c]) = .returned (.tuple #[.int .i64 b, .int .i64 d]) := by rw [h, k]
end Go.Proofs.YtfnlgfacadmjpaaGreatDoor.Ck
