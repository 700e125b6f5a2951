/- The walk of ClockDays: for every year and month the law returns true, and what lay in memory is as it was. -/
import Derived.Test.YtaohndjlaamdaaaDoorAwake
namespace Go.Proofs.YtaohndjlaamdaaaDoor
open Go.RowKit

theorem mod_is (x n r : Int) (w : World) (hr : x % n = r) (hx : I64 x) (h1 : 1 ≤ n) (h2 : n ≤ 100000000) :
    Calls Tryd.prog 25 #[.int .i64 x, .int .i64 n] w fun e w' => e = .returned (.int .i64 r) ∧ w = w' := hr ▸ mod_any x n w hx h1 h2

theorem days_dim (y m : Int) (w : World) (hT : Tab w) (h : 2000 ≤ y ∧ y ≤ 2099 ∧ 1 ≤ m ∧ m ≤ 12) :
    Calls Tryd.prog 16 #[.int .i64 y, .int .i64 m] w fun e w' => e = .returned (.int .i64 (Cal.dim y m)) ∧ w = w' := Cal.days_in h ▸ days_any y m w hT

theorem cum13_366 {y : Int} (h : y % 4 = 0) : Cal.cum y 13 = 366 := by rw [Cal.cum_13]; unfold Cal.leap; rw [if_pos h]; rfl
theorem cum13_365 {y : Int} (h : ¬ y % 4 = 0) : Cal.cum y 13 = 365 := by rw [Cal.cum_13]; unfold Cal.leap; rw [if_neg h]; rfl
/-- What the tests of the year's length come to. -/
def Long (y T : Int) : Prop := ((y % 4 == 0) = true ∧ (y % 4 != 0) = false ∧ (T != 366) = false) ∨ ((y % 4 == 0) = false ∧ (y % 4 != 0) = true ∧ (T != 365) = false)
theorem long_of (y : Int) : ∃ T, Cal.cum y 13 = T ∧ 365 ≤ T ∧ T ≤ 366 ∧ Long y T := by
  by_cases h : y % 4 = 0
  · exact ⟨366, cum13_366 h, by omega, by omega, .inl ⟨by simpa using h, by simpa using h, by decide⟩⟩
  · exact ⟨365, cum13_365 h, by omega, by omega, .inr ⟨by simpa using h, by simpa using h, by decide⟩⟩

set_option maxRecDepth 100000 in
set_option maxHeartbeats 2000000 in
/-- The walk, the year and the month already reduced. -/
theorem clockDays_walk (year month a b T : Int) (w : World) (hE : Env w) (h1 : I64 year) (h2 : I64 month) (ha : Hid (year % 100 = a)) (hb : Hid (month % 12 = b))
    (a1 : 0 ≤ a) (a2 : a < 100) (b1 : 0 ≤ b) (b2 : b < 12) (hT : Hid (Cal.cum (2000 + a) 13 = T)) (t1 : 365 ≤ T) (t2 : T ≤ 366) (hL : Long (2000 + a) T) :
    Calls Tryd.prog 8 #[.int .i64 year, .int .i64 month] w fun e w' => e = .returned (.bool true) ∧ Below w.heap.size w w' := by
  have d1 := Cal.dim_bd (2000 + a) (1 + b)
  have v1 : Cal.vld (2000 + a) (1 + b) 1 0 0 = true := Cal.vld_iff.2 (by omega)
  have v2 : Cal.vld (2000 + a) (1 + b) (Cal.dim (2000 + a) (1 + b)) 0 0 = true := Cal.vld_iff.2 (by omega)
  have v3 : Cal.vld (2000 + a) (1 + b) (Cal.dim (2000 + a) (1 + b) + 1) 0 0 = false := by
    rw [← Bool.not_eq_true, Cal.vld_iff]; omega
  have v4 : Cal.vld (2000 + a) 1 1 0 0 = true := Cal.vld_iff.2 ⟨by omega, by omega, by have := Cal.dim_bd (2000 + a) 1; omega, by omega, by omega, by omega, by omega⟩
  have v5 : Cal.vld (2000 + a) 12 31 0 0 = true := Cal.vld_iff.2 ⟨by omega, by omega, by simp [Cal.dim], by omega, by omega, by omega, by omega⟩
  have n1 := Cal.num_bd v1
  have n2 := Cal.num_bd v2
  have n4 := Cal.num_bd v4
  have n5 := Cal.num_bd v5
  have f1 : (Cal.num (2000 + a) (1 + b) (Cal.dim (2000 + a) (1 + b)) 0 0 - Cal.num (2000 + a) (1 + b) 1 0 0 == 1440 * (Cal.dim (2000 + a) (1 + b) - 1)) = true := by
    rw [beq_iff_eq]; unfold Cal.num; omega
  have f2 : (Cal.num (2000 + a) 12 31 0 0 - Cal.num (2000 + a) 1 1 0 0 == 1440 * (T - 1)) = true := by
    rw [beq_iff_eq]
    have e1 := Cal.cum_succ (2000 + a) 12 (by omega) (by omega)
    have e2 : Cal.dim (2000 + a) 12 = 31 := by simp [Cal.dim]
    have e3 := Cal.cum_one (2000 + a)
    have e4 := hT.out
    rw [show (12 : Int) + 1 = 13 by rfl] at e1
    unfold Cal.num; omega
  have V1 := Lib.hid v1; clear v1
  have V2 := Lib.hid v2; clear v2
  have V3 := Lib.hid v3; clear v3
  have V4 := Lib.hid v4; clear v4
  have V5 := Lib.hid v5; clear v5
  go_enter Tryd.func8, Tryd.ntmps8
  go_wp2_with fail
  refine (mod_is _ _ a _ ha.out h1 (by omega) (by omega)).mono ?_
  rintro e w1 ⟨rfl, rfl⟩
  go_wp2_with fail
  refine (mod_is _ _ b _ hb.out h2 (by omega) (by omega)).mono ?_
  rintro e w1 ⟨rfl, rfl⟩
  go_wp2_with fail
  go_loop [7, 8] (fun s q => ∃ k : Int, 1 ≤ k ∧ k ≤ 13 ∧ q = .int .i64 k ∧ s = .int .i64 (Cal.cum (2000 + a) k)) (fun _ q => (14 - intOf q).toNat)
  case atStart => exact ⟨1, by omega, by omega, rfl, by rw [Cal.cum_one]⟩
  case round =>
    obtain ⟨k, k1, k2, rfl, rfl⟩ := hrel
    have c4 := Cal.cum_bd (2000 + a) k (by omega) (by omega)
    by_cases hlt : k ≤ 12
    · have c5 := Cal.dim_bd (2000 + a) k
      have C := Lib.hid (Cal.cum_succ (2000 + a) k k1 hlt)
      go_wp2_with (go_at_call 16; refine (days_dim _ _ _ hE.1 (by omega)).mono ?_; rintro e w2 ⟨rfl, rfl⟩)
      go_round
      case rel => exact ⟨k + 1, by omega, by omega, rfl, by rw [C.out]⟩
      case measure => simp [intOf]; omega
    · obtain rfl : k = 13 := by omega
      clear c4
      rw [hT.out]
      unfold Long at hL
      rcases hL with ⟨hy1, hy2, hy3⟩ | ⟨hy1, hy2, hy3⟩
      all_goals
        go_wp2_with fail
        refine (minutes_yes _ _ _ _ _ _ hE.1 V1.out).mono ?_
        rintro e w1 ⟨rfl, g1⟩
        have hE1 := hE.under g1
        go_wp2_with fail
        refine (days_dim _ _ _ hE1.1 (by omega)).mono ?_
        rintro e w2 ⟨rfl, rfl⟩
        go_wp2_with fail
        refine (minutes_yes _ _ _ _ _ _ hE1.1 V2.out).mono ?_
        rintro e w2 ⟨rfl, g2⟩
        have g12 := g1.trans (g2.mono g1.size)
        have hE2 := hE1.under g2
        go_wp2_with fail
        refine (days_dim _ _ _ hE2.1 (by omega)).mono ?_
        rintro e w3 ⟨rfl, rfl⟩
        go_wp2_with fail
        refine (minutes_no _ _ _ _ _ _ hE2.1 V3.out).mono ?_
        rintro e w3 ⟨rfl, g3⟩
        have g13 := g12.trans (g3.mono g12.size)
        have hE3 := hE2.under g3
        go_wp2_with fail
        refine (minutes_yes _ _ _ _ _ _ hE3.1 V4.out).mono ?_
        rintro e w4 ⟨rfl, g4⟩
        have g14 := g13.trans (g4.mono g13.size)
        have hE4 := hE3.under g4
        go_wp2_with fail
        refine (minutes_yes _ _ _ _ _ _ hE4.1 V5.out).mono ?_
        rintro e w5 ⟨rfl, g5⟩
        have g15 := g14.trans (g5.mono g14.size)
        have hE5 := hE4.under g5
        go_wp2_with fail
        refine (days_dim _ _ _ hE5.1 (by omega)).mono ?_
        rintro e w6 ⟨rfl, rfl⟩
        go_wp2_with fail
        refine (awake_any _ hE5).mono ?_
        rintro e w6 ⟨rfl, g6⟩
        go_wp2_with fail
        go_ret
        exact ⟨rfl, g15.trans (g6.mono g15.size)⟩
theorem clockDays_any (year month : Int) (w : World) (hE : Env w) (h1 : I64 year) (h2 : I64 month) :
    Calls Tryd.prog 8 #[.int .i64 year, .int .i64 month] w fun e w' => e = .returned (.bool true) ∧ Below w.heap.size w w' := by
  obtain ⟨T, hT, t1, t2, hL⟩ := long_of (2000 + year % 100)
  exact clockDays_walk year month (year % 100) (month % 12) T w hE h1 h2 (Lib.hid rfl) (Lib.hid rfl) (by omega) (by omega) (by omega) (by omega) (Lib.hid hT) t1 t2 hL
end Go.Proofs.YtaohndjlaamdaaaDoor
