/- Contracts of the functions over dates: Valid, Minutes, Date of the program. -/
import Derived.Test.YtaohndjlaamdaaaDoorNums
import Derived.Lib.SmallJoins
import Derived.Outline
namespace Go.Proofs.YtaohndjlaamdaaaDoor
open Go.RowKit

theorem quiet_left {P : Program} {f : FuncId} {args : Array Value} {w : World} {n : Nat} {v : Value}
    (h : Calls P f args (w.drewN n) fun e w' => e = .returned v ∧ w.drewN n = w') : Calls P f args (w.drewN n) fun e w'' => e = .returned v ∧ ∃ m, w'' = w.drewN m :=
  h.mono fun _ _ ⟨he, hm⟩ => ⟨he, n, hm.symm⟩
theorem below_drewN {B : Nat} {a w : World} (h : Below B a w) (n : Nat) : Below B a (w.drewN n) := ⟨h.os, h.tape, h.output, h.size, h.block⟩

theorem Tab.pos {w : World} (h : Tab w) : 0 < w.heap.size := by
  have h0 := h 0 (by omega)
  rcases Nat.eq_zero_or_pos w.heap.size with hz | hz
  · unfold World.cell? at h0
    rw [Array.getElem?_eq_none (by simp [hz])] at h0
    simp at h0
  · exact hz
theorem Tab.below {w w' : World} {B : Nat} (h : Tab w) (hb : Below B w w') (hB : 0 < B) : Tab w' := fun i hi => (hb.cell (p := ⟨0, i, none⟩) hB).trans (h i hi)
theorem Tab.under {w w' : World} (h : Tab w) (hb : Below w.heap.size w w') : Tab w' := h.below hb h.pos
theorem Tab.alloc {w : World} (h : Tab w) (o : Obj) : Tab (w.alloc o) := h.under ((Below.refl _ _).alloc (Nat.le_refl _) o)
theorem Tab.drewN {w : World} (h : Tab w) (n : Nat) : Tab (w.drewN n) := h

/-- A struct of five cells that the call has boxed, behind a callee. -/
theorem box5 {w w1 : World} {a b c d e : Value} {t : TypeId} (hb : Below (w.alloc (.cells #[a, b, c, d, e] t)).heap.size (w.alloc (.cells #[a, b, c, d, e] t)) w1) :
    (w1.cell? ⟨w.heap.size, 0, none⟩ = some a ∧ w1.cell? ⟨w.heap.size, 1, none⟩ = some b ∧ w1.cell? ⟨w.heap.size, 2, none⟩ = some c ∧ w1.cell? ⟨w.heap.size, 3, none⟩ = some d ∧ w1.cell? ⟨w.heap.size, 4, none⟩ = some e) ∧ Below w.heap.size w w1 := by
  have key : ∀ i, w1.cell? ⟨w.heap.size, i, none⟩ = (w.alloc (.cells #[a, b, c, d, e] t)).cell? ⟨w.heap.size, i, none⟩ := fun i => hb.cell (p := ⟨w.heap.size, i, none⟩) (by simp)
  refine ⟨⟨?_, ?_, ?_, ?_, ?_⟩, ((Below.refl _ _).alloc (Nat.le_refl _) _).trans (hb.mono (by simp))⟩
  all_goals (rw [key]; go_simp)
/-- A date as the program holds it. -/
def civil (y m d h i : Int) : Value := .agg #[.int .i64 y, .int .i64 m, .int .i64 d, .int .i64 h, .int .i64 i]

theorem ret_i2 {a b c : Int} (h : a = b) : Ending.returned (.tuple #[.int .i64 a, .int .i64 c]) = .returned (.tuple #[.int .i64 b, .int .i64 c]) := by rw [h]
theorem ret_bool {a b : Bool} (h : a = b) : Ending.returned (.bool a) = .returned (.bool b) := by rw [h]

set_option maxHeartbeats 400000 in
theorem valid_any (y m d h i : Int) (w : World) (hT : Tab w) :
    Calls Tryd.prog 14 #[.agg #[.int .i64 y, .int .i64 m, .int .i64 d, .int .i64 h, .int .i64 i]] w fun e w' => e = .returned (.bool (Cal.vld y m d h i)) ∧ Below w.heap.size w w' := by
  have E := Lib.hid (Cal.vld_eq y m d h i)
  by_cases h1 : 1 ≤ d
  · by_cases h2 : d ≤ Cal.days y m
    · go_enter Tryd.func14, Tryd.ntmps14
      go_wp2
      go_quiet ((first | (go_at_call 16; exact quiet_left (days_any _ _ _ ((hT.alloc _).drewN _))) | (go_at_call 34; exact quiet_left (timeOfDay_any _ _ _))))
      go_wp2
      go_ret
      exact ⟨ret_bool (by rw [E.out]; simp [h1, h2]), below_drewN ((Below.refl _ _).alloc (Nat.le_refl _) _) _⟩
    · have hd : decide (d ≤ Cal.days y m) = false := by simpa using h2
      go_enter Tryd.func14, Tryd.ntmps14
      go_wp2
      go_quiet ((go_at_call 16; exact quiet_left (days_any _ _ _ ((hT.alloc _).drewN _))))
      go_wp2
      go_ret
      exact ⟨ret_bool (by rw [E.out, hd]; simp), below_drewN ((Below.refl _ _).alloc (Nat.le_refl _) _) _⟩
  · have hd : decide (1 ≤ d) = false := by simpa using h1
    go_enter Tryd.func14, Tryd.ntmps14
    go_wp2
    go_quiet (fail)
    go_wp2
    go_ret
    exact ⟨ret_bool (by rw [E.out, hd]; simp), below_drewN ((Below.refl _ _).alloc (Nat.le_refl _) _) _⟩

set_option maxHeartbeats 400000 in
theorem minutes_no (y m d h i : Int) (w : World) (hT : Tab w) (hv : Cal.vld y m d h i = false) :
    Calls Tryd.prog 12 #[.agg #[.int .i64 y, .int .i64 m, .int .i64 d, .int .i64 h, .int .i64 i]] w fun e w' => e = .returned (.tuple #[.int .i64 0, .int .i64 1]) ∧ Below w.heap.size w w' := by
  go_enter Tryd.func12, Tryd.ntmps12
  go_wp2_with (go_at_call 14; refine (valid_any _ _ _ _ _ _ (hT.alloc _)).mono ?_; rintro e w1 ⟨rfl, hb⟩)
  go_ret2
  exact ⟨rfl, ((Below.refl _ _).alloc (Nat.le_refl _) _).trans (hb.mono (by simp))⟩

set_option maxHeartbeats 400000 in
theorem minutes_yes (y m d h i : Int) (w : World) (hT : Tab w) (hv : Cal.vld y m d h i = true) :
    Calls Tryd.prog 12 #[.agg #[.int .i64 y, .int .i64 m, .int .i64 d, .int .i64 h, .int .i64 i]] w fun e w' => e = .returned (.tuple #[.int .i64 (Cal.num y m d h i), .int .i64 0]) ∧ Below w.heap.size w w' := by
  obtain ⟨⟨a1, a2, a3, a4⟩, a5, a6, a7, a8, a9, a10⟩ := Cal.vld_iff.1 hv
  have c1 := Cal.cum_bd y m (by omega) (by omega)
  have c2 := Cal.dim_bd y m
  have c3 := Cal.dby_bd y (by omega) (by omega)
  go_enter Tryd.func12, Tryd.ntmps12
  go_wp2_with (go_at_call 14; refine (valid_any _ _ _ _ _ _ (hT.alloc _)).mono ?_; rintro e w1 ⟨rfl, hb⟩)
  obtain ⟨⟨k0, k1, k2, k3, k4⟩, hb1⟩ := box5 hb
  clear hb
  have hT1 := hT.under hb1
  go_quiet ((go_at_call 32; exact quiet_left (daysBefore_any _ _ (by omega) (by omega))))
  go_wp2
  go_loop [4, 5] (fun s q => ∃ k : Int, 1 ≤ k ∧ k ≤ m ∧ q = .int .i64 k ∧ s = .int .i64 (Cal.dby y + d - 1 + Cal.cum y k)) (fun _ q => (13 - intOf q).toNat)
  case atStart => exact ⟨1, by omega, by omega, rfl, by rw [Cal.cum_one, Int.add_zero]⟩
  case round =>
    obtain ⟨k, hk1, hk2, rfl, rfl⟩ := hrel
    have c4 := Cal.cum_bd y k (by omega) (by omega)
    have c5 := Cal.dim_bd y k
    have hd := Cal.days_in ⟨a1, a2, hk1, (by omega : k ≤ 12)⟩
    have C := Lib.hid (Cal.cum_succ y k hk1 (by omega))
    by_cases hlt : k < m
    · go_wp2_with (go_at_call 16; refine (days_any _ _ _ (hT1.drewN _)).mono ?_; rintro e w2 ⟨rfl, rfl⟩)
      go_round
      case rel => exact ⟨k + 1, by omega, by omega, rfl, by rw [C.out]; congr 1; omega⟩
      case measure => simp [intOf]; omega
    · have hkm : k = m := by omega
      subst hkm
      go_wp2
      go_ret2
      exact ⟨ret_i2 (by unfold Cal.num; omega), below_drewN hb1 _⟩

set_option maxHeartbeats 400000 in
theorem date_no (n : Int) (w : World) (hr : Cal.rng n = false) :
    Calls Tryd.prog 19 #[.int .i64 n] w fun e w' => e = .returned (.tuple #[.agg #[.int .i64 0, .int .i64 0, .int .i64 0, .int .i64 0, .int .i64 0], .int .i64 1]) ∧ Below w.heap.size w w' := by
  go_enter Tryd.func19, Tryd.ntmps19
  go_wp2_with (go_at_call 35; refine (inRange_any _ _).mono ?_; rintro e w1 ⟨rfl, rfl⟩)
  exact bodyPost_ret (v := .tuple #[.agg #[.int .i64 0, .int .i64 0, .int .i64 0, .int .i64 0, .int .i64 0], .int .i64 1]) (by simp [results, Tryd.results19, go_sem]) rfl ⟨rfl, (Below.refl _ _).alloc (Nat.le_refl _) _⟩
theorem ret_civil {a b c d e a' b' c' d' e' : Int} (h1 : a = a') (h2 : b = b') (h3 : c = c') (h4 : d = d') (h5 : e = e') :
    Ending.returned (.tuple #[.agg #[.int .i64 a, .int .i64 b, .int .i64 c, .int .i64 d, .int .i64 e], .int .i64 0]) = .returned (.tuple #[.agg #[.int .i64 a', .int .i64 b', .int .i64 c', .int .i64 d', .int .i64 e'], .int .i64 0]) := by rw [h1, h2, h3, h4, h5]
set_option maxHeartbeats 400000 in
theorem date_yes (n y m d h i : Int) (w : World) (hT : Tab w) (hn : Cal.num y m d h i = n) (hv : Cal.vld y m d h i = true) :
    Calls Tryd.prog 19 #[.int .i64 n] w fun e w' => e = .returned (.tuple #[.agg #[.int .i64 y, .int .i64 m, .int .i64 d, .int .i64 h, .int .i64 i], .int .i64 0]) ∧ Below w.heap.size w w' := by
  obtain ⟨n1, n2⟩ := Cal.num_bd hv
  obtain ⟨⟨a1, a2, a3, a4⟩, a5, a6, a7, a8, a9, a10⟩ := Cal.vld_iff.1 hv
  obtain ⟨p1, p2⟩ := Cal.dnum_bd ⟨a1, a2⟩ ⟨a3, a4⟩ ⟨a5, a6⟩
  have p3 := Cal.num_dnum y m d h i
  rw [hn] at n1 n2 p3
  have q1 : n / 1440 = Cal.dnum y m d := by omega
  have q2 : n % 1440 = h * 60 + i := by omega
  have q3 : 2000 + 4 * Cal.dnum y m d / 1461 = y := Cal.year_of ⟨a1, a2⟩ ⟨a3, a4⟩ ⟨a5, a6⟩
  have r1 : (h * 60 + i) / 60 = h := by omega
  have r2 : (h * 60 + i) % 60 = i := by omega
  have hr : Cal.rng n = true := Cal.rng_yes n1 n2
  have c3 := Cal.dby_bd y (by omega) (by omega)
  have D := Lib.hid (show Cal.dnum y m d = Cal.dby y + Cal.cum y m + d - 1 from rfl)
  generalize Cal.dnum y m d = t at *
  clear p3 hn
  have ht := hT.alloc (.cells #[.int .i64 0, .int .i64 0, .int .i64 0, .int .i64 0, .int .i64 0] 23)
  go_enter Tryd.func19, Tryd.ntmps19
  go_wp2_with (first | (go_at_call 35; refine (inRange_any _ _).mono ?_; rintro e w1 ⟨rfl, rfl⟩) | (go_at_call 32; refine (daysBefore_any _ _ (by omega) (by omega)).mono ?_; rintro e w1 ⟨rfl, rfl⟩))
  clear q1 q2 q3
  go_loop [4, 7] (fun s q => ∃ k : Int, 1 ≤ k ∧ k ≤ m ∧ q = .int .i64 k ∧ s = .int .i64 (t - Cal.dby y - Cal.cum y k)) (fun _ q => (13 - intOf q).toNat)
  case atStart => exact ⟨1, by omega, by omega, rfl, by rw [Cal.cum_one]; congr 1; omega⟩
  case round =>
    obtain ⟨k, hk1, hk2, rfl, rfl⟩ := hrel
    have c4 := Cal.cum_bd y k (by omega) (by omega)
    have c5 := Cal.dim_bd y k
    have C := Lib.hid (Cal.cum_succ y k hk1 (by omega))
    have hd := Cal.days_in ⟨a1, a2, hk1, (by omega : k ≤ 12)⟩
    by_cases hlt : k < m
    · have hge : Cal.dim y k ≤ t - Cal.dby y - Cal.cum y k := by
        have e1 := Cal.cum_lt y k m hk1 hlt (by omega)
        have e2 := D.out
        omega
      go_wp2_with (go_at_call 16; refine (days_any _ _ _ ht).mono ?_; rintro e w2 ⟨rfl, rfl⟩)
      go_round
      case rel => exact ⟨k + 1, by omega, by omega, rfl, by rw [C.out]; congr 1; omega⟩
      case measure => simp [intOf]; omega
    · have hkm : k = m := by omega
      subst hkm
      have hge : t - Cal.dby y - Cal.cum y k < Cal.dim y k := by
        have e2 := D.out
        omega
      have E := Lib.hid (show t - Cal.dby y - Cal.cum y k + 1 = d by have e2 := D.out; omega)
      go_wp2_with (go_at_call 16; refine (days_any _ _ _ ht).mono ?_; rintro e w2 ⟨rfl, rfl⟩)
      refine bodyPost_ret (v := .tuple #[.agg #[.int .i64 y, .int .i64 k, .int .i64 (t - Cal.dby y - Cal.cum y k + 1), .int .i64 h, .int .i64 i], .int .i64 0]) (by simp [results, Tryd.results19, go_sem]) rfl ⟨ret_civil rfl rfl E.out rfl rfl, ?_⟩
      exact (Below.refl _ _).alloc (Nat.le_refl _) _
end Go.Proofs.YtaohndjlaamdaaaDoor
