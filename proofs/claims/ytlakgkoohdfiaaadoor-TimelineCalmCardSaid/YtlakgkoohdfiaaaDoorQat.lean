/- Texts of this proof. -/
import Derived.Test.YtlakgkoohdfiaaaDoorQaa
import Derived.Test.YtlakgkoohdfiaaaDoorQas
import Derived.WalkKit
import Derived.WalkSpells
import Derived.WalkLawsBesides
import Derived.Deep.QuietTactic
import Derived.BigQuiet
import Derived.Lib.Hide
import Derived.Outline
import Derived.Lib.SmallJoins
import Derived.Test.YtlakgkoohdfiaaaDoorQah
namespace Go.Proofs.YtlakgkoohdfiaaaDoor.Ck
open Go.RowKit

/-- The table of the months' lengths lies in its variable. -/
def lens : List Int := [31, 28, 31, 30, 31, 30, 31, 31, 30, 31, 30, 31]
def Tab (w : World) : Prop := ∀ i : Nat, i < 12 → w.cell? ⟨1, i, none⟩ = some (.int .i64 (lens.getD i 0))
theorem lens_dim (y m : Int) (h1 : 1 ≤ m) (h2 : m ≤ 12) (h : ¬ (m = 2 ∧ y % 4 = 0)) : lens.getD (m.toNat - 1) 0 = Cal.dim y m := by
  have h : m = 1 ∨ m = 2 ∨ m = 3 ∨ m = 4 ∨ m = 5 ∨ m = 6 ∨ m = 7 ∨ m = 8 ∨ m = 9 ∨ m = 10 ∨ m = 11 ∨ m = 12 := by omega
  rcases h with h | h | h | h | h | h | h | h | h | h | h | h <;> subst h <;> simp_all [Cal.dim, Cal.leap, lens]

set_option maxHeartbeats 400000 in
theorem inRange_any (n : Int) (w : World) :
    Calls Tryd.prog 119 #[.int .i64 n] w fun e w' => e = .returned (.bool (Cal.rng n)) ∧ w = w' := by
  by_cases h1 : 0 ≤ n
  · by_cases h2 : n ≤ 52595999
    all_goals
      go_enter Tryd.func119, Tryd.ntmps119
      go_wp2
      go_ret
      exact ⟨by simp [Cal.rng]; omega, rfl⟩
  · go_enter Tryd.func119, Tryd.ntmps119
    go_wp2
    go_ret
    exact ⟨by simp [Cal.rng]; omega, rfl⟩
set_option maxHeartbeats 400000 in
theorem refIn_any (n : Int) (w : World) :
    Calls Tryd.prog 70 #[.int .i64 n] w fun e w' => e = .returned (.bool (Cal.rng n)) ∧ w = w' := by
  by_cases h1 : 0 ≤ n
  · by_cases h2 : n ≤ 52595999
    all_goals
      go_enter Tryd.func70, Tryd.ntmps70
      go_wp2
      go_ret
      exact ⟨by simp [Cal.rng]; omega, rfl⟩
  · go_enter Tryd.func70, Tryd.ntmps70
    go_wp2
    go_ret
    exact ⟨by simp [Cal.rng]; omega, rfl⟩

set_option maxHeartbeats 400000 in
theorem days_any (y m : Int) (w : World) (hT : Tab w) :
    Calls Tryd.prog 121 #[.int .i64 y, .int .i64 m] w fun e w' => e = .returned (.int .i64 (Cal.days y m)) ∧ w = w' := by
  by_cases hin : 2000 ≤ y ∧ y ≤ 2099 ∧ 1 ≤ m ∧ m ≤ 12
  · obtain ⟨h1, h2, h3, h4⟩ := hin
    have hd := Cal.days_in ⟨h1, h2, h3, h4⟩
    by_cases hm : m = 2
    · subst hm
      by_cases hy : y % 4 = 0
      · have H := Lib.hid hy; clear hy
        have e1 : Cal.days y 2 = 29 := by rw [hd]; unfold Cal.dim Cal.leap; rw [if_pos rfl, if_pos H.out]; omega
        have E := Lib.hid e1; clear e1 hd
        have hb : (y % 4 == 0) = true := beq_iff_eq.2 H.out
        go_enter Tryd.func121, Tryd.ntmps121
        go_wp2
        go_ret
        exact ⟨ret_i64 E.out.symm, rfl⟩
      · have e1 : Cal.days y 2 = 28 := by rw [hd]; unfold Cal.dim Cal.leap; rw [if_pos rfl, if_neg hy]; omega
        have E := Lib.hid e1; clear e1 hd
        have hb : (y % 4 == 0) = false := beq_eq_false_iff_ne.2 hy
        have hc := hT 1 (by omega)
        clear hy
        go_enter Tryd.func121, Tryd.ntmps121
        go_wp2
        go_ret
        exact ⟨ret_i64 E.out.symm, rfl⟩
    · have e1 := lens_dim y m h3 h4 (fun h => hm h.1)
      have e2 : Cal.days y m = lens.getD (m.toNat - 1) 0 := by rw [hd, e1]
      have E := Lib.hid e2; clear e1 e2 hd
      have hc := hT (m.toNat - 1) (by omega)
      have hb : (m == 2) = false := beq_eq_false_iff_ne.2 hm
      clear hm
      go_enter Tryd.func121, Tryd.ntmps121
      go_wp2
      go_ret
      exact ⟨ret_i64 E.out.symm, rfl⟩
  · have E := Lib.hid (Cal.days_out hin)
    by_cases h1 : y < 2000
    · go_enter Tryd.func121, Tryd.ntmps121
      go_wp2
      go_ret
      exact ⟨ret_i64 E.out.symm, rfl⟩
    · by_cases h2 : 2099 < y
      · go_enter Tryd.func121, Tryd.ntmps121
        go_wp2
        go_ret
        exact ⟨ret_i64 E.out.symm, rfl⟩
      · by_cases h3 : m < 1
        · go_enter Tryd.func121, Tryd.ntmps121
          go_wp2
          go_ret
          exact ⟨ret_i64 E.out.symm, rfl⟩
        · have h4 : 12 < m := by omega
          clear hin
          go_enter Tryd.func121, Tryd.ntmps121
          go_wp2
          go_ret
          exact ⟨ret_i64 E.out.symm, rfl⟩

set_option maxHeartbeats 400000 in
theorem daysBefore_any (y : Int) (w : World) (h1 : 2000 ≤ y) (h2 : y ≤ 2100) :
    Calls Tryd.prog 120 #[.int .i64 y] w fun e w' => e = .returned (.int .i64 (Cal.dby y)) ∧ w = w' := by
  go_enter Tryd.func120, Tryd.ntmps120
  go_wp2
  go_ret
  exact ⟨ret_i64 (by unfold Cal.dby; omega), rfl⟩
end Go.Proofs.YtlakgkoohdfiaaaDoor.Ck


namespace Go.Proofs.YtlakgkoohdfiaaaDoor.Ck
open Go.RowKit

theorem quiet_left {P : Program} {f : FuncId} {args : Array Value} {w : World} {n : Nat} {v : Value}
    (h : Calls P f args (w.drewN n) fun e w' => e = .returned v ∧ w.drewN n = w') : Calls P f args (w.drewN n) fun e w'' => e = .returned v ∧ ∃ m, w'' = w.drewN m :=
  h.mono fun _ _ ⟨he, hm⟩ => ⟨he, n, hm.symm⟩
theorem Tab.pos {w : World} (h : Tab w) : 1 < w.heap.size := World.block_lt_of_cell? w ⟨1, 0, none⟩ (h 0 (by omega))
theorem Tab.below {w w' : World} {B : Nat} (h : Tab w) (hb : Below B w w') (hB : 1 < B) : Tab w' := fun i hi => (hb.cell (p := ⟨1, i, none⟩) hB).trans (h i hi)
theorem Tab.under {w w' : World} (h : Tab w) (hb : Below w.heap.size w w') : Tab w' := h.below hb h.pos
theorem Tab.alloc {w : World} (h : Tab w) (o : Obj) : Tab (w.alloc o) := h.under ((Below.refl _ _).alloc (Nat.le_refl _) o)
theorem Tab.drewN {w : World} (h : Tab w) (n : Nat) : Tab (w.drewN n) := h

/-- A struct of five cells that the call has boxed, behind a callee. -/
theorem box5 {w w1 : World} {a b c d e : Value} {t : TypeId} (hb : Below (w.alloc (.cells #[a, b, c, d, e] t)).heap.size (w.alloc (.cells #[a, b, c, d, e] t)) w1) :
    (w1.cell? ⟨w.heap.size, 0, none⟩ = some a ∧ w1.cell? ⟨w.heap.size, 1, none⟩ = some b ∧ w1.cell? ⟨w.heap.size, 2, none⟩ = some c ∧ w1.cell? ⟨w.heap.size, 3, none⟩ = some d ∧ w1.cell? ⟨w.heap.size, 4, none⟩ = some e) ∧ Below w.heap.size w w1 := by
  have key : ∀ i, w1.cell? ⟨w.heap.size, i, none⟩ = (w.alloc (.cells #[a, b, c, d, e] t)).cell? ⟨w.heap.size, i, none⟩ := fun i => hb.cell (p := ⟨w.heap.size, i, none⟩) (by simp)
  refine ⟨⟨?_, ?_, ?_, ?_, ?_⟩, ((Below.refl _ _).alloc (Nat.le_refl _) _).trans (hb.mono (by simp))⟩
  all_goals (rw [key]; go_simp)
/-- A date as the program holds it. -/
def civil (y m d h i : Int) : Value := .agg #[.int .i64 y, .int .i64 m, .int .i64 d, .int .i64 h, .int .i64 i]

theorem ret_i2 {a b c : Int} (h : a = b) : Ending.returned (.tuple #[.int .i64 a, .int .i64 c]) = .returned (.tuple #[.int .i64 b, .int .i64 c]) := by rw [h]
set_option maxHeartbeats 400000 in
theorem date_no (n : Int) (w : World) (hr : Cal.rng n = false) :
    Calls Tryd.prog 95 #[.int .i64 n] w fun e w' => e = .returned (.tuple #[.agg #[.int .i64 0, .int .i64 0, .int .i64 0, .int .i64 0, .int .i64 0], .int .i64 1]) ∧ Below w.heap.size w w' := by
  go_enter Tryd.func95, Tryd.ntmps95
  go_wp2_with (go_at_call 119; refine (inRange_any _ _).mono ?_; rintro e w1 ⟨rfl, rfl⟩)
  exact bodyPost_ret (v := .tuple #[.agg #[.int .i64 0, .int .i64 0, .int .i64 0, .int .i64 0, .int .i64 0], .int .i64 1]) (by simp [results, Tryd.results95, go_sem]) rfl ⟨rfl, (Below.refl _ _).alloc (Nat.le_refl _) _⟩
theorem ret_civil {a b c d e a' b' c' d' e' : Int} (h1 : a = a') (h2 : b = b') (h3 : c = c') (h4 : d = d') (h5 : e = e') :
    Ending.returned (.tuple #[.agg #[.int .i64 a, .int .i64 b, .int .i64 c, .int .i64 d, .int .i64 e], .int .i64 0]) = .returned (.tuple #[.agg #[.int .i64 a', .int .i64 b', .int .i64 c', .int .i64 d', .int .i64 e'], .int .i64 0]) := by rw [h1, h2, h3, h4, h5]
set_option maxHeartbeats 400000 in
theorem date_yes (n y m d h i : Int) (w : World) (hT : Tab w) (hn : Cal.num y m d h i = n) (hv : Cal.vld y m d h i = true) :
    Calls Tryd.prog 95 #[.int .i64 n] w fun e w' => e = .returned (.tuple #[.agg #[.int .i64 y, .int .i64 m, .int .i64 d, .int .i64 h, .int .i64 i], .int .i64 0]) ∧ Below w.heap.size w w' := by
  obtain ⟨n1, n2⟩ := Cal.num_bd hv
  obtain ⟨⟨a1, a2, a3, a4⟩, a5, a6, a7, a8, a9, a10⟩ := Cal.vld_iff.1 hv
  obtain ⟨p1, p2⟩ := Cal.dnum_bd ⟨a1, a2⟩ ⟨a3, a4⟩ ⟨a5, a6⟩
  have p3 := Cal.num_dnum y m d h i
  rw [hn] at n1 n2 p3
  have q1 : n / 1440 = Cal.dnum y m d := by omega
  have q2 : n % 1440 = h * 60 + i := by omega
  have q3 : 2000 + 4 * Cal.dnum y m d / 1461 = y := Cal.year_of ⟨a1, a2⟩ ⟨a3, a4⟩ ⟨a5, a6⟩
  have r1 : (h * 60 + i) / 60 = h := by omega
  have r2 : (h * 60 + i) % 60 = i := by omega
  have hr : Cal.rng n = true := Cal.rng_yes n1 n2
  have c3 := Cal.dby_bd y (by omega) (by omega)
  have D := Lib.hid (show Cal.dnum y m d = Cal.dby y + Cal.cum y m + d - 1 from rfl)
  generalize Cal.dnum y m d = t at *
  clear p3 hn
  have ht := hT.alloc (.cells #[.int .i64 0, .int .i64 0, .int .i64 0, .int .i64 0, .int .i64 0] 113)
  go_enter Tryd.func95, Tryd.ntmps95
  go_wp2_with (first | (go_at_call 119; refine (inRange_any _ _).mono ?_; rintro e w1 ⟨rfl, rfl⟩) | (go_at_call 120; refine (daysBefore_any _ _ (by omega) (by omega)).mono ?_; rintro e w1 ⟨rfl, rfl⟩))
  clear q1 q2 q3
  go_loop [4, 7] (fun s q => ∃ k : Int, 1 ≤ k ∧ k ≤ m ∧ q = .int .i64 k ∧ s = .int .i64 (t - Cal.dby y - Cal.cum y k)) (fun _ q => (13 - intOf q).toNat)
  case atStart => exact ⟨1, by omega, by omega, rfl, by rw [Cal.cum_one]; congr 1; omega⟩
  case round =>
    obtain ⟨k, hk1, hk2, rfl, rfl⟩ := hrel
    have c4 := Cal.cum_bd y k (by omega) (by omega)
    have c5 := Cal.dim_bd y k
    have C := Lib.hid (Cal.cum_succ y k hk1 (by omega))
    have hd := Cal.days_in ⟨a1, a2, hk1, (by omega : k ≤ 12)⟩
    by_cases hlt : k < m
    · have hge : Cal.dim y k ≤ t - Cal.dby y - Cal.cum y k := by
        have e1 := Cal.cum_lt y k m hk1 hlt (by omega)
        have e2 := D.out
        omega
      go_wp2_with (go_at_call 121; refine (days_any _ _ _ ht).mono ?_; rintro e w2 ⟨rfl, rfl⟩)
      go_round
      case rel => exact ⟨k + 1, by omega, by omega, rfl, by rw [C.out]; congr 1; omega⟩
      case measure => simp [intOf]; omega
    · have hkm : k = m := by omega
      subst hkm
      have hge : t - Cal.dby y - Cal.cum y k < Cal.dim y k := by
        have e2 := D.out
        omega
      have E := Lib.hid (show t - Cal.dby y - Cal.cum y k + 1 = d by have e2 := D.out; omega)
      go_wp2_with (go_at_call 121; refine (days_any _ _ _ ht).mono ?_; rintro e w2 ⟨rfl, rfl⟩)
      refine bodyPost_ret (v := .tuple #[.agg #[.int .i64 y, .int .i64 k, .int .i64 (t - Cal.dby y - Cal.cum y k + 1), .int .i64 h, .int .i64 i], .int .i64 0]) (by simp [results, Tryd.results95, go_sem]) rfl ⟨ret_civil rfl rfl E.out rfl rfl, ?_⟩
      exact (Below.refl _ _).alloc (Nat.le_refl _) _
end Go.Proofs.YtlakgkoohdfiaaaDoor.Ck


namespace Go.Proofs.YtlakgkoohdfiaaaDoor
open Go.RowKit

/-- Both tables. -/
structure Env (w : World) : Prop where
  clk : Ck.Tab w
  elt : El.Tab w
theorem Env.under {w w' : World} (h : Env w) (hb : Below w.heap.size w w') : Env w' := ⟨h.clk.under hb, h.elt.under hb⟩
end Go.Proofs.YtlakgkoohdfiaaaDoor
