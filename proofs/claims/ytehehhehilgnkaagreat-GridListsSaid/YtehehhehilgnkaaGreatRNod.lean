/- Contracts of the reference's Count, less, IsNormal and Nodes. -/
import Derived.Test.YtehehhehilgnkaaGreatRfB
import Derived.Test.YtehehhehilgnkaaGreatRMath
namespace Go.Proofs.YtehehhehilgnkaaGreat
open Go.RowKit

/-- Two places are compared field by field. -/
theorem eq_place (a b c d a' b' c' d' : Int) (w : World) :
    (Op.equalIn 10000 32 (.agg #[.int .i64 a, .int .i64 b, .int .i64 c, .int .i64 d]) (.agg #[.int .i64 a', .int .i64 b', .int .i64 c', .int .i64 d'])).run Tryz.prog w = .ok (a == a' && b == b' && c == c' && d == d') w := by
  have u3 := Tryz.underlying3
  have a3 := Tryz.isAgg3
  have z3 := Tryz.sizeOf3
  have hS : Tryz.prog.underlying 32 = some (.struct (Tryz.prog.fieldsOf 32)) := by kernel_rfl
  rw [show (10000 : Nat) = 9999 + 1 from rfl, run_equalIn_agg w 9999 32 _ _ hS (by kernel_rfl)]
  simp only [Program.fieldsOf, Tryz.underlying32]
  go_simp
  by_cases h1 : a = a' <;> by_cases h2 : b = b' <;> by_cases h3 : c = c' <;> by_cases h4 : d = d' <;> simp [h1, h2, h3, h4]
theorem refCount_no (n : Int) (w : World) (h : ¬ (1 ≤ n ∧ n ≤ 8)) :
    Calls Tryz.prog 11 #[.int .i64 n] w fun e w' => e = .returned (.int .i64 0) ∧ w = w' := by
  by_cases h1 : n < 1
  · clear h
    go_enter Tryz.func11, Tryz.ntmps11
    go_wp2
    go_ret
    exact ⟨rfl, rfl⟩
  · have h2 : 8 < n := by omega
    clear h
    go_enter Tryz.func11, Tryz.ntmps11
    go_wp2
    go_ret
    exact ⟨rfl, rfl⟩
theorem refCount_yes (n : Nat) (w : World) (h : Lat.frq n) :
    Calls Tryz.prog 11 #[.int .i64 n] w fun e w' => e = .returned (.int .i64 (cn n)) ∧ w = w' := by
  rcases Lat.eight h with rfl | rfl | rfl | rfl | rfl | rfl | rfl | rfl <;>
  (go_enter Tryz.func11, Tryz.ntmps11
   go_wp2
   go_ret
   exact ⟨rfl, rfl⟩)
/-- Places in the order of the lists. -/
def lessB (F A B G X Y : Int) : Bool := if F = G then (if A = X then decide (B < Y) else decide (A < X)) else decide (F < G)
theorem less_all (F A B C G X Y Z : Int) (w : World) :
    Calls Tryz.prog 70 #[.agg #[.int .i64 F, .int .i64 A, .int .i64 B, .int .i64 C], .agg #[.int .i64 G, .int .i64 X, .int .i64 Y, .int .i64 Z]] w fun e w' => e = .returned (.bool (lessB F A B G X Y)) ∧ Below w.heap.size w w' := by
  by_cases h1 : F = G
  · subst h1
    by_cases h2 : A = X
    · subst h2
      have hL : lessB F A B F A Y = decide (B < Y) := by simp [lessB]
      rw [hL]; clear hL
      go_enter Tryz.func70, Tryz.ntmps70
      go_wp2
      go_ret
      exact ⟨rfl, ((Below.refl _ _).alloc (Nat.le_refl _) _).alloc (by simp) _⟩
    · have hL : lessB F A B F X Y = decide (A < X) := by simp [lessB, h2]
      rw [hL]; clear hL
      have e2 : (A == X) = false := beq_eq_false_iff_ne.2 h2
      clear h2
      go_enter Tryz.func70, Tryz.ntmps70
      go_wp2
      go_ret
      exact ⟨rfl, ((Below.refl _ _).alloc (Nat.le_refl _) _).alloc (by simp) _⟩
  · have hL : lessB F A B G X Y = decide (F < G) := by simp [lessB, h1]
    rw [hL]; clear hL
    have e1 : (F == G) = false := beq_eq_false_iff_ne.2 h1
    clear h1
    go_enter Tryz.func70, Tryz.ntmps70
    go_wp2
    go_ret
    exact ⟨rfl, ((Below.refl _ _).alloc (Nat.le_refl _) _).alloc (by simp) _⟩
attribute [local go_sem] eq_place
set_option maxHeartbeats 1000000 in
theorem isNormal_any (f : Nat) (a b c : Int) (w : World) (hv : Ico.Vld f a b c) :
    Calls Tryz.prog 18 #[.agg #[.int .i64 f, .int .i64 a, .int .i64 b, .int .i64 c]] w fun e w' => e = .returned (.bool (Nat.beq (Ico.nf f a b c) f)) ∧ Below w.heap.size w w' := by
  have k0 := Row.new w #[.int .i64 f, .int .i64 a, .int .i64 b, .int .i64 c] 32
  by_cases h : Ico.nf f a b c = f
  · have e0 : nw f a b c 0 = a := by unfold nw; rw [h, Ico.wt0]
    have e1 : nw f a b c 1 = b := by unfold nw; rw [h, Ico.wt1 hv.1]
    have e2 : nw f a b c 2 = c := by unfold nw; rw [h, Ico.wt2 hv.1]
    have hN := refNormal_yes f a b c
    rw [e0, e1, e2, h] at hN
    have HN := Lib.hid (fun w => hN w hv); clear hN
    have HR : Hid (Nat.beq (Ico.nf f a b c) f = true) := Lib.hid (by rw [h]; simp)
    clear e0 e1 e2 h
    go_enter Tryz.func18, Tryz.ntmps18
    go_wp2_with fail
    refine (HN.out _).mono ?_
    rintro e w1 ⟨rfl, hb1⟩
    have k1 := k0.under hb1
    clear k0
    obtain ⟨p0, p1, p2, p3⟩ := row4 k1
    have hlt := k1.lt
    have B1 := Lib.hid (((Below.refl w.heap.size w).alloc (Nat.le_refl _) (.cells #[.int .i64 f, .int .i64 a, .int .i64 b, .int .i64 c] 32)).trans (hb1.mono (by simp)))
    clear hb1 k1
    go_wp2_with fail
    go_ret
    exact ⟨by rw [HR.out]; rfl, B1.out.alloc B1.out.size _⟩
  · have HN := Lib.hid (fun w => refNormal_yes f a b c w hv)
    have HR : Hid (Nat.beq (Ico.nf f a b c) f = false) := Lib.hid (by
      cases hb : Nat.beq (Ico.nf f a b c) f
      · rfl
      · exact absurd (Nat.eq_of_beq_eq_true hb) h)
    have e1 : ((f : Int) == ((Ico.nf f a b c : Nat) : Int)) = false := beq_eq_false_iff_ne.2 (by omega)
    clear h
    go_enter Tryz.func18, Tryz.ntmps18
    go_wp2_with fail
    refine (HN.out _).mono ?_
    rintro e w1 ⟨rfl, hb1⟩
    have k1 := k0.under hb1
    clear k0
    obtain ⟨p0, p1, p2, p3⟩ := row4 k1
    have hlt := k1.lt
    have B1 := Lib.hid (((Below.refl w.heap.size w).alloc (Nat.le_refl _) (.cells #[.int .i64 f, .int .i64 a, .int .i64 b, .int .i64 c] 32)).trans (hb1.mono (by simp)))
    clear hb1 k1
    go_wp2_with fail
    go_ret
    exact ⟨by rw [HR.out]; rfl, B1.out.alloc B1.out.size _⟩
end Go.Proofs.YtehehhehilgnkaaGreat

