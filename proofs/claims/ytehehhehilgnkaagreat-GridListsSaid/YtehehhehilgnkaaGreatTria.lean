/- Contracts of upright and inverted. -/
import Derived.Test.YtehehhehilgnkaaGreatMgd
namespace Go.Proofs.YtehehhehilgnkaaGreat
open Go.RowKit Go.Maps

abbrev pt4 (f a b c : Int) : List Value := [.int .i64 f, .int .i64 a, .int .i64 b, .int .i64 c]
/-- A triangle as a value. -/
abbrev tr12 (f a b c a' b' c' a'' b'' c'' : Int) : Array Value := #[.int .i64 f, .int .i64 a, .int .i64 b, .int .i64 c, .int .i64 f, .int .i64 a', .int .i64 b', .int .i64 c', .int .i64 f, .int .i64 a'', .int .i64 b'', .int .i64 c'']
set_option maxRecDepth 100000 in
set_option maxHeartbeats 4000000 in
theorem upright_any (f a b c : Int) (w : World) (a0 : 0 ≤ a) (a1 : a ≤ 8) (b0 : 0 ≤ b) (b1 : b ≤ 8) (c0 : 0 ≤ c) (c1 : c ≤ 8) :
    Calls Tryz.prog 39 #[.agg #[.int .i64 f, .int .i64 a, .int .i64 b, .int .i64 c]] w fun e w' => e = .returned (.agg (tr12 f (a + 1) b c a (b + 1) c a b (c + 1))) ∧ Below w.heap.size w w' := by
  go_enter Tryz.func39, Tryz.ntmps39
  go_wp2
  exact bodyPost_ret (v := .agg (tr12 f (a + 1) b c a (b + 1) c a b (c + 1))) (by simp [results, Tryz.results39, go_sem]) rfl ⟨rfl, (((Below.refl _ _).alloc (Nat.le_refl _) _).alloc (by simp) _).alloc (by simp; omega) _⟩
set_option maxRecDepth 100000 in
set_option maxHeartbeats 4000000 in
theorem inverted_any (f a b c : Int) (w : World) (a0 : 0 ≤ a) (a1 : a ≤ 8) (b0 : 0 ≤ b) (b1 : b ≤ 8) (c0 : 0 ≤ c) (c1 : c ≤ 8) :
    Calls Tryz.prog 40 #[.agg #[.int .i64 f, .int .i64 a, .int .i64 b, .int .i64 c]] w fun e w' => e = .returned (.agg (tr12 f a (b + 1) (c + 1) (a + 1) b (c + 1) (a + 1) (b + 1) c)) ∧ Below w.heap.size w w' := by
  have e1 : a + 1 - 1 = a := by omega
  have e2 : b + 1 - 1 = b := by omega
  have e3 : c + 1 - 1 = c := by omega
  go_enter Tryz.func40, Tryz.ntmps40
  go_wp2
  exact bodyPost_ret (v := .agg (tr12 f a (b + 1) (c + 1) (a + 1) b (c + 1) (a + 1) (b + 1) c)) (by simp [results, Tryz.results40, go_sem]) rfl ⟨rfl, ((((Below.refl _ _).alloc (Nat.le_refl _) _).alloc (by simp) _).alloc (by simp; omega) _).alloc (by simp; omega) _⟩
end Go.Proofs.YtehehhehilgnkaaGreat

