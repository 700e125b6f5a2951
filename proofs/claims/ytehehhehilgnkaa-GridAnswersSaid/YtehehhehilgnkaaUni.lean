/- For every number and every place: what the program answers, the reference answers. -/
import Derived.Test.YtehehhehilgnkaaRNear
namespace Go.Proofs.Ytehehhehilgnkaa
open Go.RowKit

/-- A function's answer is a pair of numbers, whatever the world. -/
def Pair (F : Nat) (n f a b c x y : Int) : Prop := ∀ w, Calls Try.prog F #[.int .i64 n, .agg #[.int .i64 f, .int .i64 a, .int .i64 b, .int .i64 c]] w fun e w' => e = .returned (.tuple #[.int .i64 x, .int .i64 y]) ∧ Below w.heap.size w w'
/-- A function's answer is a list of shares and a number. -/
def Lst (F : Nat) (n f a b c : Int) (L : List (Nat × Int)) (y : Int) : Prop := ∀ w, Calls Try.prog F #[.int .i64 n, .agg #[.int .i64 f, .int .i64 a, .int .i64 b, .int .i64 c]] w fun e w' => ∃ v, e = .returned (.tuple #[v, .int .i64 y]) ∧ Below w.heap.size w w' ∧ ShIn w' v L
theorem ok_or (n F a b c : Int) : (¬ (1 ≤ n ∧ n ≤ 8) ∨ vb F a b c = false) ∨ ∃ m f : Nat, n = m ∧ F = f ∧ Lat.frq m ∧ Ico.Vld f a b c := by
  by_cases hn : 1 ≤ n ∧ n ≤ 8
  · cases h : vb F a b c
    · exact .inl (.inr rfl)
    · obtain ⟨f, hf, hv⟩ := vb_nat h
      exact .inr ⟨n.toNat, f, by omega, hf, ⟨by omega, by omega⟩, hv⟩
  · exact .inl (.inl hn)
theorem index_both (n F a b c : Int) : ∃ x y : Int, Pair 14 n F a b c x y ∧ Pair 15 n F a b c x y := by
  rcases ok_or n F a b c with h | ⟨m, f, rfl, rfl, hm, hv⟩
  · exact ⟨0, 1, fun w => index_bad n F a b c w h, fun w => refIndex_bad n F a b c w h⟩
  · by_cases hz : Lat.rs m a = 0 ∧ Lat.rs m b = 0 ∧ Lat.rs m c = 0
    · refine ⟨(Lat.idx m f (Lat.xa m a) (Lat.xa m b) : Nat), 0, fun w => (index_any m f a b c w hm hv).mono ?_, fun w => (refIndex_yes m f a b c w hm hv).mono ?_⟩ <;>
      · rintro e w' ⟨hb, ⟨_, _, _, he⟩ | ⟨h, _⟩⟩
        · exact ⟨he, hb⟩
        · exact absurd hz h
    · refine ⟨0, 9, fun w => (index_any m f a b c w hm hv).mono ?_, fun w => (refIndex_yes m f a b c w hm hv).mono ?_⟩ <;>
      · rintro e w' ⟨hb, ⟨h1, h2, h3, _⟩ | ⟨_, he⟩⟩
        · exact absurd ⟨h1, h2, h3⟩ hz
        · exact ⟨he, hb⟩
theorem locate_both (n F a b c : Int) : ∃ (L : List (Nat × Int)) (y : Int), Lst 16 n F a b c L y ∧ Lst 17 n F a b c L y := by
  rcases ok_or n F a b c with h | ⟨m, f, rfl, rfl, hm, hv⟩
  · refine ⟨[], 1, fun w => (locate_bad n F a b c w h).mono ?_, fun w => (refLocate_bad n F a b c w h).mono ?_⟩ <;>
    · rintro e w' ⟨he, hb⟩
      exact ⟨_, he, hb, ShIn.nil _⟩
  · refine ⟨Lat.loc m f a b c, 0, fun w => (locate_yes m f a b c w hm hv).mono ?_, fun w => (refLocate_yes m f a b c w hm hv).mono ?_⟩
    · rintro e w' ⟨v, he, hr⟩
      have hb : Below w.heap.size w w' := by obtain ⟨_, _, _, _, _, h4, _⟩ := hr; exact h4
      exact ⟨v, he, hb, ShIn.of hr⟩
    · rintro e w' ⟨v, he, hb, hs⟩
      exact ⟨v, he, hb, hs.shin⟩
theorem nearest_both (n F a b c : Int) : ∃ x y : Int, Pair 18 n F a b c x y ∧ Pair 19 n F a b c x y := by
  rcases ok_or n F a b c with h | ⟨m, f, rfl, rfl, hm, hv⟩
  · exact ⟨0, 1, fun w => nearest_bad n F a b c w h, fun w => refNearest_bad n F a b c w h⟩
  · exact ⟨_, 0, fun w => nearest_yes m f a b c w hm hv, fun w => refNearest_yes m f a b c w hm hv⟩
theorem count_both (n : Int) : ∃ x : Int, (∀ w, Calls Try.prog 12 #[.int .i64 n] w fun e w' => e = .returned (.int .i64 x) ∧ w = w') ∧ (∀ w, Calls Try.prog 13 #[.int .i64 n] w fun e w' => e = .returned (.int .i64 x) ∧ w = w') := by
  by_cases h : 1 ≤ n ∧ n ≤ 8
  · obtain ⟨m, rfl⟩ := Int.eq_ofNat_of_zero_le (show 0 ≤ n by omega)
    have hm : Lat.frq m := ⟨by omega, by omega⟩
    exact ⟨_, fun w => count_yes m w hm, fun w => refCount_yes m w hm⟩
  · exact ⟨0, fun w => count_no n w h, fun w => refCount_no n w h⟩
end Go.Proofs.Ytehehhehilgnkaa
