/- A bound for the hops between two nodes. -/
import Derived.Test.YtehehhehilgnkaaMgb
namespace Go.Proofs.Ytehehhehilgnkaa.Lat

theorem rch_zero_le {n : Nat} (h : frq n) : ∀ (m a : Nat), lev (LV n) a < m → a < 10 * n * n + 2 → ∃ k, k ≤ m ∧ rch n a k 0
  | 0, _, hm, _ => by omega
  | m + 1, a, hm, ha => by
    by_cases h0 : a = 0
    · exact ⟨0, by omega, h0.symm⟩
    · obtain ⟨b, hb, hl⟩ := nbs_low h ha h0
      obtain ⟨k, hle, hk⟩ := rch_zero_le h m b (by omega) (nbs_in h ha hb).1
      exact ⟨k + 1, by omega, rch_head hb hk⟩
/-- Any two nodes are at most 64 hops apart. -/
theorem dist_bound {n a b d : Nat} (h : frq n) (ha : a < 10 * n * n + 2) (hb : b < 10 * n * n + 2) (hd : Dist n a b d) : d ≤ 64 := by
  have h32 : ∀ x, lev (LV n) x < 32 := fun x => Nat.mod_lt _ (by omega)
  obtain ⟨k, hk1, hk⟩ := rch_zero_le h 32 a (h32 a) ha
  obtain ⟨m, hm1, hm⟩ := rch_zero_le h 32 b (h32 b) hb
  have := dist_le hd (rch_add (y := b) hk (rch_sym h hb hm))
  omega
theorem far_bound {n a : Nat} {D : Nat → Nat} (h : frq n) (ha : a < 10 * n * n + 2) (hD : Far n a D) : ∀ x, x < 10 * n * n + 2 → D x ≤ 100000 := fun x hx => by
  have := dist_bound h ha hx (hD x hx)
  omega
end Go.Proofs.Ytehehhehilgnkaa.Lat
