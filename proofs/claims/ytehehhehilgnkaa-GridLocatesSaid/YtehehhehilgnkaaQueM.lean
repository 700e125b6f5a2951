/- The nodes that are found by a queue, in plain numbers. -/
import Derived.Test.YtehehhehilgnkaaHopM
namespace Go.Proofs.Ytehehhehilgnkaa.Lat

/-- A function that says how far each node is from a. -/
def Far (n a : Nat) (D : Nat → Nat) : Prop := ∀ x, x < 10 * n * n + 2 → Dist n a x (D x)
theorem far_some {n a : Nat} (h : frq n) (ha : a < 10 * n * n + 2) : ∃ D, Far n a D := by
  have : ∀ x, ∃ d, x < 10 * n * n + 2 → Dist n a x d := fun x => by
    by_cases hx : x < 10 * n * n + 2
    · obtain ⟨d, hd⟩ := dist_all h ha hx
      exact ⟨d, fun _ => hd⟩
    · exact ⟨0, fun h => absurd h hx⟩
  exact ⟨fun x => (this x).choose, fun x hx => (this x).choose_spec hx⟩
/-- What is known of the queue while its nodes before the i-th have been gone through. -/
structure Que (n a : Nat) (D : Nat → Nat) (Q : List Nat) (i : Nat) : Prop where
  nd : Q.Nodup
  lt : ∀ x ∈ Q, x < 10 * n * n + 2
  st : a ∈ Q
  pw : Q.Pairwise (fun x y => D x ≤ D y)
  cl : ∀ j (h : j < Q.length), j < i → ∀ b ∈ nbs n Q[j], b ∈ Q
  nr : ∀ h : i < Q.length, ∀ x ∈ Q, D x ≤ D Q[i] + 1
section
variable {n a : Nat} {D : Nat → Nat} (hn : frq n) (ha : a < 10 * n * n + 2) (hD : Far n a D)
include hn ha hD
omit hn in
theorem Que.start : Que n a D [a] 0 := by
  have h0 : D a = 0 := (dist_zero (hD a ha)).2 rfl
  refine ⟨by simp, fun x hx => by rw [List.mem_singleton] at hx; rw [hx]; exact ha, by simp, by simp, fun j _ hj => by omega, fun h x hx => ?_⟩
  rw [List.mem_singleton] at hx
  rw [hx, h0]; omega
theorem Que.low {Q : List Nat} {i : Nat} (h : Que n a D Q i) (hi : i < Q.length) : ∀ (m x : Nat), x < 10 * n * n + 2 → D x = m → D x ≤ D Q[i] → x ∈ Q
  | 0, x, hx, hm, _ => by
    have := (dist_zero (hD x hx)).1 hm
    rw [← this]; exact h.st
  | m + 1, x, hx, hm, hle => by
    have hd := hD x hx
    rw [hm] at hd
    obtain ⟨r, hr, hxr⟩ := dist_pred hd
    have hrl := dist_lt hn ha hr
    have hrm : D r = m := dist_one (hD r hrl) hr
    have hrQ := Que.low h hi m r hrl hrm (by omega)
    obtain ⟨p, hp, rfl⟩ := List.getElem_of_mem hrQ
    rcases Nat.lt_or_ge p i with hlt | hge
    · exact h.cl p hp hlt x hxr
    · exfalso
      rcases Nat.eq_or_lt_of_le hge with e | hlt
      · subst e; omega
      · have := List.pairwise_iff_getElem.1 h.pw i p hi hp hlt
        omega
/-- A neighbour that is not in the queue is one edge further away. -/
theorem Que.new {Q : List Nat} {i b : Nat} (h : Que n a D Q i) (hi : i < Q.length) (hb : b ∈ nbs n Q[i]) (hnb : b ∉ Q) : D b = D Q[i] + 1 := by
  have hql := h.lt _ (List.getElem_mem hi)
  have hbl := (nbs_in hn hql hb).1
  have h1 := dist_step (hD _ hql) hb (hD b hbl)
  rcases Nat.lt_or_ge (D Q[i]) (D b) with h2 | h2
  · omega
  · exact absurd (Que.low hn ha hD h hi _ b hbl rfl h2) hnb
theorem Que.snoc {Q : List Nat} {i b : Nat} (h : Que n a D Q i) (hi : i < Q.length) (hb : b ∈ nbs n Q[i]) (hnb : b ∉ Q) : Que n a D (Q ++ [b]) i := by
  have hd := Que.new hn ha hD h hi hb hnb
  have hql := h.lt _ (List.getElem_mem hi)
  refine ⟨?_, fun x hx => ?_, by simp [h.st], ?_, fun j hj hji c hc => ?_, fun hi' x hx => ?_⟩
  · rw [List.nodup_append]
    refine ⟨h.nd, by simp, fun x hx z hz => ?_⟩
    rw [List.mem_singleton] at hz
    subst hz
    rintro rfl
    exact hnb hx
  · rcases List.mem_append.1 hx with hx | hx
    · exact h.lt x hx
    · rw [List.mem_singleton] at hx; rw [hx]; exact (nbs_in hn hql hb).1
  · rw [List.pairwise_append]
    refine ⟨h.pw, by simp, fun x hx z hz => ?_⟩
    rw [List.mem_singleton] at hz
    subst hz
    have := h.nr hi x hx
    omega
  · have hjl : j < Q.length := by omega
    rw [List.getElem_append_left hjl] at hc
    exact List.mem_append_left _ (h.cl j hjl hji c hc)
  · rw [List.getElem_append_left hi]
    rcases List.mem_append.1 hx with hx | hx
    · exact h.nr hi x hx
    · rw [List.mem_singleton] at hx; rw [hx, hd]; omega
omit hn ha hD in
theorem Que.next {Q : List Nat} {i : Nat} (h : Que n a D Q i) (hi : i < Q.length) (hc : ∀ b ∈ nbs n Q[i], b ∈ Q) : Que n a D Q (i + 1) := by
  refine ⟨h.nd, h.lt, h.st, h.pw, fun j hj hji => ?_, fun hi' x hx => ?_⟩
  · rcases Nat.lt_succ_iff_lt_or_eq.1 hji with h1 | rfl
    · exact h.cl j hj h1
    · exact hc
  · have := h.nr hi x hx
    have := List.pairwise_iff_getElem.1 h.pw i (i + 1) hi hi' (Nat.lt_succ_self _)
    omega
theorem Que.fin {Q : List Nat} (h : Que n a D Q Q.length) : ∀ (m x : Nat), x < 10 * n * n + 2 → D x = m → x ∈ Q
  | 0, x, hx, hm => by
    have := (dist_zero (hD x hx)).1 hm
    rw [← this]; exact h.st
  | m + 1, x, hx, hm => by
    have hd := hD x hx
    rw [hm] at hd
    obtain ⟨r, hr, hxr⟩ := dist_pred hd
    have hrl := dist_lt hn ha hr
    have hrQ := Que.fin h m r hrl (dist_one (hD r hrl) hr)
    obtain ⟨p, hp, rfl⟩ := List.getElem_of_mem hrQ
    exact h.cl p hp hp x hxr
omit hn ha hD in
theorem Que.len {Q : List Nat} {i : Nat} (h : Que n a D Q i) : Q.length ≤ 10 * n * n + 2 := len_lt h.nd h.lt
end
end Go.Proofs.Ytehehhehilgnkaa.Lat
