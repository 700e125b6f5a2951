/- Facts for TrackOrder: drawn reports whose kinds and names are changed; a list in another order. -/
import Derived.Test.YtejoabaanclcbaaGreatTkOr
import Derived.Test.YtejoabaanclcbaaGreatTkNa
namespace Go.Proofs.YtejoabaanclcbaaGreat.Tk
open Go.RowKit Go.Maps

/-- Reports of ships and buoys, ascending by time. -/
def DR (m : Int) (X : List Rq) : Prop := (X.map Rq.t).Pairwise (· < ·) ∧ ∀ r ∈ X, 14000000 < r.t ∧ r.t ≤ m ∧ r.nm.size ≤ 5 ∧ sea r.k = true ∧ vb r.F r.A r.B r.C = true
theorem DR.set {m : Int} {X : List Rq} (h : DR m X) {i : Nat} (hi : i < X.length) {r : Rq} (ht : r.t = X[i].t) (hn : r.nm.size ≤ 5) (hk : sea r.k = true) (hv : vb r.F r.A r.B r.C = true) : DR m (X.set i r) := by
  refine ⟨?_, fun a ha => ?_⟩
  · have e : (X.set i r).map Rq.t = X.map Rq.t := by
      rw [List.map_set, ht, show X[i].t = (X.map Rq.t)[i]'(by simpa using hi) from by simp, List.set_getElem_self]
    rw [e]
    exact h.1
  · rcases List.mem_or_eq_of_mem_set ha with ha | rfl
    · exact h.2 a ha
    · obtain ⟨h1, h2, -⟩ := h.2 X[i] (List.getElem_mem _)
      exact ⟨by rw [ht]; exact h1, by rw [ht]; exact h2, hn, hk, hv⟩
/-- The report of land. -/
def rl : Rq := ⟨1, dl, 5, 0, 0, 0, 0, none, 0, 0⟩
theorem DR.oks {m : Int} {X : List Rq} (h : DR m X) (hm : m ≤ 52595999) : oks sea (X ++ [rl]) := fun r hr hk => by
  rcases List.mem_append.1 hr with hr | hr
  · obtain ⟨h1, h2, h3, h4, h5⟩ := h.2 r hr
    unfold okr
    rw [h5, Bool.true_and]
    unfold tOk
    rw [decide_eq_true_iff]
    omega
  · obtain rfl := List.mem_singleton.1 hr
    exact absurd hk (by decide)
theorem DR.nm {m : Int} {X : List Rq} (h : DR m X) : ∀ r ∈ X ++ [rl], r.nm.size ≤ 5 := fun r hr => by
  rcases List.mem_append.1 hr with hr | hr
  · exact (h.2 r hr).2.2.1
  · obtain rfl := List.mem_singleton.1 hr
    exact Nat.le_refl 5
/-- Times are apart. -/
def tne (X : List Rq) : Prop := X.Pairwise (fun a b => a.t ≠ b.t)
theorem DR.tne {m : Int} {X : List Rq} (h : DR m X) : tne (X ++ [rl]) := by
  refine List.pairwise_append.2 ⟨(List.pairwise_map.1 h.1).imp fun h => by omega, List.pairwise_singleton _ _, fun a ha b hb => ?_⟩
  obtain rfl := List.mem_singleton.1 hb
  have := (h.2 a ha).1
  show a.t ≠ 5
  omega
/-- A list in another order. -/
def pm (X : List Rq) (P : List Nat) : List Rq := P.map fun i => (X[i]?).getD rl
end Go.Proofs.YtejoabaanclcbaaGreat.Tk

