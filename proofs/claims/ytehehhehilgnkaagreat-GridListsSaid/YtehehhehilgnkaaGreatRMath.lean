/- The reference's view of a grid in plain numbers: the nodes are the points that are normal, in ascending order. -/
import Derived.Test.YtehehhehilgnkaaGreatLoc
namespace Go.Proofs.YtehehhehilgnkaaGreat.Lat
open Ico

/-- The least face with an address, by the weights that are not 0. -/
def nfB (f : Nat) (x y z : Bool) : Nat := ((List.range 20).filter (okB f x y z)).headD 0
theorem nfB_in : ∀ f, f < 20 → nfB f true true true = f := by decide +kernel
/-- The point is inside its face, or its face is the least one. -/
def nrm (n : Nat) (p : Pt) : Bool := (decide (0 < p.2.1) && decide (0 < p.2.2) && decide (0 < n - p.2.1 - p.2.2)) || Nat.beq (nfB p.1 (decide (p.2.1 ≠ 0)) (decide (p.2.2 ≠ 0)) (decide (n - p.2.1 - p.2.2 ≠ 0))) p.1
def incO : List Pt → Bool
  | a :: b :: r => Nat.blt (off a.1 a.2.1 a.2.2) (off b.1 b.2.1 b.2.2) && incO (b :: r)
  | _ => true
def chkR (n : Nat) : Bool := decide ((pts n 20).filter (nrm n) = nodes n) && incO (nodes n)
theorem chkR1 : chkR 1 = true := by decide +kernel
theorem chkR2 : chkR 2 = true := by decide +kernel
theorem chkR3 : chkR 3 = true := by decide +kernel
theorem chkR4 : chkR 4 = true := by decide +kernel
theorem chkR5 : chkR 5 = true := by decide +kernel
theorem chkR6 : chkR 6 = true := by decide +kernel
theorem chkR7 : chkR 7 = true := by decide +kernel
theorem chkR8 : chkR 8 = true := by decide +kernel
theorem chkR_all {n : Nat} (h : frq n) : chkR n = true := by
  rcases eight h with rfl | rfl | rfl | rfl | rfl | rfl | rfl | rfl
  · exact chkR1
  · exact chkR2
  · exact chkR3
  · exact chkR4
  · exact chkR5
  · exact chkR6
  · exact chkR7
  · exact chkR8
theorem nodes_filter {n : Nat} (h : frq n) : (pts n 20).filter (nrm n) = nodes n := by
  have := chkR_all h
  simp only [chkR, Bool.and_eq_true, decide_eq_true_eq] at this
  exact this.1
theorem incO_pw : ∀ {l : List Pt}, incO l = true → l.Pairwise (fun x y => off x.1 x.2.1 x.2.2 < off y.1 y.2.1 y.2.2)
  | [], _ => List.Pairwise.nil
  | [_], _ => by simp
  | a :: b :: r, h => by
    unfold incO at h
    rw [Bool.and_eq_true] at h
    have ih := incO_pw h.2
    refine List.pairwise_cons.2 ⟨fun z hz => ?_, ih⟩
    have hab : off a.1 a.2.1 a.2.2 < off b.1 b.2.1 b.2.2 := by simpa using h.1
    rcases List.mem_cons.1 hz with rfl | hz
    · exact hab
    · exact Nat.lt_trans hab ((List.pairwise_cons.1 ih).1 z hz)
theorem nodes_sorted {n : Nat} (h : frq n) {i j : Nat} (hij : i < j) (hj : j < 10 * n * n + 2) : off (nd n i).1 (nd n i).2.1 (nd n i).2.2 < off (nd n j).1 (nd n j).2.1 (nd n j).2.2 := by
  have := chkR_all h
  simp only [chkR, Bool.and_eq_true, decide_eq_true_eq] at this
  have hp := incO_pw this.2
  have hl := nodes_len h
  have e : ∀ k, k < 10 * n * n + 2 → ∃ hk : k < (nodes n).length, (nodes n)[k] = nd n k := fun k hk => ⟨by omega, by unfold nd; rw [List.getD_eq_getElem?_getD, List.getElem?_eq_getElem (by omega)]; rfl⟩
  obtain ⟨hi, ei⟩ := e i (by omega)
  obtain ⟨hj', ej⟩ := e j hj
  have := List.pairwise_iff_getElem.1 hp i j hi hj' hij
  rwa [ei, ej] at this
/-- Lexicographic order of the points. -/
def lt3 (p q : Pt) : Prop := p.1 < q.1 ∨ (p.1 = q.1 ∧ (p.2.1 < q.2.1 ∨ (p.2.1 = q.2.1 ∧ p.2.2 < q.2.2)))
theorem lt3_of_off {f a b g x y : Nat} (h1 : a ≤ 8) (h2 : b ≤ 8) (h3 : x ≤ 8) (h4 : y ≤ 8) (h : off f a b < off g x y) : lt3 (f, a, b) (g, x, y) := by
  unfold off at h
  unfold lt3
  show f < g ∨ (f = g ∧ (a < x ∨ (a = x ∧ b < y)))
  omega
theorem nd_lt {n : Nat} (h : frq n) {i j : Nat} (hij : i < j) (hj : j < 10 * n * n + 2) : lt3 (nd n i) (nd n j) := by
  obtain ⟨_, b, _⟩ := nd_in h (show i < 10 * n * n + 2 by omega)
  obtain ⟨_, d, _⟩ := nd_in h hj
  have hs := nodes_sorted h hij hj
  unfold frq at h
  exact lt3_of_off (f := (nd n i).1) (a := (nd n i).2.1) (b := (nd n i).2.2) (g := (nd n j).1) (x := (nd n j).2.1) (y := (nd n j).2.2) (by omega) (by omega) (by omega) (by omega) hs
/-- A node's face is the least one with an address. -/
theorem nd_nrm {n k : Nat} (h : frq n) (hk : k < 10 * n * n + 2) : nfB (nd n k).1 (decide ((nd n k).2.1 ≠ 0)) (decide ((nd n k).2.2 ≠ 0)) (decide (n - (nd n k).2.1 - (nd n k).2.2 ≠ 0)) = (nd n k).1 := by
  have hl := nodes_len h
  have hm : nd n k ∈ nodes n := by
    unfold nd; rw [List.getD_eq_getElem?_getD, List.getElem?_eq_getElem (by omega)]; exact List.getElem_mem _
  rw [← nodes_filter h] at hm
  obtain ⟨-, h2⟩ := List.mem_filter.1 hm
  unfold nrm at h2
  rw [Bool.or_eq_true] at h2
  rcases h2 with h2 | h2
  · simp only [Bool.and_eq_true, decide_eq_true_eq] at h2
    rw [decide_eq_true (by omega), decide_eq_true (by omega), decide_eq_true (by omega)]
    exact nfB_in _ (nd_in h hk).1
  · exact Nat.eq_of_beq_eq_true h2
end Go.Proofs.YtehehhehilgnkaaGreat.Lat

