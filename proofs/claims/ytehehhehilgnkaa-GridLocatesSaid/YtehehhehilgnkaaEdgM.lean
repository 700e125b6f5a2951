/- The edges of a grid, in plain numbers. -/
import Derived.Test.YtehehhehilgnkaaLkM
namespace Go.Proofs.Ytehehhehilgnkaa.Lat

/-- The edges as numbers. -/
def ec (p : Nat × Nat) : Nat := p.1 * 1024 + p.2
/-- All edges of a grid. -/
def edg (n : Nat) : List (Nat × Nat) := eds n (10 * n * n + 2)
def edW (ad k : Nat) : List Nat := (List.range k).flatMap fun a => ((nbw ad a).filter (fun b => Nat.blt a b)).map fun b => a * 1024 + b
theorem edW_eq (n : Nat) : (edg n).map ec = edW (AD n) (10 * n * n + 2) := by
  unfold edg eds edW
  rw [List.map_flatMap]
  congr 1
  funext a
  unfold erow
  rw [List.take_length, List.map_map]
  rfl
def ascl : List Nat → Bool
  | a :: b :: r => Nat.blt a b && ascl (b :: r)
  | _ => true
theorem ascl_pw : ∀ {l : List Nat}, ascl l = true → l.Pairwise (· < ·)
  | [], _ => List.Pairwise.nil
  | [_], _ => by simp
  | a :: b :: r, h => by
    unfold ascl at h
    rw [Bool.and_eq_true] at h
    have ih := ascl_pw h.2
    refine List.pairwise_cons.2 ⟨fun z hz => ?_, ih⟩
    have hab : a < b := by simpa using h.1
    rcases List.mem_cons.1 hz with rfl | hz
    · exact hab
    · exact Nat.lt_trans hab ((List.pairwise_cons.1 ih).1 z hz)
def chkE (n : Nat) (l : List Nat) : Bool := ascl l && Nat.beq l.length (30 * n * n)
theorem ee1 : chkE 1 (edW (AD 1) 12) = true := by decide +kernel
theorem ee2 : chkE 2 (edW (AD 2) 42) = true := by decide +kernel
theorem ee3 : chkE 3 (edW (AD 3) 92) = true := by decide +kernel
theorem ee4 : chkE 4 (edW (AD 4) 162) = true := by decide +kernel
theorem ee5 : chkE 5 (edW (AD 5) 252) = true := by decide +kernel
theorem ee6 : chkE 6 (edW (AD 6) 362) = true := by decide +kernel
theorem ee7 : chkE 7 (edW (AD 7) 492) = true := by decide +kernel
theorem ee8 : chkE 8 (edW (AD 8) 642) = true := by decide +kernel
theorem ee_all {n : Nat} (h : frq n) : chkE n (edW (AD n) (10 * n * n + 2)) = true := by
  rcases eight h with rfl | rfl | rfl | rfl | rfl | rfl | rfl | rfl
  · exact ee1
  · exact ee2
  · exact ee3
  · exact ee4
  · exact ee5
  · exact ee6
  · exact ee7
  · exact ee8
theorem edg_len {n : Nat} (h : frq n) : (edg n).length = 30 * n * n := by
  have := ee_all h
  rw [← edW_eq] at this
  simp only [chkE, Bool.and_eq_true, List.length_map] at this
  exact Nat.eq_of_beq_eq_true this.2
theorem edg_pw {n : Nat} (h : frq n) : (edg n).Pairwise (fun p q => ec p < ec q) := by
  have := ee_all h
  rw [← edW_eq] at this
  simp only [chkE, Bool.and_eq_true] at this
  exact List.pairwise_map.1 (ascl_pw this.1)
theorem edg_mem {n a b : Nat} : (a, b) ∈ edg n ↔ a < 10 * n * n + 2 ∧ b ∈ nbs n a ∧ a < b := by
  unfold edg eds erow
  simp only [List.mem_flatMap, List.mem_range, List.take_length, List.mem_map, List.mem_filter, Prod.mk.injEq]
  constructor
  · rintro ⟨x, hx, y, ⟨hy, hl⟩, rfl, rfl⟩
    exact ⟨hx, hy, by simpa using hl⟩
  · rintro ⟨h1, h2, h3⟩
    exact ⟨a, h1, b, ⟨h2, by simpa using h3⟩, rfl, rfl⟩
theorem eds_len_le {n : Nat} (h : frq n) : ∀ k, k ≤ 10 * n * n + 2 → (eds n k).length ≤ 6 * k
  | 0, _ => by simp [eds]
  | k + 1, hk => by
    rw [eds_succ, List.length_append]
    have h1 := eds_len_le h k (by omega)
    have h2 : (erow n k (nbs n k).length).length ≤ (nbs n k).length := by
      unfold erow
      rw [List.length_map, List.take_length]
      exact List.length_filter_le _ _
    have h3 := nbs_len h (show k < 10 * n * n + 2 by omega)
    omega
theorem eds_le {n i k : Nat} (h : frq n) (hi : i ≤ 10 * n * n + 2) : (eds n i ++ erow n i k).length ≤ 6 * i + k := by
  rw [List.length_append]
  have h1 := eds_len_le h i hi
  have h2 : (erow n i k).length ≤ k := by
    unfold erow
    rw [List.length_map]
    exact Nat.le_trans (List.length_filter_le _ _) (List.length_take_le _ _)
  omega
end Go.Proofs.Ytehehhehilgnkaa.Lat
