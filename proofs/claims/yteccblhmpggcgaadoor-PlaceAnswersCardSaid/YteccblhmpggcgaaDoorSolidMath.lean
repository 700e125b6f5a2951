/- What PlaceSolid counts: pairs of corners, faces at a vertex. -/
import Derived.Test.YteccblhmpggcgaaDoorAcross
namespace Go.Proofs.YteccblhmpggcgaaDoor
open Go.RowKit

def inc (F : Nat → Int) (j : Nat) : Nat → Int := fun i => if i = j then F i + 1 else F i
/-- The corner number t of all sixty, and the next one of its face. -/
def aT (t : Nat) : Nat := Ico.cor (t / 3) (t % 3)
def bT (t : Nat) : Nat := Ico.cor (t / 3) ((t % 3 + 1) % 3)
theorem aT_lt (t : Nat) : aT t < 12 := Ico.cor_lt _ _
theorem bT_lt (t : Nat) : bT t < 12 := Ico.cor_lt _ _
theorem ab_ne : ∀ t, t < 60 → aT t ≠ bT t := by decide +kernel
def prT : Nat → Nat → Int
  | 0 => fun _ => 0
  | t + 1 => inc (inc (prT t) (aT t * 12 + bT t)) (bT t * 12 + aT t)
def mtT : Nat → Nat → Int
  | 0 => fun _ => 0
  | t + 1 => inc (mtT t) (aT t)
theorem inc_bd {F : Nat → Int} {m : Int} (h : ∀ i, 0 ≤ F i ∧ F i ≤ m) (j : Nat) : ∀ i, 0 ≤ inc F j i ∧ inc F j i ≤ m + 1 := fun i => by
  have := h i
  unfold inc; split <;> omega
theorem prT_bd : ∀ t i, 0 ≤ prT t i ∧ prT t i ≤ 2 * t
  | 0, _ => ⟨Int.le_refl 0, Int.le_refl 0⟩
  | t + 1, i => by
    have := inc_bd (inc_bd (prT_bd t) (aT t * 12 + bT t)) (bT t * 12 + aT t) i
    exact ⟨this.1, by have h := this.2; show prT (t + 1) i ≤ _; unfold prT; omega⟩
theorem mtT_bd : ∀ t i, 0 ≤ mtT t i ∧ mtT t i ≤ t
  | 0, _ => ⟨Int.le_refl 0, Int.le_refl 0⟩
  | t + 1, i => by
    have := inc_bd (mtT_bd t) (aT t) i
    exact ⟨this.1, by have h := this.2; show mtT (t + 1) i ≤ _; unfold mtT; omega⟩
theorem mt_end : ∀ v, v < 12 → mtT 60 v = 5 := by decide +kernel
theorem pr_end : ∀ v, v < 12 → ∀ a, a < 12 → prT 60 (v * 12 + a) = 2 ∨ prT 60 (v * 12 + a) = 0 := by decide +kernel
/-- How many neighbours of v lie below a. -/
def arT (v : Nat) : Nat → Int
  | 0 => 0
  | a + 1 => if prT 60 (v * 12 + a) = 2 then arT v a + 1 else arT v a
theorem ar_end : ∀ v, v < 12 → arT v 12 = 5 := by decide +kernel
theorem arT_bd (v : Nat) : ∀ a, 0 ≤ arT v a ∧ arT v a ≤ a
  | 0 => ⟨Int.le_refl 0, Int.le_refl 0⟩
  | a + 1 => by have := arT_bd v a; unfold arT; split <;> omega
/-- Some of the first m faces across g is f. -/
def bk (g f : Nat) : Nat → Bool
  | 0 => false
  | m + 1 => bk g f m || decide (acr g m = f)
theorem acr_lt : ∀ f, f < 20 → ∀ k, k < 3 → acr f k < 20 ∧ acr f k ≠ f := by decide +kernel
theorem acr_back : ∀ f, f < 20 → ∀ k, k < 3 → bk (acr f k) f 3 = true := by decide +kernel
theorem aT_mk (n k : Nat) (hk : k < 3) : aT (3 * n + k) = Ico.cor n k ∧ bT (3 * n + k) = Ico.cor n ((k + 1) % 3) := by
  unfold aT bT
  rw [show (3 * n + k) / 3 = n by omega, show (3 * n + k) % 3 = k by omega]
  exact ⟨rfl, rfl⟩
end Go.Proofs.YteccblhmpggcgaaDoor
