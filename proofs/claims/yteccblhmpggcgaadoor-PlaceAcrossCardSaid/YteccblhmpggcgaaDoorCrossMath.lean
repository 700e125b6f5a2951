/- What PlaceAcross asks: the address across an edge. -/
import Derived.Test.YteccblhmpggcgaaDoorNormMath
import Derived.Test.YteccblhmpggcgaaDoorSolidMath
namespace Go.Proofs.YteccblhmpggcgaaDoor
open Go.RowKit

/-- The weight at corner j of a place on the edge that leaves the corner k out. -/
def ew (k : Nat) (a : Int) (j : Nat) : Int := if j = (k + 1) % 3 then a else if j = (k + 2) % 3 then 840 - a else 0
theorem ew_vld {f k : Nat} {a : Int} (hf : f < 20) (hk : k < 3) (h1 : 0 ≤ a) (h2 : a ≤ 840) : Ico.Vld f (ew k a 0) (ew k a 1) (ew k a 2) := by
  have : k = 0 ∨ k = 1 ∨ k = 2 := by omega
  unfold Ico.Vld
  rcases this with rfl | rfl | rfl <;> simp [ew] <;> omega
/-- Its weights. -/
theorem ew_wt {f k : Nat} {a : Int} (hf : f < 20) (hk : k < 3) (v : Nat) :
    Ico.wt f (ew k a 0) (ew k a 1) (ew k a 2) v = if v = Ico.cor f ((k + 1) % 3) then a else if v = Ico.cor f ((k + 2) % 3) then 840 - a else 0 := by
  obtain ⟨h1, h2, h3⟩ := Ico.cor_ne f hf
  have : k = 0 ∨ k = 1 ∨ k = 2 := by omega
  rcases this with rfl | rfl | rfl
  · show Ico.wt f 0 a (840 - a) v = if v = Ico.cor f 1 then a else if v = Ico.cor f 2 then 840 - a else 0
    unfold Ico.wt
    by_cases e0 : v = Ico.cor f 0
    · subst e0; rw [if_pos rfl, if_neg h1, if_neg h3]
    · rw [if_neg e0]
  · show Ico.wt f (840 - a) 0 a v = if v = Ico.cor f 2 then a else if v = Ico.cor f 0 then 840 - a else 0
    unfold Ico.wt
    by_cases e0 : v = Ico.cor f 0
    · subst e0; rw [if_pos rfl, if_neg h3, if_pos rfl]
    · rw [if_neg e0]
      by_cases e1 : v = Ico.cor f 1
      · subst e1; rw [if_pos rfl, if_neg h2, if_neg e0]
      · rw [if_neg e1, if_neg e0]
  · show Ico.wt f a (840 - a) 0 v = if v = Ico.cor f 0 then a else if v = Ico.cor f 1 then 840 - a else 0
    unfold Ico.wt
    by_cases e0 : v = Ico.cor f 0
    · subst e0; rw [if_pos rfl, if_pos rfl]
    · rw [if_neg e0, if_neg e0]
      by_cases e1 : v = Ico.cor f 1
      · rw [if_pos e1, if_pos e1]
      · rw [if_neg e1, if_neg e1]; split <;> rfl
theorem acr_has : ∀ f, f < 20 → ∀ k, k < 3 → Ico.has (acr f k) (Ico.cor f ((k + 1) % 3)) = true ∧ Ico.has (acr f k) (Ico.cor f ((k + 2) % 3)) = true := by decide +kernel
/-- The place has an address on the face across. -/
theorem acr_ok {f k : Nat} {a : Int} (hf : f < 20) (hk : k < 3) (h1 : 0 ≤ a) (h2 : a ≤ 840) : Ico.ok f (ew k a 0) (ew k a 1) (ew k a 2) (acr f k) = true := by
  obtain ⟨b1, b2⟩ := acr_has f hf k hk
  have hv := ew_vld hf hk h1 h2
  have hg := (acr_lt f hf k hk).1
  rw [Ico.ok_eq hv hg]
  unfold Ico.okB
  have : k = 0 ∨ k = 1 ∨ k = 2 := by omega
  rcases this with rfl | rfl | rfl
  · have e : ew 0 a 0 = 0 := rfl
    simp at b1 b2; rw [e]; simp [b1, b2]
  · have e : ew 1 a 1 = 0 := rfl
    simp at b1 b2; rw [e]; simp [b1, b2]
  · have e : ew 2 a 2 = 0 := rfl
    simp at b1 b2; rw [e]; simp [b1, b2]
theorem ew_len {f k : Nat} {a : Int} (hf : f < 20) (hk : k < 3) (h1 : 0 < a) (h2 : a < 840) : (Ico.fcs f (ew k a 0) (ew k a 1) (ew k a 2) 20).length = 2 := by
  rcases len_zeros (ew_vld hf hk (by omega : 0 ≤ a) (by omega)) with ⟨hz, hl⟩ | ⟨hz, hl⟩ | ⟨hz, hl⟩
  · exfalso
    have : k = 0 ∨ k = 1 ∨ k = 2 := by omega
    rcases this with rfl | rfl | rfl <;> simp [zc, ew] at hz <;> omega
  · exact hl
  · exfalso
    have : k = 0 ∨ k = 1 ∨ k = 2 := by omega
    have n1 : a ≠ 0 := by omega
    have n2 : ¬ 840 - a = 0 := by omega
    rcases this with rfl | rfl | rfl <;> simp [zc, ew, n1, n2] at hz
end Go.Proofs.YteccblhmpggcgaaDoor
