/- The elements in plain numbers: letters, ranges, digits; when a reading is valid; lists of readings; the texts of readings. -/
import Derived.Lib.Hide
namespace Go.Proofs.YtngbjccfmglbaaaDoor.Elt

def lets : List UInt8 := [80, 84, 68, 69, 78, 65, 66, 70, 71, 74, 75]
def leas : List Int := [8000, 1800, 1800, -1000, -1000, 900, 2000, 2400, 2000, 4400, 2000]
def mosts : List Int := [11000, 3300, 3300, 1000, 1000, 1700, 3200, 3400, 3000, 6200, 2900]
def digss : List Nat := [5, 4, 4, 4, 4, 4, 4, 4, 4, 4, 4]
/-- The letter, the least, the greatest value, the number of digits of the element c. -/
def lt (c : Int) : UInt8 := lets.getD (c - 1).toNat 0
def lo (c : Int) : Int := leas.getD (c - 1).toNat 0
def hi (c : Int) : Int := mosts.getD (c - 1).toNat 0
def dg (c : Int) : Nat := digss.getD (c - 1).toNat 0
/-- A code that exists. -/
def Ex (c : Int) : Prop := 1 ≤ c ∧ c ≤ 11
instance (c : Int) : Decidable (Ex c) := inferInstanceAs (Decidable (_ ∧ _))
theorem row_facts : ∀ k : Fin 11, (-1000 ≤ leas.getD k 0 ∧ mosts.getD k 0 ≤ 11000 ∧ leas.getD k 0 < mosts.getD k 0 ∧ mosts.getD k 0 < 10 ^ digss.getD k 0 ∧ -(leas.getD k 0) < 10 ^ digss.getD k 0) ∧ 4 ≤ digss.getD k 0 ∧ digss.getD k 0 ≤ 5 ∧ (leas.getD k 0 < 0 → digss.getD k 0 = 4) ∧ 65 ≤ (lets.getD k 0).toNat ∧ (lets.getD k 0).toNat ≤ 84 := by decide +kernel
theorem facts {c : Int} (h : Ex c) : (-1000 ≤ lo c ∧ hi c ≤ 11000 ∧ lo c < hi c ∧ hi c < 10 ^ dg c ∧ -(lo c) < 10 ^ dg c) ∧ 4 ≤ dg c ∧ dg c ≤ 5 ∧ (lo c < 0 → dg c = 4) ∧ 65 ≤ (lt c).toNat ∧ (lt c).toNat ≤ 84 :=
  row_facts ⟨(c - 1).toNat, by unfold Ex at h; omega⟩
theorem lets_ne : ∀ i j : Fin 11, i ≠ j → lets.getD i 0 ≠ lets.getD j 0 := by decide +kernel
theorem lt_inj {c d : Int} (hc : Ex c) (hd : Ex d) (h : lt c = lt d) : c = d := by
  unfold Ex at hc hd
  by_cases e : (c - 1).toNat = (d - 1).toNat
  · omega
  · exact absurd h (lets_ne ⟨(c - 1).toNat, by omega⟩ ⟨(d - 1).toNat, by omega⟩ (fun h => e (congrArg Fin.val h)))
/-- A valid reading. -/
def Val (c v : Int) : Prop := Ex c ∧ lo c ≤ v ∧ v ≤ hi c
instance (c v : Int) : Decidable (Val c v) := inferInstanceAs (Decidable (_ ∧ _))
/-- The error of a reading: 0, 1 (range), 4 (kind). -/
def chk (c v : Int) : Int := if Ex c then if lo c ≤ v ∧ v ≤ hi c then 0 else 1 else 4
theorem chk_ok {c v : Int} (h : Val c v) : chk c v = 0 := by unfold chk; rw [if_pos h.1, if_pos h.2]
theorem chk_cases (c v : Int) : (Val c v ∧ chk c v = 0) ∨ (Ex c ∧ ¬ (lo c ≤ v ∧ v ≤ hi c) ∧ chk c v = 1) ∨ (¬ Ex c ∧ chk c v = 4) := by
  unfold chk
  by_cases h : Ex c
  · by_cases h2 : lo c ≤ v ∧ v ≤ hi c
    · exact .inl ⟨⟨h, h2⟩, by rw [if_pos h, if_pos h2]⟩
    · exact .inr (.inl ⟨h, h2, by rw [if_pos h, if_neg h2]⟩)
  · exact .inr (.inr ⟨h, by rw [if_neg h]⟩)
theorem val_of {c v : Int} (h : chk c v = 0) : Val c v := by
  rcases chk_cases c v with h1 | h1 | h1
  · exact h1.1
  · omega
  · omega
theorem val_bd {c v : Int} (h : Val c v) : v.natAbs < 10 ^ dg c ∧ -1000 ≤ v ∧ v ≤ 11000 ∧ (v < 0 → dg c = 4) := by
  obtain ⟨h1, h2, h3⟩ := h
  obtain ⟨⟨f1, f2, f3, f4, f5⟩, f6, f7, f8, f9⟩ := facts h1
  have e : ((10 ^ dg c : Nat) : Int) = (10 : Int) ^ dg c := by norm_cast
  exact ⟨by omega, by omega, by omega, fun h => f8 (by omega)⟩

/-! Lists of readings. -/
abbrev R := Int × Int
/-- Ascending codes, each less than the next. -/
def Asc (L : List R) : Prop := ∀ j, ∀ h : j + 1 < L.length, (L[j]).1 < (L[j + 1]).1
open Classical in
/-- The first error of a list: 4, 1, 8, or 0. -/
noncomputable def vld (L : List R) : Int := if ∃ r ∈ L, chk r.1 r.2 = 4 then 4 else if ∃ r ∈ L, chk r.1 r.2 = 1 then 1 else if Asc L then 0 else 8
theorem vld_kind {L : List R} (h : ∃ r ∈ L, chk r.1 r.2 = 4) : vld L = 4 := by unfold vld; rw [if_pos h]
theorem vld_range {L : List R} (h0 : ¬ ∃ r ∈ L, chk r.1 r.2 = 4) (h : ∃ r ∈ L, chk r.1 r.2 = 1) : vld L = 1 := by unfold vld; rw [if_neg h0, if_pos h]
theorem vld_sort {L : List R} (h0 : ¬ ∃ r ∈ L, chk r.1 r.2 = 4) (h1 : ¬ ∃ r ∈ L, chk r.1 r.2 = 1) : (Asc L → vld L = 0) ∧ (¬ Asc L → vld L = 8) := by
  unfold vld; rw [if_neg h0, if_neg h1]
  exact ⟨fun h => by rw [if_pos h], fun h => by rw [if_neg h]⟩
theorem vld_good {L : List R} (h : ∀ r ∈ L, Val r.1 r.2) : (Asc L → vld L = 0) ∧ (¬ Asc L → vld L = 8) :=
  vld_sort (fun ⟨r, hr, e⟩ => by rw [chk_ok (h r hr)] at e; omega) (fun ⟨r, hr, e⟩ => by rw [chk_ok (h r hr)] at e; omega)
/-- The readings that are left. -/
def wout (L : List R) (C : List Int) : List R := L.filter fun r => !C.contains r.1
/-- The value of the first reading of an element. -/
def fnd (L : List R) (c : Int) : Option Int := (L.find? fun r => r.1 == c).map (·.2)

end Go.Proofs.YtngbjccfmglbaaaDoor.Elt


