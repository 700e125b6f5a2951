/- The elements in plain numbers: letters, ranges, digits; when a reading is valid; lists of readings; the texts of readings. -/
import Derived.Lib.Hide
namespace Go.Proofs.YtjaopjhfjijdaaaDoor.Elt

def lets : List UInt8 := [80, 84, 68, 69, 78, 65, 66, 70, 71, 74, 75]
def leas : List Int := [8000, 1800, 1800, -1000, -1000, 900, 2000, 2400, 2000, 4400, 2000]
def mosts : List Int := [11000, 3300, 3300, 1000, 1000, 1700, 3200, 3400, 3000, 6200, 2900]
def digss : List Nat := [5, 4, 4, 4, 4, 4, 4, 4, 4, 4, 4]
/-- The letter, the least, the greatest value, the number of digits of the element c. -/
def lt (c : Int) : UInt8 := lets.getD (c - 1).toNat 0
def lo (c : Int) : Int := leas.getD (c - 1).toNat 0
def hi (c : Int) : Int := mosts.getD (c - 1).toNat 0
def dg (c : Int) : Nat := digss.getD (c - 1).toNat 0
/-- A code that exists. -/
def Ex (c : Int) : Prop := 1 ≤ c ∧ c ≤ 11
instance (c : Int) : Decidable (Ex c) := inferInstanceAs (Decidable (_ ∧ _))
theorem row_facts : ∀ k : Fin 11, (-1000 ≤ leas.getD k 0 ∧ mosts.getD k 0 ≤ 11000 ∧ leas.getD k 0 < mosts.getD k 0 ∧ mosts.getD k 0 < 10 ^ digss.getD k 0 ∧ -(leas.getD k 0) < 10 ^ digss.getD k 0) ∧ 4 ≤ digss.getD k 0 ∧ digss.getD k 0 ≤ 5 ∧ (leas.getD k 0 < 0 → digss.getD k 0 = 4) ∧ 65 ≤ (lets.getD k 0).toNat ∧ (lets.getD k 0).toNat ≤ 84 := by decide +kernel
theorem facts {c : Int} (h : Ex c) : (-1000 ≤ lo c ∧ hi c ≤ 11000 ∧ lo c < hi c ∧ hi c < 10 ^ dg c ∧ -(lo c) < 10 ^ dg c) ∧ 4 ≤ dg c ∧ dg c ≤ 5 ∧ (lo c < 0 → dg c = 4) ∧ 65 ≤ (lt c).toNat ∧ (lt c).toNat ≤ 84 :=
  row_facts ⟨(c - 1).toNat, by unfold Ex at h; omega⟩
theorem lets_ne : ∀ i j : Fin 11, i ≠ j → lets.getD i 0 ≠ lets.getD j 0 := by decide +kernel
theorem lt_inj {c d : Int} (hc : Ex c) (hd : Ex d) (h : lt c = lt d) : c = d := by
  unfold Ex at hc hd
  by_cases e : (c - 1).toNat = (d - 1).toNat
  · omega
  · exact absurd h (lets_ne ⟨(c - 1).toNat, by omega⟩ ⟨(d - 1).toNat, by omega⟩ (fun h => e (congrArg Fin.val h)))
end Go.Proofs.YtjaopjhfjijdaaaDoor.Elt
