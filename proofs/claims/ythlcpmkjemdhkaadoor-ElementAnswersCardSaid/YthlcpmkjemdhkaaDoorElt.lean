/- The elements in plain numbers: letters, ranges, digits; when a reading is valid; lists of readings; the texts of readings. -/
import Derived.Lib.AtoiTie
import Derived.Lib.AtoiAllCases
import Derived.Lib.ItoaMem
namespace Go.Proofs.YthlcpmkjemdhkaaDoor.Elt

def lets : List UInt8 := [80, 84, 68, 69, 78, 65, 66, 70, 71, 74, 75]
def leas : List Int := [8000, 1800, 1800, -1000, -1000, 900, 2000, 2400, 2000, 4400, 2000]
def mosts : List Int := [11000, 3300, 3300, 1000, 1000, 1700, 3200, 3400, 3000, 6200, 2900]
def digss : List Nat := [5, 4, 4, 4, 4, 4, 4, 4, 4, 4, 4]
/-- The letter, the least, the greatest value, the number of digits of the element c. -/
def lt (c : Int) : UInt8 := lets.getD (c - 1).toNat 0
def lo (c : Int) : Int := leas.getD (c - 1).toNat 0
def hi (c : Int) : Int := mosts.getD (c - 1).toNat 0
def dg (c : Int) : Nat := digss.getD (c - 1).toNat 0
/-- A code that exists. -/
def Ex (c : Int) : Prop := 1 ≤ c ∧ c ≤ 11
instance (c : Int) : Decidable (Ex c) := inferInstanceAs (Decidable (_ ∧ _))
theorem row_facts : ∀ k : Fin 11, (-1000 ≤ leas.getD k 0 ∧ mosts.getD k 0 ≤ 11000 ∧ leas.getD k 0 < mosts.getD k 0 ∧ mosts.getD k 0 < 10 ^ digss.getD k 0 ∧ -(leas.getD k 0) < 10 ^ digss.getD k 0) ∧ 4 ≤ digss.getD k 0 ∧ digss.getD k 0 ≤ 5 ∧ (leas.getD k 0 < 0 → digss.getD k 0 = 4) ∧ 65 ≤ (lets.getD k 0).toNat ∧ (lets.getD k 0).toNat ≤ 84 := by decide +kernel
theorem facts {c : Int} (h : Ex c) : (-1000 ≤ lo c ∧ hi c ≤ 11000 ∧ lo c < hi c ∧ hi c < 10 ^ dg c ∧ -(lo c) < 10 ^ dg c) ∧ 4 ≤ dg c ∧ dg c ≤ 5 ∧ (lo c < 0 → dg c = 4) ∧ 65 ≤ (lt c).toNat ∧ (lt c).toNat ≤ 84 :=
  row_facts ⟨(c - 1).toNat, by unfold Ex at h; omega⟩
theorem lets_ne : ∀ i j : Fin 11, i ≠ j → lets.getD i 0 ≠ lets.getD j 0 := by decide +kernel
theorem lt_inj {c d : Int} (hc : Ex c) (hd : Ex d) (h : lt c = lt d) : c = d := by
  unfold Ex at hc hd
  by_cases e : (c - 1).toNat = (d - 1).toNat
  · omega
  · exact absurd h (lets_ne ⟨(c - 1).toNat, by omega⟩ ⟨(d - 1).toNat, by omega⟩ (fun h => e (congrArg Fin.val h)))
/-- A valid reading. -/
def Val (c v : Int) : Prop := Ex c ∧ lo c ≤ v ∧ v ≤ hi c
instance (c v : Int) : Decidable (Val c v) := inferInstanceAs (Decidable (_ ∧ _))
/-- The error of a reading: 0, 1 (range), 4 (kind). -/
def chk (c v : Int) : Int := if Ex c then if lo c ≤ v ∧ v ≤ hi c then 0 else 1 else 4
theorem chk_ok {c v : Int} (h : Val c v) : chk c v = 0 := by unfold chk; rw [if_pos h.1, if_pos h.2]
theorem chk_cases (c v : Int) : (Val c v ∧ chk c v = 0) ∨ (Ex c ∧ ¬ (lo c ≤ v ∧ v ≤ hi c) ∧ chk c v = 1) ∨ (¬ Ex c ∧ chk c v = 4) := by
  unfold chk
  by_cases h : Ex c
  · by_cases h2 : lo c ≤ v ∧ v ≤ hi c
    · exact .inl ⟨⟨h, h2⟩, by rw [if_pos h, if_pos h2]⟩
    · exact .inr (.inl ⟨h, h2, by rw [if_pos h, if_neg h2]⟩)
  · exact .inr (.inr ⟨h, by rw [if_neg h]⟩)
theorem val_of {c v : Int} (h : chk c v = 0) : Val c v := by
  rcases chk_cases c v with h1 | h1 | h1
  · exact h1.1
  · omega
  · omega
theorem val_bd {c v : Int} (h : Val c v) : v.natAbs < 10 ^ dg c ∧ -1000 ≤ v ∧ v ≤ 11000 ∧ (v < 0 → dg c = 4) := by
  obtain ⟨h1, h2, h3⟩ := h
  obtain ⟨⟨f1, f2, f3, f4, f5⟩, f6, f7, f8, f9⟩ := facts h1
  have e : ((10 ^ dg c : Nat) : Int) = (10 : Int) ^ dg c := by norm_cast
  exact ⟨by omega, by omega, by omega, fun h => f8 (by omega)⟩

/-! Lists of readings. -/
abbrev R := Int × Int
/-- Ascending codes, each less than the next. -/
def Asc (L : List R) : Prop := ∀ j, ∀ h : j + 1 < L.length, (L[j]).1 < (L[j + 1]).1
open Classical in
/-- The first error of a list: 4, 1, 8, or 0. -/
noncomputable def vld (L : List R) : Int := if ∃ r ∈ L, chk r.1 r.2 = 4 then 4 else if ∃ r ∈ L, chk r.1 r.2 = 1 then 1 else if Asc L then 0 else 8
theorem vld_kind {L : List R} (h : ∃ r ∈ L, chk r.1 r.2 = 4) : vld L = 4 := by unfold vld; rw [if_pos h]
theorem vld_range {L : List R} (h0 : ¬ ∃ r ∈ L, chk r.1 r.2 = 4) (h : ∃ r ∈ L, chk r.1 r.2 = 1) : vld L = 1 := by unfold vld; rw [if_neg h0, if_pos h]
theorem vld_sort {L : List R} (h0 : ¬ ∃ r ∈ L, chk r.1 r.2 = 4) (h1 : ¬ ∃ r ∈ L, chk r.1 r.2 = 1) : (Asc L → vld L = 0) ∧ (¬ Asc L → vld L = 8) := by
  unfold vld; rw [if_neg h0, if_neg h1]
  exact ⟨fun h => by rw [if_pos h], fun h => by rw [if_neg h]⟩
theorem vld_good {L : List R} (h : ∀ r ∈ L, Val r.1 r.2) : (Asc L → vld L = 0) ∧ (¬ Asc L → vld L = 8) :=
  vld_sort (fun ⟨r, hr, e⟩ => by rw [chk_ok (h r hr)] at e; omega) (fun ⟨r, hr, e⟩ => by rw [chk_ok (h r hr)] at e; omega)
/-- The readings that are left. -/
def wout (L : List R) (C : List Int) : List R := L.filter fun r => !C.contains r.1
/-- The value of the first reading of an element. -/
def fnd (L : List R) (c : Int) : Option Int := (L.find? fun r => r.1 == c).map (·.2)

/-! Texts. -/
def b10 (x : Nat) : UInt8 := UInt8.ofNat (48 + x)
/-- The last k digits of n. -/
def ddn (n : Nat) : Nat → List UInt8
  | 0 => []
  | k + 1 => b10 (n / 10 ^ k % 10) :: ddn n k
theorem ddn_len (n : Nat) : ∀ k, (ddn n k).length = k
  | 0 => rfl
  | k + 1 => by rw [ddn, List.length_cons, ddn_len n k]
theorem ddn_snoc (n : Nat) : ∀ k, ddn n (k + 1) = ddn (n / 10) k ++ [b10 (n % 10)]
  | 0 => by simp [ddn]
  | k + 1 => by
    rw [ddn, ddn_snoc n k]
    simp only [ddn, List.cons_append]
    rw [Nat.div_div_eq_div_mul, show 10 * 10 ^ k = 10 ^ (k + 1) by rw [Nat.pow_succ]; omega]
theorem ddn_zero : ∀ k, ddn 0 k = List.replicate k 48
  | 0 => rfl
  | k + 1 => by rw [ddn, ddn_zero k, List.replicate_succ]; simp [b10]
/-- Leading zeros and the digits. -/
theorem pad : ∀ (k n : Nat), n < 10 ^ (k + 1) → (Lib.decDigits n).length ≤ k + 1 ∧ List.replicate (k + 1 - (Lib.decDigits n).length) 48 ++ Lib.decDigits n = ddn n (k + 1)
  | k, n, h => by
    by_cases h10 : n < 10
    · rw [Lib.decDigits_one h10, ddn_snoc, show n / 10 = 0 by omega, show n % 10 = n by omega, ddn_zero]
      exact ⟨by simp, by simp [b10]⟩
    · match k, h with
      | 0, h => simp at h; omega
      | k + 1, h =>
        have h2 : n / 10 < 10 ^ (k + 1) := by rw [Nat.pow_succ] at h; omega
        obtain ⟨i1, i2⟩ := pad k (n / 10) h2
        have e : Lib.decDigits n = Lib.decDigits (n / 10) ++ [b10 (n % 10)] := by rw [Lib.decDigits, dif_neg h10]; rfl
        rw [e, ddn_snoc, ← i2, List.length_append]
        refine ⟨by simp; omega, ?_⟩
        rw [show k + 1 + 1 - ((Lib.decDigits (n / 10)).length + [b10 (n % 10)].length) = k + 1 - (Lib.decDigits (n / 10)).length by simp, List.append_assoc]
theorem b10_toNat {d : Nat} (h : d < 10) : (b10 d).toNat = 48 + d := by
  unfold b10; rw [UInt8.toNat_ofNat']; omega
theorem ddn_dec (n : Nat) : ∀ (k acc : Nat), Lib.decFrom acc (ddn n k) = some (acc * 10 ^ k + n % 10 ^ k)
  | 0, acc => by simp [ddn, Lib.decFrom, Nat.mod_one]
  | k + 1, acc => by
    have hd : n / 10 ^ k % 10 < 10 := Nat.mod_lt _ (by omega)
    rw [ddn, Lib.decFrom, show Lib.digitVal (b10 (n / 10 ^ k % 10)) = some (n / 10 ^ k % 10) by
      unfold Lib.digitVal; rw [b10_toNat hd, if_pos (by omega)]; congr 1; omega]
    simp only
    rw [ddn_dec n k, Nat.pow_succ, Nat.mod_mul]
    congr 1
    rw [Nat.add_mul, Nat.mul_assoc acc 10, Nat.mul_comm 10 (10 ^ k), Nat.mul_comm (n / 10 ^ k % 10)]
    omega
theorem ddn_num {n k : Nat} (h : n < 10 ^ (k + 1)) : Lib.decNat (ddn n (k + 1)) = some n := by
  unfold Lib.decNat
  rw [if_neg (by rw [ddn]; simp), ddn_dec, Nat.mod_eq_of_lt h]; simp
/-- A sign if there is one. -/
def sg (v : Int) : List UInt8 := if v < 0 then [45] else []
/-- The text behind the letter; the text. -/
def tail (c v : Int) : List UInt8 := sg v ++ ddn v.natAbs (dg c)
def txt (c v : Int) : List UInt8 := lt c :: tail c v
theorem tail_len {c v : Int} (h : Val c v) : 4 ≤ (tail c v).length ∧ (tail c v).length ≤ 5 := by
  obtain ⟨-, f6, f7, f8, f9⟩ := facts h.1
  obtain ⟨-, -, -, b⟩ := val_bd h
  unfold tail sg
  rw [List.length_append, ddn_len]
  split
  · have := b (by assumption); simp; omega
  · simp; omega
theorem ddn_head {n k : Nat} : ∃ d r, d < 10 ∧ ddn n (k + 1) = b10 d :: r := ⟨n / 10 ^ k % 10, ddn n k, Nat.mod_lt _ (by omega), rfl⟩
theorem tail_num {c v : Int} (h : Val c v) : Lib.atoiAll (tail c v) = .ok v := by
  obtain ⟨l1, l2⟩ := tail_len h
  rw [Lib.atoiAll_short _ (by omega)]
  obtain ⟨b1, -, -, -⟩ := val_bd h
  obtain ⟨-, f6, f7, -⟩ := facts h.1
  obtain ⟨k, hk⟩ : ∃ k, dg c = k + 1 := ⟨dg c - 1, by omega⟩
  have e : Lib.atoi (tail c v) = some v := by
    unfold tail
    rw [hk] at b1 ⊢
    by_cases hv : v < 0
    · rw [show sg v = [45] from if_pos hv]
      show (Lib.decNat (ddn v.natAbs (k + 1))).map (fun m : Nat => -(m : Int)) = _
      rw [ddn_num b1]
      simp; omega
    · rw [show sg v = [] from if_neg hv, List.nil_append]
      obtain ⟨d, r, hd, he⟩ := @ddn_head v.natAbs k
      have hn := ddn_num b1
      rw [he] at hn ⊢
      have hb : ∀ x : UInt8, x.toNat < 48 → (b10 d == x) = false := fun x hx => beq_eq_false_iff_ne.2 (fun e => by have := b10_toNat hd; rw [e] at this; omega)
      show (if (b10 d == 45) = true then (Lib.decNat r).map (fun m : Nat => -(m : Int)) else if (b10 d == 43) = true then (Lib.decNat r).map (fun m : Nat => (m : Int)) else (Lib.decNat (b10 d :: r)).map (fun m : Nat => (m : Int))) = _
      rw [if_neg (by rw [hb 45 (by decide)]; decide), if_neg (by rw [hb 43 (by decide)]; decide), hn]
      simp; omega
  rw [e]; rfl
end Go.Proofs.YthlcpmkjemdhkaaDoor.Elt
