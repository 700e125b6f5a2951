/- Texts of this proof. -/
import Derived.Lib.Hide
namespace Go.Proofs.YtlakgkoohdfiaaaDoor.El.Elt

def lets : List UInt8 := [80, 84, 68, 69, 78, 65, 66, 70, 71, 74, 75]
def leas : List Int := [8000, 1800, 1800, -1000, -1000, 900, 2000, 2400, 2000, 4400, 2000]
def mosts : List Int := [11000, 3300, 3300, 1000, 1000, 1700, 3200, 3400, 3000, 6200, 2900]
def digss : List Nat := [5, 4, 4, 4, 4, 4, 4, 4, 4, 4, 4]
/-- The letter, the least, the greatest value, the number of digits of the element c. -/
def lt (c : Int) : UInt8 := lets.getD (c - 1).toNat 0
def lo (c : Int) : Int := leas.getD (c - 1).toNat 0
def hi (c : Int) : Int := mosts.getD (c - 1).toNat 0
def dg (c : Int) : Nat := digss.getD (c - 1).toNat 0
/-- A code that exists. -/
def Ex (c : Int) : Prop := 1 ≤ c ∧ c ≤ 11
instance (c : Int) : Decidable (Ex c) := inferInstanceAs (Decidable (_ ∧ _))
theorem row_facts : ∀ k : Fin 11, (-1000 ≤ leas.getD k 0 ∧ mosts.getD k 0 ≤ 11000 ∧ leas.getD k 0 < mosts.getD k 0 ∧ mosts.getD k 0 < 10 ^ digss.getD k 0 ∧ -(leas.getD k 0) < 10 ^ digss.getD k 0) ∧ 4 ≤ digss.getD k 0 ∧ digss.getD k 0 ≤ 5 ∧ (leas.getD k 0 < 0 → digss.getD k 0 = 4) ∧ 65 ≤ (lets.getD k 0).toNat ∧ (lets.getD k 0).toNat ≤ 84 := by decide +kernel
theorem facts {c : Int} (h : Ex c) : (-1000 ≤ lo c ∧ hi c ≤ 11000 ∧ lo c < hi c ∧ hi c < 10 ^ dg c ∧ -(lo c) < 10 ^ dg c) ∧ 4 ≤ dg c ∧ dg c ≤ 5 ∧ (lo c < 0 → dg c = 4) ∧ 65 ≤ (lt c).toNat ∧ (lt c).toNat ≤ 84 :=
  row_facts ⟨(c - 1).toNat, by unfold Ex at h; omega⟩
theorem lets_ne : ∀ i j : Fin 11, i ≠ j → lets.getD i 0 ≠ lets.getD j 0 := by decide +kernel
theorem lt_inj {c d : Int} (hc : Ex c) (hd : Ex d) (h : lt c = lt d) : c = d := by
  unfold Ex at hc hd
  by_cases e : (c - 1).toNat = (d - 1).toNat
  · omega
  · exact absurd h (lets_ne ⟨(c - 1).toNat, by omega⟩ ⟨(d - 1).toNat, by omega⟩ (fun h => e (congrArg Fin.val h)))
/-- A valid reading. -/
def Val (c v : Int) : Prop := Ex c ∧ lo c ≤ v ∧ v ≤ hi c
instance (c v : Int) : Decidable (Val c v) := inferInstanceAs (Decidable (_ ∧ _))
/-- The error of a reading: 0, 1 (range), 4 (kind). -/
def chk (c v : Int) : Int := if Ex c then if lo c ≤ v ∧ v ≤ hi c then 0 else 1 else 4
theorem chk_ok {c v : Int} (h : Val c v) : chk c v = 0 := by unfold chk; rw [if_pos h.1, if_pos h.2]
theorem chk_cases (c v : Int) : (Val c v ∧ chk c v = 0) ∨ (Ex c ∧ ¬ (lo c ≤ v ∧ v ≤ hi c) ∧ chk c v = 1) ∨ (¬ Ex c ∧ chk c v = 4) := by
  unfold chk
  by_cases h : Ex c
  · by_cases h2 : lo c ≤ v ∧ v ≤ hi c
    · exact .inl ⟨⟨h, h2⟩, by rw [if_pos h, if_pos h2]⟩
    · exact .inr (.inl ⟨h, h2, by rw [if_pos h, if_neg h2]⟩)
  · exact .inr (.inr ⟨h, by rw [if_neg h]⟩)
theorem val_of {c v : Int} (h : chk c v = 0) : Val c v := by
  rcases chk_cases c v with h1 | h1 | h1
  · exact h1.1
  · omega
  · omega
theorem val_bd {c v : Int} (h : Val c v) : v.natAbs < 10 ^ dg c ∧ -1000 ≤ v ∧ v ≤ 11000 ∧ (v < 0 → dg c = 4) := by
  obtain ⟨h1, h2, h3⟩ := h
  obtain ⟨⟨f1, f2, f3, f4, f5⟩, f6, f7, f8, f9⟩ := facts h1
  have e : ((10 ^ dg c : Nat) : Int) = (10 : Int) ^ dg c := by norm_cast
  exact ⟨by omega, by omega, by omega, fun h => f8 (by omega)⟩

/-! Lists of readings. -/
abbrev R := Int × Int
/-- Ascending codes, each less than the next. -/
def Asc (L : List R) : Prop := ∀ j, ∀ h : j + 1 < L.length, (L[j]).1 < (L[j + 1]).1
open Classical in
/-- The first error of a list: 4, 1, 8, or 0. -/
noncomputable def vld (L : List R) : Int := if ∃ r ∈ L, chk r.1 r.2 = 4 then 4 else if ∃ r ∈ L, chk r.1 r.2 = 1 then 1 else if Asc L then 0 else 8
theorem vld_kind {L : List R} (h : ∃ r ∈ L, chk r.1 r.2 = 4) : vld L = 4 := by unfold vld; rw [if_pos h]
theorem vld_range {L : List R} (h0 : ¬ ∃ r ∈ L, chk r.1 r.2 = 4) (h : ∃ r ∈ L, chk r.1 r.2 = 1) : vld L = 1 := by unfold vld; rw [if_neg h0, if_pos h]
theorem vld_sort {L : List R} (h0 : ¬ ∃ r ∈ L, chk r.1 r.2 = 4) (h1 : ¬ ∃ r ∈ L, chk r.1 r.2 = 1) : (Asc L → vld L = 0) ∧ (¬ Asc L → vld L = 8) := by
  unfold vld; rw [if_neg h0, if_neg h1]
  exact ⟨fun h => by rw [if_pos h], fun h => by rw [if_neg h]⟩
theorem vld_good {L : List R} (h : ∀ r ∈ L, Val r.1 r.2) : (Asc L → vld L = 0) ∧ (¬ Asc L → vld L = 8) :=
  vld_sort (fun ⟨r, hr, e⟩ => by rw [chk_ok (h r hr)] at e; omega) (fun ⟨r, hr, e⟩ => by rw [chk_ok (h r hr)] at e; omega)
/-- The readings that are left. -/
def wout (L : List R) (C : List Int) : List R := L.filter fun r => !C.contains r.1
/-- The value of the first reading of an element. -/
def fnd (L : List R) (c : Int) : Option Int := (L.find? fun r => r.1 == c).map (·.2)

end Go.Proofs.YtlakgkoohdfiaaaDoor.El.Elt


namespace Go.Proofs.YtlakgkoohdfiaaaDoor.Cm

/-- Element, face and month. -/
abbrev K3 := Int × Int × Int
/-- A normal: element, face, month, mean, spread. -/
abbrev N5 := Int × Int × Int × Int × Int
def key (n : N5) : K3 := (n.1, n.2.1, n.2.2.1)
/-- The order of keys. -/
def lt3 (a b : K3) : Prop := a.1 < b.1 ∨ a.1 = b.1 ∧ (a.2.1 < b.2.1 ∨ a.2.1 = b.2.1 ∧ a.2.2 < b.2.2)
instance (a b : K3) : Decidable (lt3 a b) := inferInstanceAs (Decidable (_ ∨ _))
theorem lt3_trans {a b c : K3} (h : lt3 a b) (k : lt3 b c) : lt3 a c := by unfold lt3 at *; omega
theorem lt3_irr {a : K3} (h : lt3 a a) : False := by unfold lt3 at h; omega
theorem lt3_tri (a b : K3) : lt3 a b ∨ a = b ∨ lt3 b a := by
  obtain ⟨a1, a2, a3⟩ := a
  obtain ⟨b1, b2, b3⟩ := b
  unfold lt3
  simp only [Prod.mk.injEq]
  omega
/-- What the comparison of two keys is. -/
def cmp3 (a b : K3) : Int := if lt3 a b then -1 else if a = b then 0 else 1
theorem cmp3_lt {a b : K3} (h : lt3 a b) : cmp3 a b = -1 := by unfold cmp3; rw [if_pos h]
theorem cmp3_eq {a b : K3} (h : a = b) : cmp3 a b = 0 := by subst h; unfold cmp3; rw [if_neg (fun h => lt3_irr h), if_pos rfl]
theorem cmp3_gt {a b : K3} (h : lt3 b a) : cmp3 a b = 1 := by
  unfold cmp3
  rw [if_neg (fun k => lt3_irr (lt3_trans h k)), if_neg (fun e => by subst e; exact lt3_irr h)]
theorem cmp3_cases (a b : K3) : (lt3 a b ∧ cmp3 a b = -1) ∨ (a = b ∧ cmp3 a b = 0) ∨ (lt3 b a ∧ cmp3 a b = 1) := by
  rcases lt3_tri a b with h | h | h
  · exact .inl ⟨h, cmp3_lt h⟩
  · exact .inr (.inl ⟨h, cmp3_eq h⟩)
  · exact .inr (.inr ⟨h, cmp3_gt h⟩)
/-- The error of a normal. -/
def chkN (n : N5) : Int := if El.Elt.Ex n.1 then if 0 ≤ n.2.1 ∧ n.2.1 ≤ 19 ∧ 1 ≤ n.2.2.1 ∧ n.2.2.1 ≤ 12 ∧ -10000 ≤ n.2.2.2.1 ∧ n.2.2.2.1 ≤ 20000 ∧ 0 ≤ n.2.2.2.2 ∧ n.2.2.2.2 ≤ 20000 then 0 else 1 else 4
/-- Strictly ascending. -/
def AscN (N : List N5) : Prop := ∀ j, ∀ h : j + 1 < N.length, lt3 (key N[j]) (key N[j + 1])
theorem ascN_lt {N : List N5} (h : AscN N) : ∀ d i, ∀ hj : i + d + 1 < N.length, lt3 (key (N[i]'(by omega))) (key N[i + d + 1])
  | 0, i, hj => h i hj
  | d + 1, i, hj => lt3_trans (ascN_lt h d i (by omega)) (h (i + d + 1) hj)
theorem ascN_at {N : List N5} (h : AscN N) {i j : Nat} (hij : i < j) (hj : j < N.length) : lt3 (key (N[i]'(by omega))) (key N[j]) := by
  obtain ⟨d, rfl⟩ : ∃ d, j = i + d + 1 := ⟨j - i - 1, by omega⟩
  exact ascN_lt h d i hj
open Classical in
/-- The first error of a climate: 2, 4, 1, 8, or 0. -/
noncomputable def vldN (N : List N5) : Int := if 200 < N.length then 2 else if ∃ n ∈ N, chkN n = 4 then 4 else if ∃ n ∈ N, chkN n = 1 then 1 else if AscN N then 0 else 8
theorem vldN_long {N : List N5} (h : 200 < N.length) : vldN N = 2 := by unfold vldN; rw [if_pos h]
theorem vldN_kind {N : List N5} (h0 : ¬ 200 < N.length) (h : ∃ n ∈ N, chkN n = 4) : vldN N = 4 := by unfold vldN; rw [if_neg h0, if_pos h]
theorem vldN_range {N : List N5} (h0 : ¬ 200 < N.length) (h1 : ¬ ∃ n ∈ N, chkN n = 4) (h : ∃ n ∈ N, chkN n = 1) : vldN N = 1 := by unfold vldN; rw [if_neg h0, if_neg h1, if_pos h]
theorem vldN_sort {N : List N5} (h0 : ¬ 200 < N.length) (h1 : ¬ ∃ n ∈ N, chkN n = 4) (h2 : ¬ ∃ n ∈ N, chkN n = 1) : (AscN N → vldN N = 0) ∧ (¬ AscN N → vldN N = 8) := by
  unfold vldN; rw [if_neg h0, if_neg h1, if_neg h2]
  exact ⟨fun h => by rw [if_pos h], fun h => by rw [if_neg h]⟩
theorem vldN_ok {N : List N5} (h : vldN N = 0) : N.length ≤ 200 ∧ (∀ n ∈ N, chkN n = 0) ∧ AscN N := by
  unfold vldN at h
  by_cases h0 : 200 < N.length
  · rw [if_pos h0] at h; omega
  · by_cases h1 : ∃ n ∈ N, chkN n = 4
    · rw [if_neg h0, if_pos h1] at h; omega
    · by_cases h2 : ∃ n ∈ N, chkN n = 1
      · rw [if_neg h0, if_neg h1, if_pos h2] at h; omega
      · by_cases h3 : AscN N
        · refine ⟨by omega, fun n hn => ?_, h3⟩
          have a : chkN n ≠ 4 := fun e => h1 ⟨n, hn, e⟩
          have b : chkN n ≠ 1 := fun e => h2 ⟨n, hn, e⟩
          unfold chkN at a b ⊢
          by_cases q : El.Elt.Ex n.1
          · rw [if_pos q] at a b ⊢
            by_cases q2 : 0 ≤ n.2.1 ∧ n.2.1 ≤ 19 ∧ 1 ≤ n.2.2.1 ∧ n.2.2.1 ≤ 12 ∧ -10000 ≤ n.2.2.2.1 ∧ n.2.2.2.1 ≤ 20000 ∧ 0 ≤ n.2.2.2.2 ∧ n.2.2.2.2 ≤ 20000
            · rw [if_pos q2]
            · rw [if_neg q2] at b; exact absurd rfl b
          · rw [if_neg q] at a; exact absurd rfl a
        · rw [if_neg h0, if_neg h1, if_neg h2, if_neg h3] at h; omega
/-- The normal with a key. -/
def fndN (N : List N5) (k : K3) : Option N5 := N.find? fun n => key n == k
theorem fndN_at {N : List N5} (h : AscN N) {i : Nat} (hi : i < N.length) {k : K3} (e : key N[i] = k) : fndN N k = some N[i] := by
  unfold fndN
  refine List.find?_eq_some_iff_getElem.2 ⟨by simpa using e, i, hi, rfl, fun j hj => ?_⟩
  have hl := ascN_at h hj hi
  simp only [Bool.not_eq_true', beq_eq_false_iff_ne]
  intro e2
  rw [e, ← e2] at hl
  exact lt3_irr hl
theorem fndN_none {N : List N5} {k : K3} (h : ∀ i, ∀ hi : i < N.length, key N[i] ≠ k) : fndN N k = none := by
  unfold fndN
  refine List.find?_eq_none.2 fun n hn => ?_
  obtain ⟨i, hi, rfl⟩ := List.getElem_of_mem hn
  simpa using h i hi
/-- What Lookup answers for a face and a month. -/
noncomputable def lkp (N : List N5) (k : K3) : N5 × Int := if vldN N = 0 then ((fndN N k).getD (0, 0, 0, 0, 0), if (fndN N k).isSome then 0 else 9) else ((0, 0, 0, 0, 0), vldN N)
end Go.Proofs.YtlakgkoohdfiaaaDoor.Cm
