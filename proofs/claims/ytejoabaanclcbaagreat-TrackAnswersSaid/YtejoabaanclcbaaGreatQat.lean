/- Texts of this proof. -/
import Derived.Test.YtejoabaanclcbaaGreatQar
namespace Go.Proofs.YtejoabaanclcbaaGreat.Tk

/-- The greatest length of a chain that begins at i, from the lengths behind it and below b. -/
def MxTo (P : Nat → Nat → Bool) (L : Nat → Nat) (i b m : Nat) : Prop :=
  (∀ k, i < k → k < b → P i k = true → L k + 1 ≤ m) ∧ (m = 1 ∨ ∃ k, i < k ∧ k < b ∧ P i k = true ∧ m = L k + 1) ∧ 1 ≤ m
theorem mx_start (P : Nat → Nat → Bool) (L : Nat → Nat) (i : Nat) : MxTo P L i (i + 1) 1 := ⟨fun k h1 h2 => by omega, .inl rfl, Nat.le_refl _⟩
theorem mx_step {P : Nat → Nat → Bool} {L : Nat → Nat} {i b m : Nat} (h : MxTo P L i b m) (hb : i < b) : MxTo P L i (b + 1) (if P i b = true then max m (1 + L b) else m) := by
  obtain ⟨h1, h2, h3⟩ := h
  by_cases hp : P i b = true
  · rw [if_pos hp]
    refine ⟨fun k hk1 hk2 hk3 => ?_, ?_, by omega⟩
    · rcases (by omega : k < b ∨ k = b) with h | rfl
      · have := h1 k hk1 h hk3; omega
      · omega
    · rcases (by omega : max m (1 + L b) = m ∨ max m (1 + L b) = 1 + L b) with e | e
      · rw [e]
        rcases h2 with h2 | ⟨k, k1, k2, k3, k4⟩
        · exact .inl h2
        · exact .inr ⟨k, k1, by omega, k3, k4⟩
      · rw [e]
        exact .inr ⟨b, hb, by omega, hp, by omega⟩
  · rw [if_neg hp]
    refine ⟨fun k hk1 hk2 hk3 => ?_, ?_, h3⟩
    · rcases (by omega : k < b ∨ k = b) with h | rfl
      · exact h1 k hk1 h hk3
      · exact absurd hk3 hp
    · rcases h2 with h2 | ⟨k, k1, k2, k3, k4⟩
      · exact .inl h2
      · exact .inr ⟨k, k1, by omega, k3, k4⟩
theorem mx_uniq {P : Nat → Nat → Bool} {L : Nat → Nat} {i b m m' : Nat} (h : MxTo P L i b m) (h' : MxTo P L i b m') : m = m' := by
  obtain ⟨h1, h2, h3⟩ := h
  obtain ⟨g1, g2, g3⟩ := h'
  have a : m ≤ m' := by
    rcases h2 with h2 | ⟨k, k1, k2, k3, k4⟩
    · omega
    · have := g1 k k1 k2 k3; omega
  have b : m' ≤ m := by
    rcases g2 with h2 | ⟨k, k1, k2, k3, k4⟩
    · omega
    · have := h1 k k1 k2 k3; omega
  omega
theorem mx_same {P : Nat → Nat → Bool} {L L' : Nat → Nat} {i b m : Nat} (h : MxTo P L i b m) (he : ∀ k, i < k → k < b → L k = L' k) : MxTo P L' i b m := by
  obtain ⟨h1, h2, h3⟩ := h
  refine ⟨fun k k1 k2 k3 => by rw [← he k k1 k2]; exact h1 k k1 k2 k3, ?_, h3⟩
  rcases h2 with h2 | ⟨k, k1, k2, k3, k4⟩
  · exact .inl h2
  · exact .inr ⟨k, k1, k2, k3, by rw [← he k k1 k2]; exact k4⟩
theorem mx_ex (P : Nat → Nat → Bool) (L : Nat → Nat) (i : Nat) : ∀ b, ∃ m, MxTo P L i b m
  | 0 => ⟨1, fun k _ h => absurd h (Nat.not_lt_zero _), .inl rfl, Nat.le_refl _⟩
  | b + 1 => by
    by_cases hb : i < b
    · obtain ⟨m, hm⟩ := mx_ex P L i b
      exact ⟨_, mx_step hm hb⟩
    · exact ⟨1, fun k h1 h2 => by omega, .inl rfl, Nat.le_refl _⟩
theorem ln_ex (n : Nat) (P : Nat → Nat → Bool) : ∀ d, d ≤ n → ∃ L : Nat → Nat, ∀ i, n - d ≤ i → i < n → MxTo P L i n (L i)
  | 0, _ => ⟨fun _ => 0, fun i h1 h2 => by omega⟩
  | d + 1, hd => by
    obtain ⟨L, hL⟩ := ln_ex n P d (by omega)
    obtain ⟨m, hm⟩ := mx_ex P L (n - (d + 1)) n
    refine ⟨fun j => if j = n - (d + 1) then m else L j, fun i h1 h2 => ?_⟩
    by_cases hi : i = n - (d + 1)
    · subst hi
      simp only [if_true]
      exact mx_same hm (fun k k1 _ => by rw [if_neg (by omega)])
    · simp only [if_neg hi]
      exact mx_same (hL i (by omega) h2) (fun k k1 _ => by rw [if_neg (by omega)])
/-- The greatest length of a chain that begins at i. -/
noncomputable def ln (n : Nat) (P : Nat → Nat → Bool) : Nat → Nat := Classical.choose (ln_ex n P n (Nat.le_refl _))
theorem ln_mx {n : Nat} {P : Nat → Nat → Bool} {i : Nat} (h : i < n) : MxTo P (ln n P) i n (ln n P i) := Classical.choose_spec (ln_ex n P n (Nat.le_refl _)) i (by omega) h
theorem ln_pos {n : Nat} {P : Nat → Nat → Bool} {i : Nat} (h : i < n) : 1 ≤ ln n P i := (ln_mx h).2.2
theorem ln_is {n : Nat} {P : Nat → Nat → Bool} {L : Nat → Nat} {i m : Nat} (h : i < n) (hL : ∀ k, i < k → k < n → L k = ln n P k) (hm : MxTo P L i n m) : m = ln n P i :=
  mx_uniq (mx_same hm hL) (ln_mx h)
theorem ln_le {n : Nat} {P : Nat → Nat → Bool} : ∀ d i, n - i ≤ d → i < n → ln n P i ≤ n - i
  | 0, i, h, hi => by omega
  | d + 1, i, h, hi => by
    rcases (ln_mx (P := P) hi).2.1 with e | ⟨k, k1, k2, k3, e⟩
    · omega
    · have := ln_le (P := P) d k (by omega) k2
      omega
/-- The one that is next in the chain. -/
noncomputable def nx (n : Nat) (P : Nat → Nat → Bool) (i : Nat) : Nat := ((List.range n).find? (fun k => decide (i < k) && (P i k && decide (ln n P k + 1 = ln n P i)))).getD n
theorem find_least {p : Nat → Bool} {n k : Nat} (hk : k < n) (hp : p k = true) (hl : ∀ j, j < k → p j = false) : (List.range n).find? p = some k := by
  rw [List.find?_eq_some_iff_getElem]
  refine ⟨hp, k, by simpa using hk, by simp, fun j hj => by simp [hl j hj]⟩
theorem nx_is {n : Nat} {P : Nat → Nat → Bool} {i k : Nat} (h1 : i < k) (h2 : k < n) (h3 : P i k = true) (h4 : ln n P k + 1 = ln n P i) (hl : ∀ j, i < j → j < k → ¬ (P i j = true ∧ ln n P j + 1 = ln n P i)) : nx n P i = k := by
  unfold nx
  rw [find_least h2 (by rw [decide_eq_true h1, h3, decide_eq_true h4]; rfl) (fun j hj => by
    by_cases hij : i < j
    · have := hl j hij hj
      cases hP : P i j
      · simp
      · rw [decide_eq_false (fun e => this ⟨hP, e⟩)]; simp
    · rw [decide_eq_false hij]; rfl)]
  rfl
theorem nx_yes {n : Nat} {P : Nat → Nat → Bool} {i : Nat} (hi : i < n) (h : ln n P i ≠ 1) : i < nx n P i ∧ nx n P i < n ∧ P i (nx n P i) = true ∧ ln n P (nx n P i) + 1 = ln n P i ∧ ∀ j, i < j → j < nx n P i → ¬ (P i j = true ∧ ln n P j + 1 = ln n P i) := by
  rcases (ln_mx (P := P) hi).2.1 with e | ⟨k, k1, k2, k3, e⟩
  · exact absurd e h
  · have hq : ∃ k, i < k ∧ k < n ∧ P i k = true ∧ ln n P k + 1 = ln n P i := ⟨k, k1, k2, k3, e.symm⟩
    obtain ⟨d, ⟨d1, d2, d3, d4⟩, hl⟩ : ∃ d, (i < d ∧ d < n ∧ P i d = true ∧ ln n P d + 1 = ln n P i) ∧ ∀ j, j < d → ¬ (i < j ∧ j < n ∧ P i j = true ∧ ln n P j + 1 = ln n P i) := Lat.least k ⟨k1, k2, k3, e.symm⟩
    have hd : nx n P i = d := nx_is d1 d2 d3 d4 (fun j j1 j2 ⟨j3, j4⟩ => hl j j2 ⟨j1, by omega, j3, j4⟩)
    rw [hd]
    exact ⟨d1, d2, d3, d4, fun j j1 j2 ⟨j3, j4⟩ => hl j j2 ⟨j1, by omega, j3, j4⟩⟩
/-- The best chain that begins at i, of m numbers. -/
noncomputable def chf (n : Nat) (P : Nat → Nat → Bool) : Nat → Nat → List Nat
  | 0, _ => []
  | m + 1, i => i :: chf n P m (nx n P i)
theorem chf_len (n : Nat) (P : Nat → Nat → Bool) : ∀ m i, (chf n P m i).length = m
  | 0, _ => rfl
  | m + 1, i => by simp [chf, chf_len n P m]
noncomputable def chn (n : Nat) (P : Nat → Nat → Bool) (i : Nat) : List Nat := chf n P (ln n P i) i
theorem chn_one {n : Nat} {P : Nat → Nat → Bool} {i : Nat} (h : ln n P i = 1) : chn n P i = [i] := by unfold chn; rw [h]; rfl
theorem chn_cons {n : Nat} {P : Nat → Nat → Bool} {i k : Nat} (h1 : i < k) (h2 : k < n) (h3 : P i k = true) (h4 : ln n P k + 1 = ln n P i) (hl : ∀ j, i < j → j < k → ¬ (P i j = true ∧ ln n P j + 1 = ln n P i)) : chn n P i = i :: chn n P k := by
  unfold chn
  rw [← h4]
  show i :: chf n P (ln n P k) (nx n P i) = _
  rw [nx_is h1 h2 h3 h4 hl]
/-- The index with which the best of the chains from i on begins: the least of those with the greatest length. -/
def Bs (n : Nat) (P : Nat → Nat → Bool) (i s : Nat) : Prop := (i ≤ s ∧ s < n) ∧ (∀ j, i ≤ j → j < n → ln n P j ≤ ln n P s) ∧ ∀ j, i ≤ j → j < s → ln n P j ≠ ln n P s
theorem bs_uniq {n : Nat} {P : Nat → Nat → Bool} {i s s' : Nat} (h : Bs n P i s) (h' : Bs n P i s') : s = s' := by
  obtain ⟨⟨a1, a2⟩, b, c⟩ := h
  obtain ⟨⟨a1', a2'⟩, b', c'⟩ := h'
  have e : ln n P s = ln n P s' := Nat.le_antisymm (b' s a1 a2) (b s' a1' a2')
  rcases Nat.lt_trichotomy s s' with h | h | h
  · exact absurd e (c' s a1 h)
  · exact h
  · exact absurd e.symm (c s' a1' h)
theorem bs_last {n : Nat} {P : Nat → Nat → Bool} (h : 0 < n) : Bs n P (n - 1) (n - 1) := ⟨⟨Nat.le_refl _, by omega⟩, fun j h1 h2 => by rw [show j = n - 1 by omega]; exact Nat.le_refl _, fun j h1 h2 => by omega⟩
theorem bs_step {n : Nat} {P : Nat → Nat → Bool} {i s : Nat} (h : Bs n P (i + 1) s) : (ln n P s ≤ ln n P i → Bs n P i i) ∧ (¬ ln n P s ≤ ln n P i → Bs n P i s) := by
  obtain ⟨⟨a1, a2⟩, b, c⟩ := h
  refine ⟨fun h => ⟨⟨Nat.le_refl _, by omega⟩, fun j h1 h2 => ?_, fun j h1 h2 => by omega⟩, fun h => ⟨⟨by omega, a2⟩, fun j h1 h2 => ?_, fun j h1 h2 => ?_⟩⟩
  · rcases (by omega : j = i ∨ i + 1 ≤ j) with rfl | h3
    · exact Nat.le_refl _
    · exact Nat.le_trans (b j h3 h2) h
  · rcases (by omega : j = i ∨ i + 1 ≤ j) with rfl | h3
    · omega
    · exact b j h3 h2
  · rcases (by omega : j = i ∨ i + 1 ≤ j) with rfl | h3
    · omega
    · exact c j h3 h2
/-- The best chain. -/
def Best (n : Nat) (P : Nat → Nat → Bool) (l : List Nat) : Prop := (n = 0 ∧ l = []) ∨ ∃ s, Bs n P 0 s ∧ l = chn n P s
theorem best_uniq {n : Nat} {P : Nat → Nat → Bool} {l l' : List Nat} (h : Best n P l) (h' : Best n P l') : l = l' := by
  rcases h with ⟨h0, rfl⟩ | ⟨s, hs, rfl⟩
  · rcases h' with ⟨-, rfl⟩ | ⟨s', hs', rfl⟩
    · rfl
    · have := hs'.1.2; omega
  · rcases h' with ⟨h0, rfl⟩ | ⟨s', hs', rfl⟩
    · have := hs.1.2; omega
    · rw [bs_uniq hs hs']
/-- Two relations that agree below n have the same best chain. -/
theorem ln_congr {n : Nat} {P Q : Nat → Nat → Bool} (h : ∀ i j, i < j → j < n → P i j = Q i j) : ∀ d i, n - i ≤ d → i < n → ln n P i = ln n Q i
  | 0, i, hd, hi => by omega
  | d + 1, i, hd, hi => by
    refine ln_is hi (fun k k1 k2 => ln_congr h d k (by omega) k2) ?_
    obtain ⟨h1, h2, h3⟩ := ln_mx (P := P) hi
    refine ⟨fun k k1 k2 k3 => h1 k k1 k2 (by rw [h i k k1 k2]; exact k3), ?_, h3⟩
    rcases h2 with h2 | ⟨k, k1, k2, k3, k4⟩
    · exact .inl h2
    · exact .inr ⟨k, k1, k2, by rw [← h i k k1 k2]; exact k3, k4⟩
theorem chn_congr {n : Nat} {P Q : Nat → Nat → Bool} (h : ∀ i j, i < j → j < n → P i j = Q i j) : ∀ d i, n - i ≤ d → i < n → chn n P i = chn n Q i
  | 0, i, hd, hi => by omega
  | d + 1, i, hd, hi => by
    have e := fun k hk => ln_congr h n k (by omega) hk
    by_cases h1 : ln n P i = 1
    · rw [chn_one h1, chn_one (by rw [← e i hi]; exact h1)]
    · obtain ⟨k1, k2, k3, k4, k5⟩ := nx_yes hi h1
      rw [chn_cons k1 k2 k3 k4 k5, chn_congr h d _ (by omega) k2]
      refine (chn_cons k1 k2 (by rw [← h _ _ k1 k2]; exact k3) (by rw [← e _ k2, ← e i hi]; exact k4) (fun j j1 j2 ⟨j3, j4⟩ => k5 j j1 j2 ⟨by rw [h _ _ j1 (by omega)]; exact j3, by rw [e j (by omega), e i hi]; exact j4⟩)).symm
theorem best_congr {n : Nat} {P Q : Nat → Nat → Bool} (h : ∀ i j, i < j → j < n → P i j = Q i j) {l : List Nat} (hb : Best n P l) : Best n Q l := by
  rcases hb with hb | ⟨s, ⟨⟨a1, a2⟩, b, c⟩, rfl⟩
  · exact .inl hb
  · have e := fun k hk => ln_congr h n k (by omega) hk
    exact .inr ⟨s, ⟨⟨a1, a2⟩, fun j h1 h2 => by rw [← e j h2, ← e s a2]; exact b j h1 h2, fun j h1 h2 => by rw [← e j (by omega), ← e s a2]; exact c j h1 h2⟩, chn_congr h n s (by omega) a2⟩
end Go.Proofs.YtejoabaanclcbaaGreat.Tk


namespace Go.Proofs.YtejoabaanclcbaaGreat.Tk

theorem best_len {n : Nat} {P : Nat → Nat → Bool} {l : List Nat} (h : Best n P l) : (∀ i, i < n → ln n P i ≤ l.length) ∧ (n = 0 ∧ l.length = 0 ∨ ∃ s, s < n ∧ l.length = ln n P s) := by
  rcases h with ⟨h0, rfl⟩ | ⟨s, ⟨⟨a1, a2⟩, b, c⟩, rfl⟩
  · exact ⟨fun i hi => by omega, .inl ⟨h0, rfl⟩⟩
  · have e : (chn n P s).length = ln n P s := chf_len _ _ _ _
    rw [e]
    exact ⟨fun i hi => b i (Nat.zero_le _) hi, .inr ⟨s, a2, rfl⟩⟩
/-- A chain: ascending numbers below n, each plausible after the one before. -/
def okC (n : Nat) (P : Nat → Nat → Bool) : List Nat → Prop
  | [] => True
  | [i] => i < n
  | i :: j :: r => i < j ∧ P i j = true ∧ okC n P (j :: r)
/-- c is lexicographically not greater than s. -/
def LexLe (c s : List Nat) : Prop := ∀ k, ∀ h1 : k < c.length, ∀ h2 : k < s.length, (∀ j, ∀ hj : j < k, c[j]'(by omega) = s[j]'(by omega)) → c[k] ≤ s[k]
end Go.Proofs.YtejoabaanclcbaaGreat.Tk

