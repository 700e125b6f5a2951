/- The nodes that are found ring by ring, in plain numbers. -/
import Derived.Test.YtehehhehilgnkaaLkM
namespace Go.Proofs.Ytehehhehilgnkaa.Lat

/-- The nodes of a list that have not been seen, each once. -/
def fnd (S : Nat → Bool) (X : List Nat) : List Nat := X.foldl (fun F x => if (S x || F.contains x) = true then F else F ++ [x]) []
theorem fnd_nil (S : Nat → Bool) : fnd S [] = [] := rfl
theorem fnd_snoc (S : Nat → Bool) (X : List Nat) (x : Nat) : fnd S (X ++ [x]) = if (S x || (fnd S X).contains x) = true then fnd S X else fnd S X ++ [x] := by simp [fnd, List.foldl_append]
theorem fnd_spec (S : Nat → Bool) (X : List Nat) : (fnd S X).Nodup ∧ ∀ x, x ∈ fnd S X ↔ S x = false ∧ x ∈ X := by
  revert X
  refine snoc_ind ?_ ?_
  · simp [fnd_nil]
  · intro X y ih
    rw [fnd_snoc]
    split
    · rename_i h
      refine ⟨ih.1, fun x => ?_⟩
      rw [ih.2 x, List.mem_append, List.mem_singleton]
      constructor
      · exact fun h' => ⟨h'.1, .inl h'.2⟩
      · rintro ⟨h1, h2 | rfl⟩
        · exact ⟨h1, h2⟩
        · rw [h1, Bool.false_or, List.contains_iff_mem] at h
          exact ⟨h1, ((ih.2 x).1 h).2⟩
    · rename_i h
      have h' : S y = false ∧ y ∉ fnd S X := by
        simp only [Bool.or_eq_true, List.contains_iff_mem, not_or, Bool.not_eq_true] at h
        exact h
      refine ⟨?_, fun x => ?_⟩
      · rw [List.nodup_append]
        refine ⟨ih.1, by simp, fun x hx z hz => ?_⟩
        rw [List.mem_singleton] at hz
        subst hz
        rintro rfl
        exact h'.2 hx
      · rw [List.mem_append, List.mem_singleton, ih.2 x, List.mem_append, List.mem_singleton]
        constructor
        · rintro (⟨a, b⟩ | rfl)
          · exact ⟨a, .inl b⟩
          · exact ⟨h'.1, .inr rfl⟩
        · rintro ⟨a, b | b⟩
          · exact .inl ⟨a, b⟩
          · exact .inr b
/-- What has been seen behind k rounds. -/
def Sn (n a k : Nat) (S : Nat → Bool) : Prop := ∀ x, x < 10 * n * n + 2 → (S x = true ↔ ∃ j, j ≤ k ∧ Dist n a x j)
/-- The ring of the nodes that are k edges away. -/
def Rg (n a k : Nat) (R : List Nat) : Prop := R.Nodup ∧ ∀ x, x ∈ R ↔ Dist n a x k
theorem dist_lt {n a x k : Nat} (h : frq n) (ha : a < 10 * n * n + 2) (hd : Dist n a x k) : x < 10 * n * n + 2 := rch_lt h ha hd.1
theorem len_lt {m : Nat} {l : List Nat} (h : l.Nodup) (hl : ∀ x ∈ l, x < m) : l.length ≤ m := by
  have := List.Nodup.length_le_of_subset h (l₂ := List.range m) (fun x hx => List.mem_range.2 (hl x hx))
  simpa using this
theorem rg_len {n a k : Nat} {R : List Nat} (h : frq n) (ha : a < 10 * n * n + 2) (hR : Rg n a k R) : R.length ≤ 10 * n * n + 2 :=
  len_lt hR.1 fun x hx => dist_lt h ha ((hR.2 x).1 hx)
theorem rg_start (n a : Nat) : Rg n a 0 [a] := by
  refine ⟨by simp, fun x => ?_⟩
  rw [List.mem_singleton]
  constructor
  · rintro rfl; exact dist_self n x
  · intro h; exact h.1
theorem sn_start (n a : Nat) : Sn n a 0 (fun x => decide (x = a)) := by
  intro x _
  simp only [decide_eq_true_eq]
  constructor
  · rintro rfl; exact ⟨0, Nat.le_refl _, dist_self n x⟩
  · rintro ⟨j, hj, h⟩
    obtain rfl : j = 0 := by omega
    exact h.1
/-- The next ring. -/
theorem ring_next {n a k : Nat} {S : Nat → Bool} {R F : List Nat} (h : frq n) (ha : a < 10 * n * n + 2) (hS : Sn n a k S) (hR : Rg n a k R) (hF : F = fnd S (R.flatMap (nbs n))) :
    Rg n a (k + 1) F ∧ Sn n a (k + 1) (fun x => S x || F.contains x) := by
  have key : ∀ x, x ∈ F ↔ Dist n a x (k + 1) := by
    intro x
    rw [hF, (fnd_spec S _).2 x, List.mem_flatMap]
    constructor
    · rintro ⟨h1, r, hr, hx⟩
      have hr' := (hR.2 r).1 hr
      have hx' := (nbs_in h (dist_lt h ha hr') hx).1
      obtain ⟨d, hd⟩ := dist_all h ha hx'
      have := dist_step hr' hx hd
      rcases Nat.lt_or_ge d (k + 1) with hlt | hge
      · exact absurd ((hS x hx').2 ⟨d, by omega, hd⟩) (by rw [h1]; decide)
      · obtain rfl : d = k + 1 := by omega
        exact hd
    · intro hd
      obtain ⟨r, hr, hx⟩ := dist_pred hd
      refine ⟨?_, r, (hR.2 r).2 hr, hx⟩
      cases hs : S x
      · rfl
      · obtain ⟨j, hj, hj'⟩ := (hS x (dist_lt h ha hd)).1 hs
        have := dist_one hd hj'
        omega
  refine ⟨⟨by rw [hF]; exact (fnd_spec S _).1, key⟩, fun x hx => ?_⟩
  simp only [Bool.or_eq_true, List.contains_iff_mem]
  rw [hS x hx, key x]
  constructor
  · rintro (⟨j, hj, hd⟩ | hd)
    · exact ⟨j, by omega, hd⟩
    · exact ⟨k + 1, Nat.le_refl _, hd⟩
  · rintro ⟨j, hj, hd⟩
    rcases Nat.lt_or_ge j (k + 1) with hlt | hge
    · exact .inl ⟨j, by omega, hd⟩
    · obtain rfl : j = k + 1 := by omega
      exact .inr hd
theorem flat_snoc {n : Nat} {R : List Nat} {i j : Nat} (hi : i < R.length) (hj : j < (nbs n R[i]).length) :
    (R.take i).flatMap (nbs n) ++ (nbs n R[i]).take (j + 1) = ((R.take i).flatMap (nbs n) ++ (nbs n R[i]).take j) ++ [(nbs n R[i])[j]] := by
  rw [List.take_succ_eq_append_getElem hj, ← List.append_assoc]
theorem flat_next {n : Nat} {R : List Nat} {i : Nat} (hi : i < R.length) :
    (R.take (i + 1)).flatMap (nbs n) = (R.take i).flatMap (nbs n) ++ (nbs n R[i]) := by
  rw [List.take_succ_eq_append_getElem hi, List.flatMap_append]
  simp
end Go.Proofs.Ytehehhehilgnkaa.Lat
