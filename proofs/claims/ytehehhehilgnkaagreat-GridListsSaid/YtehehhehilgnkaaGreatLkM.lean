/- The lists of neighbours while they are collected, in plain numbers. -/
import Derived.Test.YtehehhehilgnkaaGreatAdj
namespace Go.Proofs.YtehehhehilgnkaaGreat.Lat

/-- All pairs of neighbours, in the order in which the program takes them. -/
def pairs (n : Nat) : List (Nat × Nat) := (cls n 20).flatMap prs
theorem pairs_mem {n a b : Nat} : (a, b) ∈ pairs n ↔ ∃ t ∈ cls n 20, (a, b) ∈ prs t := by simp [pairs, List.mem_flatMap]
def addn (l : List Nat) (b : Nat) : List Nat := if b ∈ l then l else l ++ [b]
/-- What is collected for the node a out of some pairs. -/
def lk (P : List (Nat × Nat)) (a : Nat) : List Nat := P.foldl (fun l p => if p.1 = a then addn l p.2 else l) []
theorem lk_nil (a : Nat) : lk [] a = [] := rfl
theorem lk_snoc (P : List (Nat × Nat)) (p : Nat × Nat) (a : Nat) : lk (P ++ [p]) a = if p.1 = a then addn (lk P a) p.2 else lk P a := by simp [lk, List.foldl_append]
theorem addn_mem {l : List Nat} {b x : Nat} : x ∈ addn l b ↔ x ∈ l ∨ x = b := by
  unfold addn
  split
  · rename_i h
    constructor
    · exact .inl
    · rintro (h' | rfl)
      · exact h'
      · exact h
  · simp
theorem addn_nodup {l : List Nat} {b : Nat} (h : l.Nodup) : (addn l b).Nodup := by
  unfold addn
  split
  · exact h
  · rename_i hb
    rw [List.nodup_append]
    refine ⟨h, by simp, fun x hx y hy => ?_⟩
    rw [List.mem_singleton] at hy
    subst hy
    rintro rfl
    exact hb hx
/-- Induction along a list from its end. -/
theorem snoc_ind {α : Type} {M : List α → Prop} (h0 : M []) (h1 : ∀ l x, M l → M (l ++ [x])) : ∀ l, M l := by
  suffices h : ∀ k (l : List α), l.length = k → M l from fun l => h _ l rfl
  intro k
  induction k with
  | zero => intro l hl; rw [List.eq_nil_of_length_eq_zero hl]; exact h0
  | succ k ih =>
    intro l hl
    have hne : l ≠ [] := by rintro rfl; simp at hl
    have e := List.dropLast_concat_getLast hne
    rw [← e]
    exact h1 _ _ (ih _ (by simp [List.length_dropLast, hl]))
theorem lk_spec (P : List (Nat × Nat)) (a : Nat) : (lk P a).Nodup ∧ ∀ b, b ∈ lk P a ↔ (a, b) ∈ P := by
  revert P
  refine snoc_ind ?_ ?_
  · simp [lk_nil]
  · intro P p ih
    rw [lk_snoc]
    split
    · rename_i hp
      refine ⟨addn_nodup ih.1, fun b => ?_⟩
      rw [addn_mem, ih.2 b, List.mem_append, List.mem_singleton]
      constructor
      · rintro (h | rfl)
        · exact .inl h
        · exact .inr (by rw [← hp])
      · rintro (h | h)
        · exact .inl h
        · exact .inr (congrArg Prod.snd h)
    · rename_i hp
      refine ⟨ih.1, fun b => ?_⟩
      rw [ih.2 b, List.mem_append, List.mem_singleton]
      constructor
      · exact .inl
      · rintro (h | h)
        · exact h
        · exact absurd (congrArg Prod.fst h).symm hp
/-- Some of the pairs. -/
def Some (n : Nat) (P : List (Nat × Nat)) : Prop := ∀ p ∈ P, p ∈ pairs n
theorem lk_sub {n a : Nat} {P : List (Nat × Nat)} (h : frq n) (ha : a < 10 * n * n + 2) (hP : Some n P) : ∀ b ∈ lk P a, b ∈ nbs n a := fun b hb =>
  (nbs_iff h ha).2 (pairs_mem.1 (hP _ (((lk_spec P a).2 b).1 hb)))
theorem lk_len {n a : Nat} {P : List (Nat × Nat)} (h : frq n) (ha : a < 10 * n * n + 2) (hP : Some n P) : (lk P a).length ≤ 6 :=
  Nat.le_trans (List.Nodup.length_le_of_subset (lk_spec P a).1 (lk_sub h ha hP)) (nbs_len h ha)
/-- There is room for a new neighbour. -/
theorem lk_room {n a b : Nat} {P : List (Nat × Nat)} (h : frq n) (ha : a < 10 * n * n + 2) (hP : Some n P) (hb : (a, b) ∈ pairs n) (hn : b ∉ lk P a) : (lk P a).length < 6 := by
  have hs : Some n (P ++ [(a, b)]) := fun p hp => by
    rcases List.mem_append.1 hp with hp | hp
    · exact hP p hp
    · rw [List.mem_singleton] at hp; rw [hp]; exact hb
  have := lk_len h ha hs
  rw [lk_snoc, if_pos rfl] at this
  unfold addn at this
  rw [if_neg hn, List.length_append] at this
  simp at this
  omega
theorem lk_perm {n a : Nat} (h : frq n) (ha : a < 10 * n * n + 2) : (lk (pairs n) a).Perm (nbs n a) := by
  refine (List.perm_ext_iff_of_nodup (lk_spec _ a).1 ((nbs_pw h ha).imp (fun hab => Nat.ne_of_lt hab))).2 fun b => ?_
  rw [(lk_spec _ a).2 b, pairs_mem, nbs_iff h ha]
/-- A sorted permutation of the neighbours is their list. -/
theorem nbs_uniq {n a : Nat} {l : List Nat} (h : frq n) (ha : a < 10 * n * n + 2) (hp : l.Perm (nbs n a)) (hs : l.Pairwise (· ≤ ·)) : l = nbs n a :=
  hp.eq_of_pairwise (fun _ _ _ _ h1 h2 => Nat.le_antisymm h1 h2) hs ((nbs_pw h ha).imp Nat.le_of_lt)
theorem nbs_sort {n a : Nat} (h : frq n) (ha : a < 10 * n * n + 2) : ((lk (pairs n) a).map (fun x : Nat => (x : Int))).mergeSort (fun x y => decide (x ≤ y)) = (nbs n a).map (fun x : Nat => (x : Int)) := by
  have hp := (List.mergeSort_perm ((lk (pairs n) a).map (fun x : Nat => (x : Int))) (fun x y => decide (x ≤ y))).trans ((lk_perm h ha).map _)
  have hs := List.pairwise_mergeSort (le := fun x y : Int => decide (x ≤ y)) (fun a b c h1 h2 => decide_eq_true (Int.le_trans (of_decide_eq_true h1) (of_decide_eq_true h2))) (fun a b => by simp only [Bool.or_eq_true, decide_eq_true_eq]; omega) ((lk (pairs n) a).map (fun x : Nat => (x : Int)))
  refine hp.eq_of_pairwise (le := fun x y : Int => x ≤ y) (fun _ _ _ _ h1 h2 => Int.le_antisymm h1 h2) (hs.imp (fun h => of_decide_eq_true h)) ?_
  rw [List.pairwise_map]
  exact (nbs_pw h ha).imp (fun h => by omega)
/-- The edges, ascending. -/
def erow (n a k : Nat) : List (Nat × Nat) := (((nbs n a).take k).filter (fun b => Nat.blt a b)).map fun b => (a, b)
def eds (n k : Nat) : List (Nat × Nat) := (List.range k).flatMap fun a => erow n a (nbs n a).length
theorem eds_succ (n k : Nat) : eds n (k + 1) = eds n k ++ erow n k (nbs n k).length := by simp [eds, List.range_succ]
theorem erow_yes {n a k : Nat} (hk : k < (nbs n a).length) (h : a < (nbs n a)[k]) : erow n a (k + 1) = erow n a k ++ [(a, (nbs n a)[k])] := by
  unfold erow
  rw [List.take_succ_eq_append_getElem hk, List.filter_append, List.map_append]
  simp [h]
theorem erow_no {n a k : Nat} (hk : k < (nbs n a).length) (h : ¬ a < (nbs n a)[k]) : erow n a (k + 1) = erow n a k := by
  unfold erow
  rw [List.take_succ_eq_append_getElem hk, List.filter_append, List.map_append]
  simp [h]
end Go.Proofs.YtehehhehilgnkaaGreat.Lat

