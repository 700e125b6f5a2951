/- Texts of this proof. -/
import Derived.Test.YtejoabaanclcbaaGreatAdj
namespace Go.Proofs.YtejoabaanclcbaaGreat.Lat

/-- All pairs of neighbours, in the order in which the program takes them. -/
def pairs (n : Nat) : List (Nat × Nat) := (cls n 20).flatMap prs
theorem pairs_mem {n a b : Nat} : (a, b) ∈ pairs n ↔ ∃ t ∈ cls n 20, (a, b) ∈ prs t := by simp [pairs, List.mem_flatMap]
def addn (l : List Nat) (b : Nat) : List Nat := if b ∈ l then l else l ++ [b]
/-- What is collected for the node a out of some pairs. -/
def lk (P : List (Nat × Nat)) (a : Nat) : List Nat := P.foldl (fun l p => if p.1 = a then addn l p.2 else l) []
theorem lk_nil (a : Nat) : lk [] a = [] := rfl
theorem lk_snoc (P : List (Nat × Nat)) (p : Nat × Nat) (a : Nat) : lk (P ++ [p]) a = if p.1 = a then addn (lk P a) p.2 else lk P a := by simp [lk, List.foldl_append]
theorem addn_mem {l : List Nat} {b x : Nat} : x ∈ addn l b ↔ x ∈ l ∨ x = b := by
  unfold addn
  split
  · rename_i h
    constructor
    · exact .inl
    · rintro (h' | rfl)
      · exact h'
      · exact h
  · simp
theorem addn_nodup {l : List Nat} {b : Nat} (h : l.Nodup) : (addn l b).Nodup := by
  unfold addn
  split
  · exact h
  · rename_i hb
    rw [List.nodup_append]
    refine ⟨h, by simp, fun x hx y hy => ?_⟩
    rw [List.mem_singleton] at hy
    subst hy
    rintro rfl
    exact hb hx
/-- Induction along a list from its end. -/
theorem snoc_ind {α : Type} {M : List α → Prop} (h0 : M []) (h1 : ∀ l x, M l → M (l ++ [x])) : ∀ l, M l := by
  suffices h : ∀ k (l : List α), l.length = k → M l from fun l => h _ l rfl
  intro k
  induction k with
  | zero => intro l hl; rw [List.eq_nil_of_length_eq_zero hl]; exact h0
  | succ k ih =>
    intro l hl
    have hne : l ≠ [] := by rintro rfl; simp at hl
    have e := List.dropLast_concat_getLast hne
    rw [← e]
    exact h1 _ _ (ih _ (by simp [List.length_dropLast, hl]))
theorem lk_spec (P : List (Nat × Nat)) (a : Nat) : (lk P a).Nodup ∧ ∀ b, b ∈ lk P a ↔ (a, b) ∈ P := by
  revert P
  refine snoc_ind ?_ ?_
  · simp [lk_nil]
  · intro P p ih
    rw [lk_snoc]
    split
    · rename_i hp
      refine ⟨addn_nodup ih.1, fun b => ?_⟩
      rw [addn_mem, ih.2 b, List.mem_append, List.mem_singleton]
      constructor
      · rintro (h | rfl)
        · exact .inl h
        · exact .inr (by rw [← hp])
      · rintro (h | h)
        · exact .inl h
        · exact .inr (congrArg Prod.snd h)
    · rename_i hp
      refine ⟨ih.1, fun b => ?_⟩
      rw [ih.2 b, List.mem_append, List.mem_singleton]
      constructor
      · exact .inl
      · rintro (h | h)
        · exact h
        · exact absurd (congrArg Prod.fst h).symm hp
/-- Some of the pairs. -/
def Some (n : Nat) (P : List (Nat × Nat)) : Prop := ∀ p ∈ P, p ∈ pairs n
theorem lk_sub {n a : Nat} {P : List (Nat × Nat)} (h : frq n) (ha : a < 10 * n * n + 2) (hP : Some n P) : ∀ b ∈ lk P a, b ∈ nbs n a := fun b hb =>
  (nbs_iff h ha).2 (pairs_mem.1 (hP _ (((lk_spec P a).2 b).1 hb)))
theorem lk_len {n a : Nat} {P : List (Nat × Nat)} (h : frq n) (ha : a < 10 * n * n + 2) (hP : Some n P) : (lk P a).length ≤ 6 :=
  Nat.le_trans (List.Nodup.length_le_of_subset (lk_spec P a).1 (lk_sub h ha hP)) (nbs_len h ha)
/-- There is room for a new neighbour. -/
theorem lk_room {n a b : Nat} {P : List (Nat × Nat)} (h : frq n) (ha : a < 10 * n * n + 2) (hP : Some n P) (hb : (a, b) ∈ pairs n) (hn : b ∉ lk P a) : (lk P a).length < 6 := by
  have hs : Some n (P ++ [(a, b)]) := fun p hp => by
    rcases List.mem_append.1 hp with hp | hp
    · exact hP p hp
    · rw [List.mem_singleton] at hp; rw [hp]; exact hb
  have := lk_len h ha hs
  rw [lk_snoc, if_pos rfl] at this
  unfold addn at this
  rw [if_neg hn, List.length_append] at this
  simp at this
  omega
theorem lk_perm {n a : Nat} (h : frq n) (ha : a < 10 * n * n + 2) : (lk (pairs n) a).Perm (nbs n a) := by
  refine (List.perm_ext_iff_of_nodup (lk_spec _ a).1 ((nbs_pw h ha).imp (fun hab => Nat.ne_of_lt hab))).2 fun b => ?_
  rw [(lk_spec _ a).2 b, pairs_mem, nbs_iff h ha]
theorem nbs_sort {n a : Nat} (h : frq n) (ha : a < 10 * n * n + 2) : ((lk (pairs n) a).map (fun x : Nat => (x : Int))).mergeSort (fun x y => decide (x ≤ y)) = (nbs n a).map (fun x : Nat => (x : Int)) := by
  have hp := (List.mergeSort_perm ((lk (pairs n) a).map (fun x : Nat => (x : Int))) (fun x y => decide (x ≤ y))).trans ((lk_perm h ha).map _)
  have hs := List.pairwise_mergeSort (le := fun x y : Int => decide (x ≤ y)) (fun a b c h1 h2 => decide_eq_true (Int.le_trans (of_decide_eq_true h1) (of_decide_eq_true h2))) (fun a b => by simp only [Bool.or_eq_true, decide_eq_true_eq]; omega) ((lk (pairs n) a).map (fun x : Nat => (x : Int)))
  refine hp.eq_of_pairwise (le := fun x y : Int => x ≤ y) (fun _ _ _ _ h1 h2 => Int.le_antisymm h1 h2) (hs.imp (fun h => of_decide_eq_true h)) ?_
  rw [List.pairwise_map]
  exact (nbs_pw h ha).imp (fun h => by omega)
/-- The edges, ascending. -/
def erow (n a k : Nat) : List (Nat × Nat) := (((nbs n a).take k).filter (fun b => Nat.blt a b)).map fun b => (a, b)
def eds (n k : Nat) : List (Nat × Nat) := (List.range k).flatMap fun a => erow n a (nbs n a).length
end Go.Proofs.YtejoabaanclcbaaGreat.Lat



namespace Go.Proofs.YtejoabaanclcbaaGreat.Lat

/-- The nodes of a list that have not been seen, each once. -/
def fnd (S : Nat → Bool) (X : List Nat) : List Nat := X.foldl (fun F x => if (S x || F.contains x) = true then F else F ++ [x]) []
theorem fnd_nil (S : Nat → Bool) : fnd S [] = [] := rfl
theorem fnd_snoc (S : Nat → Bool) (X : List Nat) (x : Nat) : fnd S (X ++ [x]) = if (S x || (fnd S X).contains x) = true then fnd S X else fnd S X ++ [x] := by simp [fnd, List.foldl_append]
theorem fnd_spec (S : Nat → Bool) (X : List Nat) : (fnd S X).Nodup ∧ ∀ x, x ∈ fnd S X ↔ S x = false ∧ x ∈ X := by
  revert X
  refine snoc_ind ?_ ?_
  · simp [fnd_nil]
  · intro X y ih
    rw [fnd_snoc]
    split
    · rename_i h
      refine ⟨ih.1, fun x => ?_⟩
      rw [ih.2 x, List.mem_append, List.mem_singleton]
      constructor
      · exact fun h' => ⟨h'.1, .inl h'.2⟩
      · rintro ⟨h1, h2 | rfl⟩
        · exact ⟨h1, h2⟩
        · rw [h1, Bool.false_or, List.contains_iff_mem] at h
          exact ⟨h1, ((ih.2 x).1 h).2⟩
    · rename_i h
      have h' : S y = false ∧ y ∉ fnd S X := by
        simp only [Bool.or_eq_true, List.contains_iff_mem, not_or, Bool.not_eq_true] at h
        exact h
      refine ⟨?_, fun x => ?_⟩
      · rw [List.nodup_append]
        refine ⟨ih.1, by simp, fun x hx z hz => ?_⟩
        rw [List.mem_singleton] at hz
        subst hz
        rintro rfl
        exact h'.2 hx
      · rw [List.mem_append, List.mem_singleton, ih.2 x, List.mem_append, List.mem_singleton]
        constructor
        · rintro (⟨a, b⟩ | rfl)
          · exact ⟨a, .inl b⟩
          · exact ⟨h'.1, .inr rfl⟩
        · rintro ⟨a, b | b⟩
          · exact .inl ⟨a, b⟩
          · exact .inr b
/-- What has been seen behind k rounds. -/
def Sn (n a k : Nat) (S : Nat → Bool) : Prop := ∀ x, x < 10 * n * n + 2 → (S x = true ↔ ∃ j, j ≤ k ∧ Dist n a x j)
/-- The ring of the nodes that are k edges away. -/
def Rg (n a k : Nat) (R : List Nat) : Prop := R.Nodup ∧ ∀ x, x ∈ R ↔ Dist n a x k
theorem dist_lt {n a x k : Nat} (h : frq n) (ha : a < 10 * n * n + 2) (hd : Dist n a x k) : x < 10 * n * n + 2 := rch_lt h ha hd.1
theorem len_lt {m : Nat} {l : List Nat} (h : l.Nodup) (hl : ∀ x ∈ l, x < m) : l.length ≤ m := by
  have := List.Nodup.length_le_of_subset h (l₂ := List.range m) (fun x hx => List.mem_range.2 (hl x hx))
  simpa using this
theorem rg_len {n a k : Nat} {R : List Nat} (h : frq n) (ha : a < 10 * n * n + 2) (hR : Rg n a k R) : R.length ≤ 10 * n * n + 2 :=
  len_lt hR.1 fun x hx => dist_lt h ha ((hR.2 x).1 hx)
theorem rg_start (n a : Nat) : Rg n a 0 [a] := by
  refine ⟨by simp, fun x => ?_⟩
  rw [List.mem_singleton]
  constructor
  · rintro rfl; exact dist_self n x
  · intro h; exact h.1
theorem sn_start (n a : Nat) : Sn n a 0 (fun x => decide (x = a)) := by
  intro x _
  simp only [decide_eq_true_eq]
  constructor
  · rintro rfl; exact ⟨0, Nat.le_refl _, dist_self n x⟩
  · rintro ⟨j, hj, h⟩
    obtain rfl : j = 0 := by omega
    exact h.1
/-- The next ring. -/
theorem ring_next {n a k : Nat} {S : Nat → Bool} {R F : List Nat} (h : frq n) (ha : a < 10 * n * n + 2) (hS : Sn n a k S) (hR : Rg n a k R) (hF : F = fnd S (R.flatMap (nbs n))) :
    Rg n a (k + 1) F ∧ Sn n a (k + 1) (fun x => S x || F.contains x) := by
  have key : ∀ x, x ∈ F ↔ Dist n a x (k + 1) := by
    intro x
    rw [hF, (fnd_spec S _).2 x, List.mem_flatMap]
    constructor
    · rintro ⟨h1, r, hr, hx⟩
      have hr' := (hR.2 r).1 hr
      have hx' := (nbs_in h (dist_lt h ha hr') hx).1
      obtain ⟨d, hd⟩ := dist_all h ha hx'
      have := dist_step hr' hx hd
      rcases Nat.lt_or_ge d (k + 1) with hlt | hge
      · exact absurd ((hS x hx').2 ⟨d, by omega, hd⟩) (by rw [h1]; decide)
      · obtain rfl : d = k + 1 := by omega
        exact hd
    · intro hd
      obtain ⟨r, hr, hx⟩ := dist_pred hd
      refine ⟨?_, r, (hR.2 r).2 hr, hx⟩
      cases hs : S x
      · rfl
      · obtain ⟨j, hj, hj'⟩ := (hS x (dist_lt h ha hd)).1 hs
        have := dist_one hd hj'
        omega
  refine ⟨⟨by rw [hF]; exact (fnd_spec S _).1, key⟩, fun x hx => ?_⟩
  simp only [Bool.or_eq_true, List.contains_iff_mem]
  rw [hS x hx, key x]
  constructor
  · rintro (⟨j, hj, hd⟩ | hd)
    · exact ⟨j, by omega, hd⟩
    · exact ⟨k + 1, Nat.le_refl _, hd⟩
  · rintro ⟨j, hj, hd⟩
    rcases Nat.lt_or_ge j (k + 1) with hlt | hge
    · exact .inl ⟨j, by omega, hd⟩
    · obtain rfl : j = k + 1 := by omega
      exact .inr hd
theorem flat_snoc {n : Nat} {R : List Nat} {i j : Nat} (hi : i < R.length) (hj : j < (nbs n R[i]).length) :
    (R.take i).flatMap (nbs n) ++ (nbs n R[i]).take (j + 1) = ((R.take i).flatMap (nbs n) ++ (nbs n R[i]).take j) ++ [(nbs n R[i])[j]] := by
  rw [List.take_succ_eq_append_getElem hj, ← List.append_assoc]
theorem flat_next {n : Nat} {R : List Nat} {i : Nat} (hi : i < R.length) :
    (R.take (i + 1)).flatMap (nbs n) = (R.take i).flatMap (nbs n) ++ (nbs n R[i]) := by
  rw [List.take_succ_eq_append_getElem hi, List.flatMap_append]
  simp
end Go.Proofs.YtejoabaanclcbaaGreat.Lat



namespace Go.Proofs.YtejoabaanclcbaaGreat.Lat

/-- A function that says how far each node is from a. -/
def Far (n a : Nat) (D : Nat → Nat) : Prop := ∀ x, x < 10 * n * n + 2 → Dist n a x (D x)
theorem far_some {n a : Nat} (h : frq n) (ha : a < 10 * n * n + 2) : ∃ D, Far n a D := by
  have : ∀ x, ∃ d, x < 10 * n * n + 2 → Dist n a x d := fun x => by
    by_cases hx : x < 10 * n * n + 2
    · obtain ⟨d, hd⟩ := dist_all h ha hx
      exact ⟨d, fun _ => hd⟩
    · exact ⟨0, fun h => absurd h hx⟩
  exact ⟨fun x => (this x).choose, fun x hx => (this x).choose_spec hx⟩
/-- What is known of the queue while its nodes before the i-th have been gone through. -/
structure Que (n a : Nat) (D : Nat → Nat) (Q : List Nat) (i : Nat) : Prop where
  nd : Q.Nodup
  lt : ∀ x ∈ Q, x < 10 * n * n + 2
  st : a ∈ Q
  pw : Q.Pairwise (fun x y => D x ≤ D y)
  cl : ∀ j (h : j < Q.length), j < i → ∀ b ∈ nbs n Q[j], b ∈ Q
  nr : ∀ h : i < Q.length, ∀ x ∈ Q, D x ≤ D Q[i] + 1
section
variable {n a : Nat} {D : Nat → Nat} (hn : frq n) (ha : a < 10 * n * n + 2) (hD : Far n a D)
include hn ha hD
omit hn in
theorem Que.start : Que n a D [a] 0 := by
  have h0 : D a = 0 := (dist_zero (hD a ha)).2 rfl
  refine ⟨by simp, fun x hx => by rw [List.mem_singleton] at hx; rw [hx]; exact ha, by simp, by simp, fun j _ hj => by omega, fun h x hx => ?_⟩
  rw [List.mem_singleton] at hx
  rw [hx, h0]; omega
theorem Que.low {Q : List Nat} {i : Nat} (h : Que n a D Q i) (hi : i < Q.length) : ∀ (m x : Nat), x < 10 * n * n + 2 → D x = m → D x ≤ D Q[i] → x ∈ Q
  | 0, x, hx, hm, _ => by
    have := (dist_zero (hD x hx)).1 hm
    rw [← this]; exact h.st
  | m + 1, x, hx, hm, hle => by
    have hd := hD x hx
    rw [hm] at hd
    obtain ⟨r, hr, hxr⟩ := dist_pred hd
    have hrl := dist_lt hn ha hr
    have hrm : D r = m := dist_one (hD r hrl) hr
    have hrQ := Que.low h hi m r hrl hrm (by omega)
    obtain ⟨p, hp, rfl⟩ := List.getElem_of_mem hrQ
    rcases Nat.lt_or_ge p i with hlt | hge
    · exact h.cl p hp hlt x hxr
    · exfalso
      rcases Nat.eq_or_lt_of_le hge with e | hlt
      · subst e; omega
      · have := List.pairwise_iff_getElem.1 h.pw i p hi hp hlt
        omega
/-- A neighbour that is not in the queue is one edge further away. -/
theorem Que.new {Q : List Nat} {i b : Nat} (h : Que n a D Q i) (hi : i < Q.length) (hb : b ∈ nbs n Q[i]) (hnb : b ∉ Q) : D b = D Q[i] + 1 := by
  have hql := h.lt _ (List.getElem_mem hi)
  have hbl := (nbs_in hn hql hb).1
  have h1 := dist_step (hD _ hql) hb (hD b hbl)
  rcases Nat.lt_or_ge (D Q[i]) (D b) with h2 | h2
  · omega
  · exact absurd (Que.low hn ha hD h hi _ b hbl rfl h2) hnb
theorem Que.snoc {Q : List Nat} {i b : Nat} (h : Que n a D Q i) (hi : i < Q.length) (hb : b ∈ nbs n Q[i]) (hnb : b ∉ Q) : Que n a D (Q ++ [b]) i := by
  have hd := Que.new hn ha hD h hi hb hnb
  have hql := h.lt _ (List.getElem_mem hi)
  refine ⟨?_, fun x hx => ?_, by simp [h.st], ?_, fun j hj hji c hc => ?_, fun hi' x hx => ?_⟩
  · rw [List.nodup_append]
    refine ⟨h.nd, by simp, fun x hx z hz => ?_⟩
    rw [List.mem_singleton] at hz
    subst hz
    rintro rfl
    exact hnb hx
  · rcases List.mem_append.1 hx with hx | hx
    · exact h.lt x hx
    · rw [List.mem_singleton] at hx; rw [hx]; exact (nbs_in hn hql hb).1
  · rw [List.pairwise_append]
    refine ⟨h.pw, by simp, fun x hx z hz => ?_⟩
    rw [List.mem_singleton] at hz
    subst hz
    have := h.nr hi x hx
    omega
  · have hjl : j < Q.length := by omega
    rw [List.getElem_append_left hjl] at hc
    exact List.mem_append_left _ (h.cl j hjl hji c hc)
  · rw [List.getElem_append_left hi]
    rcases List.mem_append.1 hx with hx | hx
    · exact h.nr hi x hx
    · rw [List.mem_singleton] at hx; rw [hx, hd]; omega
omit hn ha hD in
theorem Que.next {Q : List Nat} {i : Nat} (h : Que n a D Q i) (hi : i < Q.length) (hc : ∀ b ∈ nbs n Q[i], b ∈ Q) : Que n a D Q (i + 1) := by
  refine ⟨h.nd, h.lt, h.st, h.pw, fun j hj hji => ?_, fun hi' x hx => ?_⟩
  · rcases Nat.lt_succ_iff_lt_or_eq.1 hji with h1 | rfl
    · exact h.cl j hj h1
    · exact hc
  · have := h.nr hi x hx
    have := List.pairwise_iff_getElem.1 h.pw i (i + 1) hi hi' (Nat.lt_succ_self _)
    omega
theorem Que.fin {Q : List Nat} (h : Que n a D Q Q.length) : ∀ (m x : Nat), x < 10 * n * n + 2 → D x = m → x ∈ Q
  | 0, x, hx, hm => by
    have := (dist_zero (hD x hx)).1 hm
    rw [← this]; exact h.st
  | m + 1, x, hx, hm => by
    have hd := hD x hx
    rw [hm] at hd
    obtain ⟨r, hr, hxr⟩ := dist_pred hd
    have hrl := dist_lt hn ha hr
    have hrQ := Que.fin h m r hrl (dist_one (hD r hrl) hr)
    obtain ⟨p, hp, rfl⟩ := List.getElem_of_mem hrQ
    exact h.cl p hp hp x hxr
omit hn ha hD in
theorem Que.len {Q : List Nat} {i : Nat} (h : Que n a D Q i) : Q.length ≤ 10 * n * n + 2 := len_lt h.nd h.lt
end
end Go.Proofs.YtejoabaanclcbaaGreat.Lat



namespace Go.Proofs.YtejoabaanclcbaaGreat.Lat

/-- A cell with ascending nodes. -/
def scell (t : Tr) : Tr := (min t.1 (min t.2.1 t.2.2), t.1 + t.2.1 + t.2.2 - min t.1 (min t.2.1 t.2.2) - max t.1 (max t.2.1 t.2.2), max t.1 (max t.2.1 t.2.2))
theorem scell_cases (t : Tr) : ∃ x y z, scell t = (x, y, z) ∧ x ≤ y ∧ y ≤ z ∧ [t.1, t.2.1, t.2.2].Perm [x, y, z] := by
  obtain ⟨a, b, c⟩ := t
  unfold scell
  simp only
  rcases Nat.le_total a b with h1 | h1 <;> rcases Nat.le_total b c with h2 | h2 <;> rcases Nat.le_total a c with h3 | h3
  · exact ⟨a, b, c, by congr 1 <;> (try congr 1) <;> omega, h1, h2, List.Perm.refl _⟩
  · exact ⟨a, b, c, by congr 1 <;> (try congr 1) <;> omega, h1, h2, List.Perm.refl _⟩
  · exact ⟨a, c, b, by congr 1 <;> (try congr 1) <;> omega, h3, h2, (List.Perm.swap c b []).cons a⟩
  · exact ⟨c, a, b, by congr 1 <;> (try congr 1) <;> omega, h3, h1, ((List.Perm.swap c b []).cons a).trans (List.Perm.swap c a [b])⟩
  · exact ⟨b, a, c, by congr 1 <;> (try congr 1) <;> omega, h1, h3, List.Perm.swap b a [c]⟩
  · exact ⟨b, c, a, by congr 1 <;> (try congr 1) <;> omega, h2, h3, (List.Perm.swap b a [c]).trans ((List.Perm.swap c a []).cons b)⟩
  · exact ⟨c, b, a, by congr 1 <;> (try congr 1) <;> omega, by omega, by omega, ((List.Perm.swap c b []).cons a).trans ((List.Perm.swap c a [b]).trans ((List.Perm.swap b a []).cons c))⟩
  · exact ⟨c, b, a, by congr 1 <;> (try congr 1) <;> omega, h2, h1, ((List.Perm.swap c b []).cons a).trans ((List.Perm.swap c a [b]).trans ((List.Perm.swap b a []).cons c))⟩
/-- Cells in their order. -/
def cle (s t : Tr) : Prop := s.1 < t.1 ∨ s.1 = t.1 ∧ (s.2.1 < t.2.1 ∨ s.2.1 = t.2.1 ∧ s.2.2 ≤ t.2.2)
theorem cle_trans {s t u : Tr} (h1 : cle s t) (h2 : cle t u) : cle s u := by unfold cle at *; omega
theorem cle_total (s t : Tr) : cle s t ∨ cle t s := by unfold cle; omega
/-- The cells, sorted. -/
def IsCels (P : List Tr) (L : List Tr) : Prop := L.Perm (P.map scell) ∧ L.Pairwise cle
def insC (k : Nat) (x : Tr) (L : List Tr) : List Tr := L.take k ++ x :: L.drop k
theorem insC_is {P L : List Tr} {t : Tr} {k : Nat} (h : IsCels P L) (h1 : ∀ i (h : i < L.length), k ≤ i → ¬ cle L[i] (scell t)) (h2 : ∀ h : k - 1 < L.length, 0 < k → cle L[k - 1] (scell t)) (hk : k ≤ L.length) : IsCels (P ++ [t]) (insC k (scell t) L) := by
  refine ⟨?_, ?_⟩
  · unfold insC
    rw [List.map_append, List.map_singleton]
    refine List.perm_middle.trans ?_
    rw [List.take_append_drop]
    exact (List.perm_append_singleton _ _).symm.trans (h.1.append_right _)
  · unfold insC
    rw [List.pairwise_append]
    have hlt : ∀ a ∈ L.take k, cle a (scell t) := fun a ha => by
      obtain ⟨i, hi, rfl⟩ := List.mem_take_iff_getElem.1 ha
      have h3 := h2 (by omega) (by omega)
      rcases Nat.lt_or_ge i (k - 1) with h4 | h4
      · exact cle_trans (List.pairwise_iff_getElem.1 h.2 i (k - 1) (by omega) (by omega) h4) h3
      · obtain rfl : i = k - 1 := by omega
        exact h3
    have hge : ∀ b ∈ L.drop k, cle (scell t) b := fun b hb => by
      obtain ⟨i, hi, rfl⟩ := List.mem_drop_iff_getElem.1 hb
      exact (cle_total _ _).resolve_right (h1 _ (by omega) (by omega))
    refine ⟨h.2.sublist (List.take_sublist _ _), List.pairwise_cons.2 ⟨hge, h.2.sublist (List.drop_sublist _ _)⟩, fun a ha b hb => ?_⟩
    rcases List.mem_cons.1 hb with rfl | hb
    · exact hlt a ha
    · exact cle_trans (hlt a ha) (hge b hb)
theorem cels_nil : IsCels [] [] := ⟨List.Perm.refl _, List.Pairwise.nil⟩
theorem cels_len {P L : List Tr} (h : IsCels P L) : L.length = P.length := by rw [h.1.length_eq, List.length_map]
/-- The pairs of a cell with ascending nodes, as the reference takes them. -/
def prq (t : Tr) : List (Nat × Nat) := [(t.1, t.2.1), (t.1, t.2.2), (t.2.1, t.2.2), (t.2.1, t.1), (t.2.2, t.1), (t.2.2, t.2.1)]
theorem prs_iff {t : Tr} {a b : Nat} (h : t.1 ≠ t.2.1 ∧ t.2.1 ≠ t.2.2 ∧ t.1 ≠ t.2.2) : (a, b) ∈ prs t ↔ a ∈ [t.1, t.2.1, t.2.2] ∧ b ∈ [t.1, t.2.1, t.2.2] ∧ a ≠ b := by
  obtain ⟨x, y, z⟩ := t
  simp only [prs, List.mem_cons, List.not_mem_nil, or_false, Prod.mk.injEq] at *
  omega
theorem prq_iff {t : Tr} {a b : Nat} (h : t.1 ≠ t.2.1 ∧ t.2.1 ≠ t.2.2 ∧ t.1 ≠ t.2.2) : (a, b) ∈ prq t ↔ a ∈ [t.1, t.2.1, t.2.2] ∧ b ∈ [t.1, t.2.1, t.2.2] ∧ a ≠ b := by
  obtain ⟨x, y, z⟩ := t
  simp only [prq, List.mem_cons, List.not_mem_nil, or_false, Prod.mk.injEq] at *
  omega
theorem scell_ne {t : Tr} (h : t.1 ≠ t.2.1 ∧ t.2.1 ≠ t.2.2 ∧ t.1 ≠ t.2.2) : (scell t).1 ≠ (scell t).2.1 ∧ (scell t).2.1 ≠ (scell t).2.2 ∧ (scell t).1 ≠ (scell t).2.2 := by
  obtain ⟨x, y, z⟩ := t
  unfold scell
  simp only at *
  omega
theorem prq_scell {t : Tr} {a b : Nat} (h : t.1 ≠ t.2.1 ∧ t.2.1 ≠ t.2.2 ∧ t.1 ≠ t.2.2) : (a, b) ∈ prq (scell t) ↔ (a, b) ∈ prs t := by
  rw [prq_iff (scell_ne h), prs_iff h]
  obtain ⟨x, y, z, e, -, -, hp⟩ := scell_cases t
  rw [e]
  simp only
  rw [hp.mem_iff, hp.mem_iff]
/-- A list that is kept ascending. -/
def insN (k b : Nat) (l : List Nat) : List Nat := l.take k ++ b :: l.drop k
theorem insN_pw {k b : Nat} {l : List Nat} (h : l.Pairwise (· < ·)) (h1 : ∀ i (h : i < l.length), i < k → l[i] < b) (h2 : ∀ h : k < l.length, b < l[k]) (hk : k ≤ l.length) : (insN k b l).Pairwise (· < ·) := by
  unfold insN
  rw [List.pairwise_append]
  have hlt : ∀ a ∈ l.take k, a < b := fun a ha => by
    obtain ⟨i, hi, rfl⟩ := List.mem_take_iff_getElem.1 ha
    exact h1 i (by omega) (by omega)
  have hge : ∀ c ∈ l.drop k, b < c := fun c hc => by
    obtain ⟨i, hi, rfl⟩ := List.mem_drop_iff_getElem.1 hc
    have h3 := h2 (by omega)
    rcases Nat.eq_zero_or_pos i with rfl | hp
    · exact h3
    · exact Nat.lt_trans h3 (List.pairwise_iff_getElem.1 h k (k + i) (by omega) (by omega) (by omega))
  refine ⟨h.sublist (List.take_sublist _ _), List.pairwise_cons.2 ⟨hge, h.sublist (List.drop_sublist _ _)⟩, fun a ha c hc => ?_⟩
  rcases List.mem_cons.1 hc with rfl | hc
  · exact hlt a ha
  · exact Nat.lt_trans (hlt a ha) (hge c hc)
theorem insN_mem {k b x : Nat} {l : List Nat} : x ∈ insN k b l ↔ x ∈ l ∨ x = b := by
  unfold insN
  rw [List.mem_append, List.mem_cons]
  have : x ∈ l ↔ x ∈ l.take k ∨ x ∈ l.drop k := by rw [← List.mem_append, List.take_append_drop]
  rw [this]
  constructor
  · rintro (h | h | h)
    · exact .inl (.inl h)
    · exact .inr h
    · exact .inl (.inr h)
  · rintro ((h | h) | h)
    · exact .inl h
    · exact .inr (.inr h)
    · exact .inr (.inl h)
/-- The list of the node a behind some pairs: ascending, and of just those numbers. -/
def NbOf (P : List (Nat × Nat)) (a : Nat) (l : List Nat) : Prop := l.Pairwise (· < ·) ∧ ∀ b, b ∈ l ↔ (a, b) ∈ P
theorem nbof_nil (a : Nat) : NbOf [] a [] := ⟨List.Pairwise.nil, fun b => by simp⟩
theorem nbof_one {P : List (Nat × Nat)} {a : Nat} {l m : List Nat} (h1 : NbOf P a l) (h2 : NbOf P a m) : l = m :=
  List.Perm.eq_of_pairwise (le := (· < ·)) (fun _ _ _ _ x y => absurd x (Nat.lt_asymm y)) h1.1 h2.1 ((List.perm_ext_iff_of_nodup (h1.1.imp Nat.ne_of_lt) (h2.1.imp Nat.ne_of_lt)).2 fun b => by rw [h1.2, h2.2])
theorem nbof_other {P : List (Nat × Nat)} {a : Nat} {l : List Nat} {p : Nat × Nat} (h : NbOf P a l) (hp : p.1 ≠ a) : NbOf (P ++ [p]) a l :=
  ⟨h.1, fun b => by
    rw [h.2, List.mem_append, List.mem_singleton]
    constructor
    · exact .inl
    · rintro (h | h)
      · exact h
      · exact absurd (congrArg Prod.fst h).symm hp⟩
theorem nbof_known {P : List (Nat × Nat)} {a b : Nat} {l : List Nat} (h : NbOf P a l) (hb : b ∈ l) : NbOf (P ++ [(a, b)]) a l :=
  ⟨h.1, fun c => by
    rw [h.2, List.mem_append, List.mem_singleton]
    constructor
    · exact .inl
    · rintro (h' | h')
      · exact h'
      · have e : c = b := congrArg Prod.snd h'
        rw [e]; exact (h.2 b).1 hb⟩
theorem nbof_new {P : List (Nat × Nat)} {a b k : Nat} {l : List Nat} (h : NbOf P a l) (h1 : ∀ i (h : i < l.length), i < k → l[i] < b) (h2 : ∀ h : k < l.length, b < l[k]) (hk : k ≤ l.length) : NbOf (P ++ [(a, b)]) a (insN k b l) :=
  ⟨insN_pw h.1 h1 h2 hk, fun c => by
    rw [insN_mem, h.2, List.mem_append, List.mem_singleton]
    constructor
    · rintro (h | rfl)
      · exact .inl h
      · exact .inr rfl
    · rintro (h | h)
      · exact .inl h
      · exact .inr (congrArg Prod.snd h)⟩
theorem cels_pairs {n : Nat} {L : List Tr} (h : frq n) (hL : IsCels (cls n 20) L) {a b : Nat} : (a, b) ∈ L.flatMap prq ↔ (a, b) ∈ pairs n := by
  rw [pairs_mem, List.mem_flatMap]
  constructor
  · rintro ⟨t, ht, hp⟩
    obtain ⟨s, hs, rfl⟩ := List.mem_map.1 (hL.1.mem_iff.1 ht)
    exact ⟨s, hs, (prq_scell (cls_ne h hs)).1 hp⟩
  · rintro ⟨s, hs, hp⟩
    exact ⟨scell s, hL.1.mem_iff.2 (List.mem_map.2 ⟨s, hs, rfl⟩), (prq_scell (cls_ne h hs)).2 hp⟩
theorem nbof_all {n a : Nat} {L : List Tr} {l : List Nat} (h : frq n) (ha : a < 10 * n * n + 2) (hL : IsCels (cls n 20) L) (hl : NbOf (L.flatMap prq) a l) : l = nbs n a :=
  nbof_one hl ⟨nbs_pw h ha, fun b => by rw [cels_pairs h hL, pairs_mem, nbs_iff h ha]⟩
theorem cels_lt {n : Nat} {L : List Tr} (h : frq n) (hL : IsCels (cls n 20) L) {t : Tr} (ht : t ∈ L) : t.1 < t.2.1 ∧ t.2.1 < t.2.2 ∧ t.2.2 < 10 * n * n + 2 := by
  obtain ⟨s, hs, rfl⟩ := List.mem_map.1 (hL.1.mem_iff.1 ht)
  have h1 := cls_lt h hs
  have h2 := cls_ne h hs
  obtain ⟨x, y, z⟩ := s
  unfold scell
  simp only at *
  omega
end Go.Proofs.YtejoabaanclcbaaGreat.Lat



namespace Go.Proofs.YtejoabaanclcbaaGreat.Lat

theorem rch_zero_le {n : Nat} (h : frq n) : ∀ (m a : Nat), lev (LV n) a < m → a < 10 * n * n + 2 → ∃ k, k ≤ m ∧ rch n a k 0
  | 0, _, hm, _ => by omega
  | m + 1, a, hm, ha => by
    by_cases h0 : a = 0
    · exact ⟨0, by omega, h0.symm⟩
    · obtain ⟨b, hb, hl⟩ := nbs_low h ha h0
      obtain ⟨k, hle, hk⟩ := rch_zero_le h m b (by omega) (nbs_in h ha hb).1
      exact ⟨k + 1, by omega, rch_head hb hk⟩
/-- Any two nodes are at most 64 hops apart. -/
theorem dist_bound {n a b d : Nat} (h : frq n) (ha : a < 10 * n * n + 2) (hb : b < 10 * n * n + 2) (hd : Dist n a b d) : d ≤ 64 := by
  have h32 : ∀ x, lev (LV n) x < 32 := fun x => Nat.mod_lt _ (by omega)
  obtain ⟨k, hk1, hk⟩ := rch_zero_le h 32 a (h32 a) ha
  obtain ⟨m, hm1, hm⟩ := rch_zero_le h 32 b (h32 b) hb
  have := dist_le hd (rch_add hk (rch_sym h hb hm))
  omega
end Go.Proofs.YtejoabaanclcbaaGreat.Lat


