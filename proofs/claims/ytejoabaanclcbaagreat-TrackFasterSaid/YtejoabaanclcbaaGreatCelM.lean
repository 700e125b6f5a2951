/- The cells in order, and the lists of neighbours that are kept ascending, in plain numbers. -/
import Derived.Test.YtejoabaanclcbaaGreatQan
namespace Go.Proofs.YtejoabaanclcbaaGreat.Lat

/-- A cell with ascending nodes. -/
def scell (t : Tr) : Tr := (min t.1 (min t.2.1 t.2.2), t.1 + t.2.1 + t.2.2 - min t.1 (min t.2.1 t.2.2) - max t.1 (max t.2.1 t.2.2), max t.1 (max t.2.1 t.2.2))
theorem scell_cases (t : Tr) : ∃ x y z, scell t = (x, y, z) ∧ x ≤ y ∧ y ≤ z ∧ [t.1, t.2.1, t.2.2].Perm [x, y, z] := by
  obtain ⟨a, b, c⟩ := t
  unfold scell
  simp only
  rcases Nat.le_total a b with h1 | h1 <;> rcases Nat.le_total b c with h2 | h2 <;> rcases Nat.le_total a c with h3 | h3
  · exact ⟨a, b, c, by congr 1 <;> (try congr 1) <;> omega, h1, h2, List.Perm.refl _⟩
  · exact ⟨a, b, c, by congr 1 <;> (try congr 1) <;> omega, h1, h2, List.Perm.refl _⟩
  · exact ⟨a, c, b, by congr 1 <;> (try congr 1) <;> omega, h3, h2, (List.Perm.swap c b []).cons a⟩
  · exact ⟨c, a, b, by congr 1 <;> (try congr 1) <;> omega, h3, h1, ((List.Perm.swap c b []).cons a).trans (List.Perm.swap c a [b])⟩
  · exact ⟨b, a, c, by congr 1 <;> (try congr 1) <;> omega, h1, h3, List.Perm.swap b a [c]⟩
  · exact ⟨b, c, a, by congr 1 <;> (try congr 1) <;> omega, h2, h3, (List.Perm.swap b a [c]).trans ((List.Perm.swap c a []).cons b)⟩
  · exact ⟨c, b, a, by congr 1 <;> (try congr 1) <;> omega, by omega, by omega, ((List.Perm.swap c b []).cons a).trans ((List.Perm.swap c a [b]).trans ((List.Perm.swap b a []).cons c))⟩
  · exact ⟨c, b, a, by congr 1 <;> (try congr 1) <;> omega, h2, h1, ((List.Perm.swap c b []).cons a).trans ((List.Perm.swap c a [b]).trans ((List.Perm.swap b a []).cons c))⟩
/-- Cells in their order. -/
def cle (s t : Tr) : Prop := s.1 < t.1 ∨ s.1 = t.1 ∧ (s.2.1 < t.2.1 ∨ s.2.1 = t.2.1 ∧ s.2.2 ≤ t.2.2)
theorem cle_trans {s t u : Tr} (h1 : cle s t) (h2 : cle t u) : cle s u := by unfold cle at *; omega
theorem cle_total (s t : Tr) : cle s t ∨ cle t s := by unfold cle; omega
/-- The cells, sorted. -/
def IsCels (P : List Tr) (L : List Tr) : Prop := L.Perm (P.map scell) ∧ L.Pairwise cle
def insC (k : Nat) (x : Tr) (L : List Tr) : List Tr := L.take k ++ x :: L.drop k
theorem insC_is {P L : List Tr} {t : Tr} {k : Nat} (h : IsCels P L) (h1 : ∀ i (h : i < L.length), k ≤ i → ¬ cle L[i] (scell t)) (h2 : ∀ h : k - 1 < L.length, 0 < k → cle L[k - 1] (scell t)) (hk : k ≤ L.length) : IsCels (P ++ [t]) (insC k (scell t) L) := by
  refine ⟨?_, ?_⟩
  · unfold insC
    rw [List.map_append, List.map_singleton]
    refine List.perm_middle.trans ?_
    rw [List.take_append_drop]
    exact (List.perm_append_singleton _ _).symm.trans (h.1.append_right _)
  · unfold insC
    rw [List.pairwise_append]
    have hlt : ∀ a ∈ L.take k, cle a (scell t) := fun a ha => by
      obtain ⟨i, hi, rfl⟩ := List.mem_take_iff_getElem.1 ha
      have h3 := h2 (by omega) (by omega)
      rcases Nat.lt_or_ge i (k - 1) with h4 | h4
      · exact cle_trans (List.pairwise_iff_getElem.1 h.2 i (k - 1) (by omega) (by omega) h4) h3
      · obtain rfl : i = k - 1 := by omega
        exact h3
    have hge : ∀ b ∈ L.drop k, cle (scell t) b := fun b hb => by
      obtain ⟨i, hi, rfl⟩ := List.mem_drop_iff_getElem.1 hb
      exact (cle_total _ _).resolve_right (h1 _ (by omega) (by omega))
    refine ⟨h.2.sublist (List.take_sublist _ _), List.pairwise_cons.2 ⟨hge, h.2.sublist (List.drop_sublist _ _)⟩, fun a ha b hb => ?_⟩
    rcases List.mem_cons.1 hb with rfl | hb
    · exact hlt a ha
    · exact cle_trans (hlt a ha) (hge b hb)
theorem cels_nil : IsCels [] [] := ⟨List.Perm.refl _, List.Pairwise.nil⟩
theorem cels_len {P L : List Tr} (h : IsCels P L) : L.length = P.length := by rw [h.1.length_eq, List.length_map]
/-- The pairs of a cell with ascending nodes, as the reference takes them. -/
def prq (t : Tr) : List (Nat × Nat) := [(t.1, t.2.1), (t.1, t.2.2), (t.2.1, t.2.2), (t.2.1, t.1), (t.2.2, t.1), (t.2.2, t.2.1)]
theorem prs_iff {t : Tr} {a b : Nat} (h : t.1 ≠ t.2.1 ∧ t.2.1 ≠ t.2.2 ∧ t.1 ≠ t.2.2) : (a, b) ∈ prs t ↔ a ∈ [t.1, t.2.1, t.2.2] ∧ b ∈ [t.1, t.2.1, t.2.2] ∧ a ≠ b := by
  obtain ⟨x, y, z⟩ := t
  simp only [prs, List.mem_cons, List.not_mem_nil, or_false, Prod.mk.injEq] at *
  omega
theorem prq_iff {t : Tr} {a b : Nat} (h : t.1 ≠ t.2.1 ∧ t.2.1 ≠ t.2.2 ∧ t.1 ≠ t.2.2) : (a, b) ∈ prq t ↔ a ∈ [t.1, t.2.1, t.2.2] ∧ b ∈ [t.1, t.2.1, t.2.2] ∧ a ≠ b := by
  obtain ⟨x, y, z⟩ := t
  simp only [prq, List.mem_cons, List.not_mem_nil, or_false, Prod.mk.injEq] at *
  omega
theorem scell_ne {t : Tr} (h : t.1 ≠ t.2.1 ∧ t.2.1 ≠ t.2.2 ∧ t.1 ≠ t.2.2) : (scell t).1 ≠ (scell t).2.1 ∧ (scell t).2.1 ≠ (scell t).2.2 ∧ (scell t).1 ≠ (scell t).2.2 := by
  obtain ⟨x, y, z⟩ := t
  unfold scell
  simp only at *
  omega
theorem prq_scell {t : Tr} {a b : Nat} (h : t.1 ≠ t.2.1 ∧ t.2.1 ≠ t.2.2 ∧ t.1 ≠ t.2.2) : (a, b) ∈ prq (scell t) ↔ (a, b) ∈ prs t := by
  rw [prq_iff (scell_ne h), prs_iff h]
  obtain ⟨x, y, z, e, -, -, hp⟩ := scell_cases t
  rw [e]
  simp only
  rw [hp.mem_iff, hp.mem_iff]
/-- A list that is kept ascending. -/
def insN (k b : Nat) (l : List Nat) : List Nat := l.take k ++ b :: l.drop k
theorem insN_pw {k b : Nat} {l : List Nat} (h : l.Pairwise (· < ·)) (h1 : ∀ i (h : i < l.length), i < k → l[i] < b) (h2 : ∀ h : k < l.length, b < l[k]) (hk : k ≤ l.length) : (insN k b l).Pairwise (· < ·) := by
  unfold insN
  rw [List.pairwise_append]
  have hlt : ∀ a ∈ l.take k, a < b := fun a ha => by
    obtain ⟨i, hi, rfl⟩ := List.mem_take_iff_getElem.1 ha
    exact h1 i (by omega) (by omega)
  have hge : ∀ c ∈ l.drop k, b < c := fun c hc => by
    obtain ⟨i, hi, rfl⟩ := List.mem_drop_iff_getElem.1 hc
    have h3 := h2 (by omega)
    rcases Nat.eq_zero_or_pos i with rfl | hp
    · exact h3
    · exact Nat.lt_trans h3 (List.pairwise_iff_getElem.1 h k (k + i) (by omega) (by omega) (by omega))
  refine ⟨h.sublist (List.take_sublist _ _), List.pairwise_cons.2 ⟨hge, h.sublist (List.drop_sublist _ _)⟩, fun a ha c hc => ?_⟩
  rcases List.mem_cons.1 hc with rfl | hc
  · exact hlt a ha
  · exact Nat.lt_trans (hlt a ha) (hge c hc)
theorem insN_mem {k b x : Nat} {l : List Nat} : x ∈ insN k b l ↔ x ∈ l ∨ x = b := by
  unfold insN
  rw [List.mem_append, List.mem_cons]
  have : x ∈ l ↔ x ∈ l.take k ∨ x ∈ l.drop k := by rw [← List.mem_append, List.take_append_drop]
  rw [this]
  constructor
  · rintro (h | h | h)
    · exact .inl (.inl h)
    · exact .inr h
    · exact .inl (.inr h)
  · rintro ((h | h) | h)
    · exact .inl h
    · exact .inr (.inr h)
    · exact .inr (.inl h)
/-- The list of the node a behind some pairs: ascending, and of just those numbers. -/
def NbOf (P : List (Nat × Nat)) (a : Nat) (l : List Nat) : Prop := l.Pairwise (· < ·) ∧ ∀ b, b ∈ l ↔ (a, b) ∈ P
theorem nbof_nil (a : Nat) : NbOf [] a [] := ⟨List.Pairwise.nil, fun b => by simp⟩
theorem nbof_one {P : List (Nat × Nat)} {a : Nat} {l m : List Nat} (h1 : NbOf P a l) (h2 : NbOf P a m) : l = m :=
  List.Perm.eq_of_pairwise (le := (· < ·)) (fun _ _ _ _ x y => absurd x (Nat.lt_asymm y)) h1.1 h2.1 ((List.perm_ext_iff_of_nodup (h1.1.imp Nat.ne_of_lt) (h2.1.imp Nat.ne_of_lt)).2 fun b => by rw [h1.2, h2.2])
theorem nbof_other {P : List (Nat × Nat)} {a : Nat} {l : List Nat} {p : Nat × Nat} (h : NbOf P a l) (hp : p.1 ≠ a) : NbOf (P ++ [p]) a l :=
  ⟨h.1, fun b => by
    rw [h.2, List.mem_append, List.mem_singleton]
    constructor
    · exact .inl
    · rintro (h | h)
      · exact h
      · exact absurd (congrArg Prod.fst h).symm hp⟩
theorem nbof_known {P : List (Nat × Nat)} {a b : Nat} {l : List Nat} (h : NbOf P a l) (hb : b ∈ l) : NbOf (P ++ [(a, b)]) a l :=
  ⟨h.1, fun c => by
    rw [h.2, List.mem_append, List.mem_singleton]
    constructor
    · exact .inl
    · rintro (h' | h')
      · exact h'
      · have e : c = b := congrArg Prod.snd h'
        rw [e]; exact (h.2 b).1 hb⟩
theorem nbof_new {P : List (Nat × Nat)} {a b k : Nat} {l : List Nat} (h : NbOf P a l) (h1 : ∀ i (h : i < l.length), i < k → l[i] < b) (h2 : ∀ h : k < l.length, b < l[k]) (hk : k ≤ l.length) : NbOf (P ++ [(a, b)]) a (insN k b l) :=
  ⟨insN_pw h.1 h1 h2 hk, fun c => by
    rw [insN_mem, h.2, List.mem_append, List.mem_singleton]
    constructor
    · rintro (h | rfl)
      · exact .inl h
      · exact .inr rfl
    · rintro (h | h)
      · exact .inl h
      · exact .inr (congrArg Prod.snd h)⟩
theorem cels_pairs {n : Nat} {L : List Tr} (h : frq n) (hL : IsCels (cls n 20) L) {a b : Nat} : (a, b) ∈ L.flatMap prq ↔ (a, b) ∈ pairs n := by
  rw [pairs_mem, List.mem_flatMap]
  constructor
  · rintro ⟨t, ht, hp⟩
    obtain ⟨s, hs, rfl⟩ := List.mem_map.1 (hL.1.mem_iff.1 ht)
    exact ⟨s, hs, (prq_scell (cls_ne h hs)).1 hp⟩
  · rintro ⟨s, hs, hp⟩
    exact ⟨scell s, hL.1.mem_iff.2 (List.mem_map.2 ⟨s, hs, rfl⟩), (prq_scell (cls_ne h hs)).2 hp⟩
theorem nbof_all {n a : Nat} {L : List Tr} {l : List Nat} (h : frq n) (ha : a < 10 * n * n + 2) (hL : IsCels (cls n 20) L) (hl : NbOf (L.flatMap prq) a l) : l = nbs n a :=
  nbof_one hl ⟨nbs_pw h ha, fun b => by rw [cels_pairs h hL, pairs_mem, nbs_iff h ha]⟩
theorem cels_lt {n : Nat} {L : List Tr} (h : frq n) (hL : IsCels (cls n 20) L) {t : Tr} (ht : t ∈ L) : t.1 < t.2.1 ∧ t.2.1 < t.2.2 ∧ t.2.2 < 10 * n * n + 2 := by
  obtain ⟨s, hs, rfl⟩ := List.mem_map.1 (hL.1.mem_iff.1 ht)
  have h1 := cls_lt h hs
  have h2 := cls_ne h hs
  obtain ⟨x, y, z⟩ := s
  unfold scell
  simp only at *
  omega
end Go.Proofs.YtejoabaanclcbaaGreat.Lat


