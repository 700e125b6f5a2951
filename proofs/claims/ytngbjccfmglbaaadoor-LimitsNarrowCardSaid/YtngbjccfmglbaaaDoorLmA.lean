/- The gross limits, and which elements are rejected, in plain numbers. -/
import Derived.Test.YtngbjccfmglbaaaDoorElt
import Derived.Lib.SlicesCompact
namespace Go.Proofs.YtngbjccfmglbaaaDoor.Lm
open Elt (R fnd Ex Val lo hi wout Asc)

def gls : List Int := [8700, 1830, 1830, -900, -900, 1000, 2100, 2500, 2050, 4700, 2050]
def gms : List Int := [10850, 3300, 3100, 900, 900, 1650, 3150, 3350, 2950, 6050, 2850]
/-- The gross limits of the element c. -/
def gl (c : Int) : Int := gls.getD (c - 1).toNat 0
def gm (c : Int) : Int := gms.getD (c - 1).toNat 0
/-- A reading within the gross limits. -/
def gr (c v : Int) : Bool := decide (Ex c ∧ gl c ≤ v ∧ v ≤ gm c)
theorem in_row : ∀ k : Fin 11, Elt.leas.getD k 0 ≤ gls.getD k 0 ∧ gls.getD k 0 ≤ gms.getD k 0 ∧ gms.getD k 0 ≤ Elt.mosts.getD k 0 ∧ -1000 ≤ gls.getD k 0 ∧ gms.getD k 0 ≤ 11000 := by decide +kernel
theorem inside {c : Int} (h : Ex c) : lo c ≤ gl c ∧ gl c ≤ gm c ∧ gm c ≤ hi c ∧ -1000 ≤ gl c ∧ gm c ≤ 11000 := in_row ⟨(c - 1).toNat, by unfold Ex at h; omega⟩
theorem gr_yes {c v : Int} (h : Ex c) (h1 : gl c ≤ v) (h2 : v ≤ gm c) : gr c v = true := decide_eq_true ⟨h, h1, h2⟩
theorem gr_no {c v : Int} (h : ¬ (Ex c ∧ gl c ≤ v ∧ v ≤ gm c)) : gr c v = false := decide_eq_false h
/-- Whether Dew and Air, East and North contradict each other. -/
def wet (L : List R) : Bool := (fnd L 2).isSome && (fnd L 3).isSome && decide ((fnd L 2).getD 0 < (fnd L 3).getD 0)
def storm (L : List R) : Bool := (fnd L 4).isSome && (fnd L 5).isSome && decide (810000 < (fnd L 4).getD 0 * (fnd L 4).getD 0 + (fnd L 5).getD 0 * (fnd L 5).getD 0)
/-- The elements of the readings that are not within the limits, in order. -/
def bads (L : List R) : List Int := (L.filter fun r => !gr r.1 r.2).map (·.1)
/-- All rejected elements, before they are sorted. -/
def raw (L : List R) : List Int := bads L ++ (if wet L then [2, 3] else []) ++ (if storm L then [4, 5] else [])
theorem bads_snoc (L : List R) (k : Nat) (h : k < L.length) : bads (L.take (k + 1)) = bads (L.take k) ++ (if gr (L[k]).1 (L[k]).2 then [] else [(L[k]).1]) := by
  unfold bads
  rw [List.take_add_one, List.getElem?_eq_getElem h, Option.toList_some, List.filter_append, List.map_append]
  cases hg : gr (L[k]).1 (L[k]).2 <;> simp [List.filter, hg]
theorem bads_len (L : List R) (k : Nat) : (bads (L.take k)).length ≤ L.length := by
  unfold bads
  rw [List.length_map]
  exact Nat.le_trans (List.length_filter_le _ _) (by rw [List.length_take]; omega)
theorem bads_len' (L : List R) : (bads L).length ≤ L.length := by have := bads_len L L.length; rwa [List.take_length] at this
theorem mem_bads {L : List R} {x : Int} : x ∈ bads L ↔ ∃ r ∈ L, gr r.1 r.2 = false ∧ r.1 = x := by
  unfold bads
  simp only [List.mem_map, List.mem_filter, Bool.not_eq_true']
  exact ⟨fun ⟨r, ⟨a, b⟩, c⟩ => ⟨r, a, b, c⟩, fun ⟨r, a, b, c⟩ => ⟨r, ⟨a, b⟩, c⟩⟩
/-- What Check finds: the rejected elements, ascending, each once. -/
structure Ck (L : List R) (C : List Int) : Prop where
  asc : C.Pairwise (fun x y => x < y)
  mem : ∀ x, x ∈ C ↔ x ∈ raw L
theorem asc_ext : ∀ {A B : List Int}, A.Pairwise (fun x y => x < y) → B.Pairwise (fun x y => x < y) → (∀ x, x ∈ A ↔ x ∈ B) → A = B
  | [], [], _, _, _ => rfl
  | [], b :: B, _, _, h => absurd ((h b).2 (by simp)) (by simp)
  | a :: A, [], _, _, h => absurd ((h a).1 (by simp)) (by simp)
  | a :: A, b :: B, hA, hB, h => by
    obtain ⟨hA1, hA2⟩ := List.pairwise_cons.1 hA
    obtain ⟨hB1, hB2⟩ := List.pairwise_cons.1 hB
    have e : a = b := by
      rcases List.mem_cons.1 ((h a).1 (by simp)) with q | q
      · exact q
      · rcases List.mem_cons.1 ((h b).2 (by simp)) with q' | q'
        · exact q'.symm
        · have := hA1 b q'; have := hB1 a q; omega
    subst e
    rw [asc_ext hA2 hB2 (fun x => ⟨fun hx => by
      rcases List.mem_cons.1 ((h x).1 (List.mem_cons_of_mem _ hx)) with q | q
      · have := hA1 x hx; omega
      · exact q, fun hx => by
      rcases List.mem_cons.1 ((h x).2 (List.mem_cons_of_mem _ hx)) with q | q
      · have := hB1 x hx; omega
      · exact q⟩)]
theorem Ck.eq {L : List R} {C D : List Int} (h : Ck L C) (hD : D.Pairwise (fun x y => x < y)) (hm : ∀ x, x ∈ D ↔ x ∈ raw L) : C = D := asc_ext h.asc hD (fun x => (h.mem x).trans (hm x).symm)
theorem Ck.len {L : List R} {C : List Int} (h : Ck L C) : raw L = [] ↔ C = [] := by
  constructor
  · intro e
    refine List.eq_nil_iff_forall_not_mem.2 fun x hx => ?_
    have := (h.mem x).1 hx
    rw [e] at this
    cases this
  · intro e
    refine List.eq_nil_iff_forall_not_mem.2 fun x hx => ?_
    have := (h.mem x).2 hx
    rw [e] at this
    cases this

/-! Leaving the rejected ones out. -/
theorem fnd_wout' (M : List R) (C : List Int) (c : Int) (h : (fnd (wout M C) c).isSome = true) : C.contains c = false ∧ fnd (wout M C) c = fnd M c := by
  have e : fnd (wout M C) c = if C.contains c then none else fnd M c := by
    unfold fnd wout
    rw [List.find?_filter]
    cases hc : C.contains c with
    | true =>
      rw [if_pos rfl]
      have : M.find? (fun a => decide ((!C.contains a.1) = true ∧ (a.1 == c) = true)) = none := List.find?_eq_none.2 (fun r _ h => by
        have h := of_decide_eq_true h
        have e := beq_iff_eq.1 h.2
        rw [e, hc] at h
        exact absurd h.1 (by decide))
      rw [this]; rfl
    | false =>
      rw [if_neg (by decide)]
      congr 2
      funext a
      by_cases h : a.1 = c
      · rw [h, hc]; simp
      · have : (a.1 == c) = false := beq_eq_false_iff_ne.2 h
        rw [this]
        exact decide_eq_false (fun h => by cases h.2)
  cases hc : C.contains c
  · rw [hc] at e
    exact ⟨rfl, by simpa using e⟩
  · rw [hc] at e
    rw [e] at h
    cases h
theorem clean {M : List R} {C : List Int} (h : ∀ x, x ∈ C ↔ x ∈ raw M) : raw (wout M C) = [] := by
  refine List.eq_nil_iff_forall_not_mem.2 fun x hx => ?_
  have nC : ∀ {c : Int}, C.contains c = false → c ∉ C := fun hf hm => by rw [List.contains_iff_mem.2 hm] at hf; cases hf
  simp only [raw, List.mem_append] at hx
  rcases hx with (hx | hx) | hx
  · obtain ⟨r, h1, h2, h3⟩ := mem_bads.1 hx
    obtain ⟨h4, h5⟩ := List.mem_filter.1 h1
    have h6 : r.1 ∈ C := (h r.1).2 (by simp only [raw, List.mem_append]; exact .inl (.inl (mem_bads.2 ⟨r, h4, h2, rfl⟩)))
    simp [h6] at h5
  · by_cases hw : wet (wout M C) = true
    · have hw' := hw
      simp only [wet, Bool.and_eq_true, decide_eq_true_eq] at hw'
      obtain ⟨⟨a, b⟩, c⟩ := hw'
      obtain ⟨a1, a2⟩ := fnd_wout' M C 2 a
      obtain ⟨b1, b2⟩ := fnd_wout' M C 3 b
      rw [a2, b2] at c
      rw [a2] at a
      rw [b2] at b
      have : wet M = true := by simp only [wet, Bool.and_eq_true, decide_eq_true_eq]; exact ⟨⟨a, b⟩, c⟩
      exact nC a1 ((h 2).2 (by simp [raw, this]))
    · rw [if_neg hw] at hx; cases hx
  · by_cases hw : storm (wout M C) = true
    · have hw' := hw
      simp only [storm, Bool.and_eq_true, decide_eq_true_eq] at hw'
      obtain ⟨⟨a, b⟩, c⟩ := hw'
      obtain ⟨a1, a2⟩ := fnd_wout' M C 4 a
      obtain ⟨b1, b2⟩ := fnd_wout' M C 5 b
      rw [a2, b2] at c
      rw [a2] at a
      rw [b2] at b
      have : storm M = true := by simp only [storm, Bool.and_eq_true, decide_eq_true_eq]; exact ⟨⟨a, b⟩, c⟩
      exact nC a1 ((h 4).2 (by simp [raw, this]))
    · rw [if_neg hw] at hx; cases hx
/-- Why a reading of an ascending list is rejected. -/
def reason (M : List R) (r : R) : Bool := (!gr r.1 r.2 || wet M && (r.1 == 2 || r.1 == 3)) || storm M && (r.1 == 4 || r.1 == 5)
theorem asc_one {M : List R} (h : M.Pairwise (fun a b : R => a.1 < b.1)) {r s : R} (hr : r ∈ M) (hs : s ∈ M) (e : r.1 = s.1) : r = s := by
  obtain ⟨i, hi, rfl⟩ := List.getElem_of_mem hr
  obtain ⟨j, hj, rfl⟩ := List.getElem_of_mem hs
  rcases Nat.lt_trichotomy i j with q | q | q
  · have := List.pairwise_iff_getElem.1 h i j hi hj q; omega
  · subst q; rfl
  · have := List.pairwise_iff_getElem.1 h j i hj hi q; omega
theorem reason_in {M : List R} {C : List Int} (hC : Ck M C) (h : M.Pairwise (fun a b : R => a.1 < b.1)) {r : R} (hr : r ∈ M) : C.contains r.1 = reason M r := by
  have hb : r.1 ∈ bads M ↔ gr r.1 r.2 = false := mem_bads.trans ⟨fun ⟨s, h1, h2, h3⟩ => by rwa [asc_one h h1 hr h3] at h2, fun hg => ⟨r, hr, hg, rfl⟩⟩
  have hi : r.1 ∈ C ↔ reason M r = true := by
    rw [hC.mem]
    simp only [raw, List.mem_append, hb, reason, Bool.or_eq_true, Bool.and_eq_true, Bool.not_eq_true', beq_iff_eq]
    refine or_congr (or_congr Iff.rfl ?_) ?_
    · cases wet M <;> simp
    · cases storm M <;> simp
  by_cases hx : r.1 ∈ C
  · rw [List.contains_iff_mem.2 hx, hi.1 hx]
  · have h1 : C.contains r.1 = false := by cases hc : C.contains r.1; rfl; exact absurd (List.contains_iff_mem.1 hc) hx
    have h2 : reason M r = false := by cases hc : reason M r; rfl; exact absurd (hi.2 hc) hx
    rw [h1, h2]
theorem raw_one (r : R) : raw [r] = if gr r.1 r.2 then [] else [r.1] := by
  have one : ∀ c, (fnd [r] c).isSome = true → r.1 = c := fun c h => by
    cases hc : fnd [r] c with
    | none => rw [hc] at h; cases h
    | some v =>
      unfold fnd at hc
      obtain ⟨x, hx, -⟩ := Option.map_eq_some_iff.1 hc
      have h1 := List.find?_some hx
      have h2 := List.mem_of_find?_eq_some hx
      obtain rfl := List.mem_singleton.1 h2
      simpa using h1
  have w : wet [r] = false := by
    cases hw : wet [r] with
    | false => rfl
    | true =>
      simp only [wet, Bool.and_eq_true] at hw
      have a := one 2 hw.1.1
      have b := one 3 hw.1.2
      omega
  have s : storm [r] = false := by
    cases hw : storm [r] with
    | false => rfl
    | true =>
      simp only [storm, Bool.and_eq_true] at hw
      have a := one 4 hw.1.1
      have b := one 5 hw.1.2
      omega
  unfold raw bads
  rw [w, s]
  cases hg : gr r.1 r.2 <;> simp [List.filter, hg]

/-! A sorted list without the repeated ones. -/
theorem compact_up {d : Array Int} (hs : ∀ i j, i < j → j < d.size → d[i]! ≤ d[j]!) : ∀ m, m ≤ d.size → (Lib.compactUpTo d m).Pairwise (fun x y => x < y) ∧ ∀ x, x ∈ Lib.compactUpTo d m ↔ ∃ j, j < m ∧ d[j]! = x
  | 0, _ => ⟨by simp [Lib.compactUpTo], fun x => by simp [Lib.compactUpTo]⟩
  | m + 1, hm => by
    obtain ⟨h1, h2⟩ := compact_up hs m (by omega)
    rw [Lib.compactUpTo_succ]
    by_cases hk : m = 0 ∨ d[m]! ≠ d[m - 1]!
    · rw [if_pos (show Lib.keeps d m = true from decide_eq_true hk)]
      refine ⟨List.pairwise_append.2 ⟨h1, by simp, fun x hx y hy => ?_⟩, fun x => ?_⟩
      · obtain ⟨j, hj, rfl⟩ := (h2 x).1 hx
        obtain rfl := List.mem_singleton.1 hy
        rcases hk with q | q
        · omega
        · have a1 := hs (m - 1) m (by omega) (by omega)
          rcases (by omega : j = m - 1 ∨ j < m - 1) with e | e
          · subst e; omega
          · have := hs j (m - 1) e (by omega); omega
      · rw [List.mem_append, h2, List.mem_singleton]
        constructor
        · rintro (⟨j, hj, e⟩ | rfl)
          · exact ⟨j, by omega, e⟩
          · exact ⟨m, by omega, rfl⟩
        · rintro ⟨j, hj, e⟩
          rcases (by omega : j < m ∨ j = m) with q | rfl
          · exact .inl ⟨j, q, e⟩
          · exact .inr e.symm
    · rw [if_neg (by rw [show Lib.keeps d m = false from decide_eq_false hk]; decide), List.append_nil]
      refine ⟨h1, fun x => (h2 x).trans ⟨fun ⟨j, hj, e⟩ => ⟨j, by omega, e⟩, fun ⟨j, hj, e⟩ => ?_⟩⟩
      rcases (by omega : j < m ∨ j = m) with q | rfl
      · exact ⟨j, q, e⟩
      · have h0 : ¬ j = 0 := fun h => hk (.inl h)
        have h3 : d[j]! = d[j - 1]! := Classical.byContradiction fun h => hk (.inr h)
        exact ⟨j - 1, by omega, by rw [← h3]; exact e⟩
theorem compact_sorted {l : List Int} (hs : l.Pairwise (fun x y => x ≤ y)) : (Lib.compact l).Pairwise (fun x y => x < y) ∧ ∀ x, x ∈ Lib.compact l ↔ x ∈ l := by
  have h := compact_up (d := l.toArray) (fun i j hij hj => by
    have hj' : j < l.length := by simpa using hj
    rw [getElem!_pos l.toArray i (by simp; omega), getElem!_pos l.toArray j hj]
    simpa using List.pairwise_iff_getElem.1 hs i j (by omega) hj' hij) l.length (by simp)
  refine ⟨by simpa [Lib.compact] using h.1, fun x => ?_⟩
  have h2 := h.2 x
  have e : Lib.compact l = Lib.compactUpTo l.toArray l.length := by simp [Lib.compact]
  rw [e, h2]
  constructor
  · rintro ⟨j, hj, rfl⟩
    rw [getElem!_pos l.toArray j (by simpa using hj)]
    simp
  · intro hx
    obtain ⟨i, hi, rfl⟩ := List.getElem_of_mem hx
    exact ⟨i, hi, by rw [getElem!_pos l.toArray i (by simpa using hi)]; simp⟩
end Go.Proofs.YtngbjccfmglbaaaDoor.Lm


