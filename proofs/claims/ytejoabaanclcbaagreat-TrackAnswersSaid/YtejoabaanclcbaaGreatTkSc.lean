/- The reference's Suspects, its groups in plain lists. -/
import Derived.Test.YtejoabaanclcbaaGreatTkSa
namespace Go.Proofs.YtejoabaanclcbaaGreat.Tk
open Go.RowKit Go.Maps

/-- The group of a name among the reports from i on, before q. -/
structure OgTo (R : List Rq) (nm : ByteArray) (i q : Nat) (O : List Nat) : Prop where
  mem : ∀ k, k ∈ O ↔ (i ≤ k ∧ k < q) ∧ sk R k = true ∧ (sg R k).nm = nm
  asc : (O.map (sg R)).Pairwise (fun x y => x.t < y.t)
theorem ogto_nil (R : List Rq) (nm : ByteArray) (i : Nat) : OgTo R nm i i [] := ⟨fun k => ⟨fun h => (by cases h), fun h => (by omega)⟩, List.Pairwise.nil⟩
theorem ogto_skip {R : List Rq} {nm : ByteArray} {i q : Nat} {O : List Nat} (h : OgTo R nm i q O) (hn : ¬ (sk R q = true ∧ (sg R q).nm = nm)) : OgTo R nm i (q + 1) O :=
  ⟨fun k => by
    rw [h.mem k]
    constructor
    · rintro ⟨a, b⟩; exact ⟨by omega, b⟩
    · rintro ⟨a, b⟩
      rcases (by omega : k < q ∨ k = q) with hk | rfl
      · exact ⟨by omega, b⟩
      · exact absurd b hn, h.asc⟩
theorem ogto_ins {R : List Rq} {nm : ByteArray} {i q p : Nat} {O : List Nat} (h : OgTo R nm i q O) (hiq : i ≤ q) (hk : sk R q = true) (hn : (sg R q).nm = nm) (hd : ∀ b, b < q → dup R q b = false)
    (h1 : ∀ a, ∀ ha : a < O.length, a < p → (sg R O[a]).t < (sg R q).t) (h2 : ∀ hp : p < O.length, ¬ (sg R O[p]).t < (sg R q).t) : OgTo R nm i (q + 1) (O.take p ++ q :: O.drop p) := by
  have hne : ∀ k ∈ O, (sg R k).t ≠ (sg R q).t := fun k hkO e => by
    obtain ⟨⟨a, b⟩, c, d⟩ := (h.mem k).1 hkO
    have := hd k b
    unfold dup at this
    rw [hk, c, d, hn, e] at this
    simp at this
  refine ⟨fun k => ?_, ?_⟩
  · have e : k ∈ O.take p ++ q :: O.drop p ↔ k = q ∨ k ∈ O := by
      conv => rhs; rw [← List.take_append_drop p O]
      simp only [List.mem_append, List.mem_cons]
      constructor
      · rintro (a | a | a)
        · exact .inr (.inl a)
        · exact .inl a
        · exact .inr (.inr a)
      · rintro (a | a | a)
        · exact .inr (.inl a)
        · exact .inl a
        · exact .inr (.inr a)
    rw [e, h.mem k]
    constructor
    · rintro (rfl | ⟨a, b⟩)
      · exact ⟨by omega, hk, hn⟩
      · exact ⟨by omega, b⟩
    · rintro ⟨a, b⟩
      rcases (by omega : k = q ∨ k < q) with rfl | hlt
      · exact .inl rfl
      · exact .inr ⟨by omega, b⟩
  · have hp := List.pairwise_map.1 h.asc
    have htake : ∀ x ∈ O.take p, (sg R x).t < (sg R q).t := fun x hx => by
      obtain ⟨a, ha, rfl⟩ := List.getElem_of_mem hx
      rw [List.length_take] at ha
      rw [List.getElem_take]
      exact h1 a (by omega) (by omega)
    have hdrop : ∀ x ∈ O.drop p, (sg R q).t < (sg R x).t := fun x hx => by
      obtain ⟨a, ha, rfl⟩ := List.getElem_of_mem hx
      rw [List.length_drop] at ha
      rw [List.getElem_drop]
      have b1 := h2 (by omega)
      have b2 : (sg R (O[p]'(by omega))).t ≠ (sg R q).t := hne _ (List.getElem_mem _)
      rcases Nat.eq_zero_or_pos a with rfl | ha0
      · simp only [Nat.add_zero]; omega
      · have b3 := List.pairwise_iff_getElem.1 hp p (p + a) (by omega) (by omega) (by omega)
        omega
    refine List.pairwise_map.2 (List.pairwise_append.2 ⟨hp.sublist (List.take_sublist _ _), List.pairwise_cons.2 ⟨hdrop, hp.sublist (List.drop_sublist _ _)⟩, fun a ha b hb => ?_⟩)
    have := htake a ha
    rcases List.mem_cons.1 hb with rfl | hb
    · exact this
    · have := hdrop b hb; omega
theorem ogto_full {R : List Rq} {nm : ByteArray} {i : Nat} {O : List Nat} (h : OgTo R nm i R.length O) (hi : ∀ j, j < i → sk R j = true → (sg R j).nm ≠ nm) : Og R nm O :=
  ⟨fun k => by
    rw [h.mem k]
    constructor
    · exact fun a => a.2
    · rintro ⟨a, b⟩
      refine ⟨⟨Nat.le_of_not_lt fun hk => hi k hk a b, sk_lt a⟩, a, b⟩, h.asc⟩
theorem ogto_len {R : List Rq} {nm : ByteArray} {i q : Nat} {O : List Nat} (h : OgTo R nm i q O) (hq : q ≤ R.length) : O.length ≤ R.length := by
  have hn : O.Nodup := (List.pairwise_map.1 h.asc).imp fun h e => by subst e; omega
  have hs : O.Perm ((List.range R.length).filter (fun x => decide (x ∈ O))) := (List.perm_ext_iff_of_nodup hn (List.Pairwise.filter _ List.nodup_range)).2 fun x => by
    rw [List.mem_filter, List.mem_range, decide_eq_true_iff]
    exact ⟨fun hx => ⟨by have := ((h.mem x).1 hx).1; omega, hx⟩, fun hx => hx.2⟩
  have h1 := hs.length_eq
  have h2 := List.length_filter_le (fun x => decide (x ∈ O)) (List.range R.length)
  rw [List.length_range] at h2
  omega
theorem nm_ne {x y : ByteArray} (h : x ≠ y) : (x.toList == y.toList) = false := beq_eq_false_iff_ne.2 fun e => h (ByteArray.ext (Array.toList_inj.1 (by rwa [ByteArray.toList_eq, ByteArray.toList_eq] at e)))
/-- What is done, what is bad, between the rounds. -/
structure Dd (h : Int) (R : List Rq) (i : Nat) (Bd Dn : Nat → Bool) : Prop where
  dn : ∀ z, z < R.length → (Dn z = true ↔ sk R z = true ∧ ∃ j, j < i ∧ sk R j = true ∧ (sg R j).nm = (sg R z).nm)
  bd : ∀ z, z < R.length → (Bd z = true ↔ Dn z = true ∧ sus1 h R z)
  og : ∀ j, j < i → sk R j = true → ∃ O, Og R (sg R j).nm O
theorem dd_zero (h : Int) (R : List Rq) : Dd h R 0 (fun _ => false) (fun _ => false) := ⟨fun z _ => ⟨fun e => (by cases e), fun e => (by obtain ⟨-, j, hj, -⟩ := e; omega)⟩, fun z _ => ⟨fun e => (by cases e), fun e => (by cases e.1)⟩, fun j hj => (by omega)⟩
theorem dd_skip {h : Int} {R : List Rq} {i : Nat} {Bd Dn : Nat → Bool} (H : Dd h R i Bd Dn) (hi : i < R.length) (hs : sk R i = false ∨ Dn i = true) : Dd h R (i + 1) Bd Dn := by
  have key : ∀ z, (sk R i = true ∧ (sg R i).nm = (sg R z).nm) → ∃ j, j < i ∧ sk R j = true ∧ (sg R j).nm = (sg R z).nm := fun z ⟨a, b⟩ => by
    rcases hs with hs | hs
    · rw [hs] at a; cases a
    · obtain ⟨-, j, h1, h2, h3⟩ := (H.dn i hi).1 hs
      exact ⟨j, h1, h2, h3.trans b⟩
  refine ⟨fun z hz => ?_, H.bd, fun j hj hsj => ?_⟩
  · rw [H.dn z hz]
    constructor
    · rintro ⟨a, j, h1, h2⟩; exact ⟨a, j, by omega, h2⟩
    · rintro ⟨a, j, h1, h2, h3⟩
      rcases (by omega : j < i ∨ j = i) with hj | rfl
      · exact ⟨a, j, hj, h2, h3⟩
      · exact ⟨a, key z ⟨h2, h3⟩⟩
  · rcases (by omega : j < i ∨ j = i) with hj | rfl
    · exact H.og j hj hsj
    · obtain ⟨k, h1, h2, h3⟩ := key j ⟨hsj, rfl⟩
      obtain ⟨O, hO⟩ := H.og k h1 h2
      exact ⟨O, by rw [← h3]; exact hO⟩
/-- A group is done. -/
theorem dd_next {h : Int} {R : List Rq} {i : Nat} {Bd Dn Bd' Dn' : Nat → Bool} {O ch : List Nat} (H : Dd h R i Bd Dn) (hsi : sk R i = true) (hO : Og R (sg R i).nm O) (hb : Best O.length (pL h (O.map (sg R))) ch)
    (hdn : ∀ z, z < R.length → (Dn' z = true ↔ Dn z = true ∨ z ∈ O)) (hbd : ∀ z, z < R.length → (Bd' z = true ↔ (z ∈ O ∧ z ∉ ch.map (fun j => (O[j]?).getD 0)) ∨ (z ∉ O ∧ Bd z = true))) : Dd h R (i + 1) Bd' Dn' := by
  refine ⟨fun z hz => ?_, fun z hz => ?_, fun j hj hsj => ?_⟩
  · rw [hdn z hz, H.dn z hz, hO.mem z]
    constructor
    · rintro (⟨a, j, h1, h2⟩ | ⟨a, b⟩)
      · exact ⟨a, j, by omega, h2⟩
      · exact ⟨a, i, by omega, hsi, b.symm⟩
    · rintro ⟨a, j, h1, h2, h3⟩
      rcases (by omega : j < i ∨ j = i) with hj | rfl
      · exact .inl ⟨a, j, hj, h2, h3⟩
      · exact .inr ⟨a, h3.symm⟩
  · rw [hbd z hz, hdn z hz]
    by_cases hzO : z ∈ O
    · have hz2 := (hO.mem z).1 hzO
      have hO2 : Og R (sg R z).nm O := by rw [hz2.2]; exact hO
      have e := sus1_iff hO2 hb
      rw [ixs_og (best_lt hb)] at e
      constructor
      · rintro (⟨-, b⟩ | ⟨b, -⟩)
        · exact ⟨.inr hzO, e.2 b⟩
        · exact absurd hzO b
      · rintro ⟨-, b⟩
        exact .inl ⟨hzO, e.1 b⟩
    · rw [H.bd z hz]
      constructor
      · rintro (⟨a, -⟩ | ⟨-, a, b⟩)
        · exact absurd a hzO
        · exact ⟨.inl a, b⟩
      · rintro ⟨a | a, b⟩
        · exact .inr ⟨hzO, a, b⟩
        · exact absurd a hzO
  · rcases (by omega : j < i ∨ j = i) with hj | rfl
    · exact H.og j hj hsj
    · exact ⟨O, hO⟩
/-- The answer at the end. -/
theorem dd_end {h : Int} {R : List Rq} {Bd Dn : Nat → Bool} (hh : 0 ≤ h ∧ h ≤ 1000) (ho : oks sea R) (H : Dd h R R.length Bd Dn) : SusT h R ((List.range R.length).filter Bd) 0 := by
  refine sus_list hh ho (fun i hi => H.og i (sk_lt hi) hi) (List.Pairwise.filter _ List.pairwise_lt_range) fun i => ?_
  rw [List.mem_filter, List.mem_range]
  constructor
  · rintro ⟨a, b⟩
    obtain ⟨c, d⟩ := (H.bd i a).1 b
    exact ⟨((H.dn i a).1 c).1, d⟩
  · rintro ⟨a, b⟩
    have hi := sk_lt a
    exact ⟨hi, (H.bd i hi).2 ⟨(H.dn i hi).2 ⟨a, i, hi, a, rfl⟩, b⟩⟩
def rl0 : Rq := ⟨1, ⟨#[]⟩, 0, 0, 0, 0, 0, none, 0, 0⟩
abbrev Bt (w : World) (g m : Nat) (S : Nat → Bool) : Prop := Go.Proofs.YtejoabaanclcbaaGreat.Bs w g m S
theorem bt_put {Y : World} {g m : Nat} {S : Nat → Bool} (h : Bt Y g m S) (i : Nat) (u : Bool) : Bt (Y.setCell ⟨g, i, none⟩ (.bool u)) g m (fun x => if x = i then u else S x) := by
  obtain ⟨cs, h1, h2, h3⟩ := h
  refine ⟨cs.setIfInBounds i (.bool u), h1.put i _, by simpa using h2, fun z hz => ?_⟩
  by_cases hzi : z = i
  · subst hzi
    rw [Array.getElem?_setIfInBounds, if_pos rfl, if_pos (by omega)]
    simp
  · rw [Array.getElem?_setIfInBounds, if_neg (fun e => hzi e.symm), h3 z hz]
    simp [hzi]
theorem bt_far {Y : World} {g m : Nat} {S : Nat → Bool} (h : Bt Y g m S) {b j : Nat} (hb : b ≠ g) (u : Value) : Bt (Y.setCell ⟨b, j, none⟩ u) g m S := by
  obtain ⟨cs, h1, h2, h3⟩ := h
  exact ⟨cs, h1.far (p := ⟨b, j, none⟩) hb u, h2, h3⟩
/-- The two lists of truths in memory. -/
structure Sd (W2 : World) (n : Nat) (Bd Dn : Nat → Bool) (Y : World) : Prop where
  b : Below W2.heap.size W2 Y
  bad : Bt Y W2.heap.size n Bd
  done : Bt Y (W2.heap.size + 1) n Dn
theorem Sd.under {W2 Y Y' : World} {n : Nat} {Bd Dn : Nat → Bool} (h : Sd W2 n Bd Dn Y) (hb : Below Y.heap.size Y Y') : Sd W2 n Bd Dn Y' := ⟨h.b.trans (hb.mono h.b.size), h.bad.under hb, h.done.under hb⟩
theorem Sd.grown {W2 Y Y' : World} {n : Nat} {Bd Dn : Nat → Bool} (h : Sd W2 n Bd Dn Y) {B : Nat} (hb : Below B Y Y') (hB : W2.heap.size + 2 ≤ B) : Sd W2 n Bd Dn Y' := by
  obtain ⟨c1, a1, a2, a3⟩ := h.bad
  obtain ⟨c2, b1, b2, b3⟩ := h.done
  exact ⟨h.b.trans (hb.mono (by omega)), ⟨c1, (hb.block _ (by omega)).trans a1, a2, a3⟩, ⟨c2, (hb.block _ (by omega)).trans b1, b2, b3⟩⟩
theorem Sd.setD {W2 Y : World} {n : Nat} {Bd Dn : Nat → Bool} (h : Sd W2 n Bd Dn Y) (i : Nat) (u : Bool) : Sd W2 n Bd (fun x => if x = i then u else Dn x) (Y.setCell ⟨W2.heap.size + 1, i, none⟩ (.bool u)) :=
  ⟨h.b.setCell (p := ⟨W2.heap.size + 1, i, none⟩) (by simp only; omega) _, bt_far h.bad (by omega) _, bt_put h.done i u⟩
theorem Sd.setB {W2 Y : World} {n : Nat} {Bd Dn : Nat → Bool} (h : Sd W2 n Bd Dn Y) (i : Nat) (u : Bool) : Sd W2 n (fun x => if x = i then u else Bd x) Dn (Y.setCell ⟨W2.heap.size, i, none⟩ (.bool u)) :=
  ⟨h.b.setCell (p := ⟨W2.heap.size, i, none⟩) (Nat.le_refl _) _, bt_put h.bad i u, bt_far h.done (by omega) _⟩
theorem Sd.lt {W2 Y : World} {n : Nat} {Bd Dn : Nat → Bool} (h : Sd W2 n Bd Dn Y) : W2.heap.size + 2 ≤ Y.heap.size := by
  have := h.done.lt
  omega
theorem sd_made (W2 : World) (n : Nat) : Sd W2 n (fun _ => false) (fun _ => false) ((W2.alloc (.cells (madeCells #[.bool false] n) 4)).alloc (.cells (madeCells #[.bool false] n) 4)) := by
  have e : (W2.alloc (.cells (madeCells #[.bool false] n) 4)).heap.size = W2.heap.size + 1 := by simp
  refine ⟨((Below.refl _ _).alloc (Nat.le_refl _) _).alloc (by simp) _, (bs_made W2 n).under ((Below.refl _ _).alloc (Nat.le_refl _) _), ?_⟩
  have := bs_made (W2.alloc (.cells (madeCells #[.bool false] n) 4)) n
  rwa [e] at this
theorem own_weak {w : World} {b b' size n : Nat} {e : TypeId} {v : Value} {xs : List Value} (h : w.ownsRow b e size v n xs) (hb : b' ≤ b) : w.ownsRow b' e size v n xs := by
  refine ⟨h.1, ?_⟩
  rcases h.2 with h0 | ⟨g, cap, cur, rfl, h1, h3⟩
  · exact .inl h0
  · exact .inr ⟨g, cap, cur, rfl, Nat.le_trans hb h1, h3⟩
theorem own_far {w : World} {b size n g j : Nat} {e : TypeId} {v x : Value} {xs : List Value} (h : w.ownsRow b e size v n xs) (hg : g < b) : (w.setCell ⟨g, j, none⟩ x).ownsRow b e size v n xs :=
  own_keep h fun i hi => Below.heap_setCell w ⟨g, j, none⟩ x i (by have := (own_lt h hi).1; simp only; omega)
theorem ic_len (l : List Nat) : (ic l).length = l.length * 1 := by unfold ic; rw [List.length_map]; omega
theorem ic_app (A B : List Nat) : ic (A ++ B) = ic A ++ ic B := List.map_append
theorem ic_cells {w : World} {base n m c g : Nat} {l : List Nat} (h : w.ownsRow base 3 1 (.slice (some ⟨g, 0, none⟩) m c) n (ic l)) : ∀ (j : Nat) (u : Value), (ic l)[j]? = some u → w.cell? ⟨g, j, none⟩ = some u := by
  intro j u hu
  have hj := (List.getElem?_eq_some_iff.1 hu).1
  have hl := h.1
  rcases h.2 with ⟨e, -⟩ | ⟨g', cap, cur, e, h1, h2, h3, h4, h5, h6⟩
  · cases e
  · injection e with e1 e2 e3
    injection e1 with e1
    injection e1 with e1
    subst e1
    have e4 : w.cell? ⟨g, j, none⟩ = cur[j]? := by simp [World.cell?, h2]
    rw [e4, ← hu, ← h6, List.getElem?_take, if_pos (by omega), Array.getElem?_toList]
theorem ic_cut {l : List Nat} (k : Nat) : ∀ (j : Nat) (u : Value), (ic (l.drop k))[j]? = some u → (ic l)[k + j]? = some u := by
  intro j u hu
  unfold ic at hu ⊢
  rw [List.getElem?_map, List.getElem?_drop] at hu
  rw [List.getElem?_map]
  exact hu
theorem ic_beg {l : List Nat} (k : Nat) : ∀ (j : Nat) (u : Value), (ic (l.take k))[j]? = some u → (ic l)[j]? = some u := by
  intro j u hu
  have hj := (List.getElem?_eq_some_iff.1 hu).1
  rw [ic_len, List.length_take] at hj
  unfold ic at hu ⊢
  rw [List.getElem?_map, List.getElem?_take, if_pos (by omega)] at hu
  rw [List.getElem?_map]
  exact hu
theorem ic_some {w : World} {base n : Nat} {v : Value} {C : List Nat} (h : w.ownsRow base 3 1 v n (ic C)) (hn : 0 < n) : ∃ g cap, v = .slice (some ⟨g, 0, none⟩) n cap ∧ g < w.heap.size ∧ (∀ (j : Nat) (u : Value), (ic C)[j]? = some u → w.cell? ⟨g, j, none⟩ = some u) ∧ cap ≤ maxLen ∧ n ≤ cap ∧ base ≤ g := by
  have h' := h
  rcases h.2 with ⟨_, h0⟩ | ⟨g, cap, cur, rfl, hb, hh, hle, hmax, _, _⟩
  · omega
  · exact ⟨g, cap, rfl, (Array.getElem?_eq_some_iff.1 hh).1, ic_cells h', hmax, hle, hb⟩
/-- Chains of a group by its reports. -/
theorem pR_grp {h : Int} {R : List Rq} {O : List Nat} (hO : ∀ k ∈ O, k < R.length) {l : List Rq} (hl : l = O.map (fun k => (R[k]?).getD rl0)) : ∀ i j, i < j → j < O.length → pR h l i j = pL h (O.map (sg R)) i j := fun i j hij hj => by
  subst hl
  have hi : i < O.length := by omega
  rw [pR_at (by simpa using hi) (by simpa using hj), pL_at (by simpa using hi) (by simpa using hj)]
  simp only [List.getElem_map]
  rw [sg_at (hO _ (List.getElem_mem hi)), sg_at (hO _ (List.getElem_mem hj)), List.getElem?_eq_getElem (hO _ (List.getElem_mem hi)), List.getElem?_eq_getElem (hO _ (List.getElem_mem hj))]
  rfl
/-- What is true below i. -/
def bls (B : Nat → Bool) (i : Nat) : List Nat := (List.range i).filter B
theorem bls_no {B : Nat → Bool} {i : Nat} (h : B i = false) : bls B (i + 1) = bls B i := by unfold bls; rw [List.range_succ, List.filter_append]; simp [h]
theorem bls_yes {B : Nat → Bool} {i : Nat} (h : B i = true) : bls B (i + 1) = bls B i ++ [i] := by unfold bls; rw [List.range_succ, List.filter_append]; simp [h]
theorem bls_len (B : Nat → Bool) (i : Nat) : (bls B i).length ≤ i := by
  unfold bls
  have := List.length_filter_le B (List.range i)
  rwa [List.length_range] at this
/-- The reports of a group. -/
def pg (R : List Rq) (O : List Nat) : List Rq := O.map fun k => (R[k]?).getD rl0
theorem pg_len (R : List Rq) (O : List Nat) : (pg R O).length = O.length := List.length_map _
theorem pg_at {R : List Rq} {O : List Nat} {j : Nat} (hj : j < O.length) (hP : O[j] < R.length) : (pg R O)[j]'(by rw [pg_len]; exact hj) = R[O[j]] := by
  simp [pg, List.getElem?_eq_getElem hP]
theorem pg_take {R : List Rq} {O : List Nat} {j : Nat} (hj : j < O.length) (hP : O[j] < R.length) : rqc ((pg R O).take (j + 1)) = rqc ((pg R O).take j) ++ rqCells R[O[j]] := by
  rw [List.take_succ_eq_append_getElem (by rw [pg_len]; exact hj), pg_at hj hP]
  simp [rqc]
theorem pg_ok {R : List Rq} {O : List Nat} (ho : oks sea R) (hO : ∀ k ∈ O, sk R k = true) : ∀ r ∈ pg R O, okr r = true := fun r hr => by
  obtain ⟨k, hk, rfl⟩ := List.mem_map.1 hr
  have h1 := hO k hk
  have h2 := sk_lt h1
  rw [List.getElem?_eq_getElem h2]
  rw [sk_at h2] at h1
  exact ho _ (List.getElem_mem h2) h1
/-- What is bad when the chain has been struck out. -/
theorem bq_end {O ch : List Nat} {Bd Bq : Nat → Bool} {n : Nat} (h : ∀ z, z < n → (Bq z = true ↔ (Bd z = true ∨ z ∈ O) ∧ ¬ ∃ a, a < ch.length ∧ ∃ y, ch[a]? = some y ∧ O[y]? = some z)) (hc : ∀ y ∈ ch, y < O.length) :
    ∀ z, z < n → (Bq z = true ↔ (z ∈ O ∧ z ∉ ch.map (fun j => (O[j]?).getD 0)) ∨ (z ∉ O ∧ Bd z = true)) := fun z hz => by
  rw [h z hz]
  have key : (∃ a, a < ch.length ∧ ∃ y, ch[a]? = some y ∧ O[y]? = some z) ↔ z ∈ ch.map (fun j => (O[j]?).getD 0) := by
    rw [List.mem_map]
    constructor
    · rintro ⟨a, ha, y, h1, h2⟩
      exact ⟨y, List.mem_of_getElem? h1, by rw [h2]; rfl⟩
    · rintro ⟨y, hy, e⟩
      obtain ⟨a, ha, rfl⟩ := List.getElem_of_mem hy
      have h1 := hc _ hy
      rw [List.getElem?_eq_getElem h1] at e
      exact ⟨a, ha, _, List.getElem?_eq_getElem ha, by rw [List.getElem?_eq_getElem h1]; exact congrArg some e⟩
  rw [key]
  have hin : z ∈ ch.map (fun j => (O[j]?).getD 0) → z ∈ O := by
    rw [List.mem_map]
    rintro ⟨y, hy, rfl⟩
    have h1 := hc _ hy
    rw [List.getElem?_eq_getElem h1]
    exact List.getElem_mem h1
  constructor
  · rintro ⟨a | a, b⟩
    · by_cases hzO : z ∈ O
      · exact .inl ⟨hzO, b⟩
      · exact .inr ⟨hzO, a⟩
    · exact .inl ⟨a, b⟩
  · rintro (⟨a, b⟩ | ⟨a, b⟩)
    · exact ⟨.inr a, b⟩
    · exact ⟨.inl b, fun c => a (hin c)⟩
/-- The list with q put in at p. -/
def insQ (p q : Nat) (O : List Nat) : List Nat := O.take p ++ q :: O.drop p
theorem insQ_len {p q : Nat} {O : List Nat} (h : p ≤ O.length) : (insQ p q O).length = O.length + 1 := by unfold insQ; simp; omega
theorem insQ_mem {p q z : Nat} {O : List Nat} : z ∈ insQ p q O ↔ z = q ∨ z ∈ O := by
  unfold insQ
  conv => rhs; rw [← List.take_append_drop p O]
  simp only [List.mem_append, List.mem_cons]
  constructor
  · rintro (a | a | a)
    · exact .inr (.inl a)
    · exact .inl a
    · exact .inr (.inr a)
  · rintro (a | a | a)
    · exact .inr (.inl a)
    · exact .inl a
    · exact .inr (.inr a)
theorem ins_rel {W2 X0 X w3 : World} {n i q p m b : Nat} {R : List Rq} {nm : ByteArray} {O : List Nat} {Bd Dq Dn : Nat → Bool} {v : Value} (h1 : OgTo R nm i (q + 1) (insQ p q O)) (h2 : Sd W2 n Bd (fun x => if x = q then true else Dq x) X)
    (h3 : ∀ z, z < n → (Dq z = true ↔ Dn z = true ∨ z ∈ O)) (hb : Below X.heap.size X w3) (ho : w3.ownsRow b 3 1 v m (ic (insQ p q O))) (hm : m = (insQ p q O).length) (hbx : X0.heap.size ≤ b) (hx : X0.heap.size ≤ X.heap.size) :
    OgTo R nm i (q + 1) (insQ p q O) ∧ Sd W2 n Bd (fun x => if x = q then true else Dq x) w3 ∧ w3.ownsRow X0.heap.size 3 1 v (insQ p q O).length (ic (insQ p q O)) ∧ (∀ z, z < n → ((fun x => if x = q then true else Dq x) z = true ↔ Dn z = true ∨ z ∈ insQ p q O)) ∧ X0.heap.size ≤ w3.heap.size ∧ (insQ p q O = [] → v = .slice none 0 0) := by
  subst hm
  refine ⟨h1, h2.under hb, own_weak ho hbx, fun z hz => ?_, Nat.le_trans hx hb.size, fun e => ?_⟩
  · rw [insQ_mem]
    by_cases hzq : z = q
    · subst hzq
      exact ⟨fun _ => .inr (.inl rfl), fun _ => if_pos rfl⟩
    · simp only [if_neg hzq]
      rw [h3 z hz]
      constructor
      · rintro (a | a)
        · exact .inl a
        · exact .inr (.inr a)
      · rintro (a | a | a)
        · exact .inl a
        · exact absurd a hzq
        · exact .inr a
  · exfalso
    unfold insQ at e
    simp at e
end Go.Proofs.YtejoabaanclcbaaGreat.Tk

