/- The reference's Suspects in plain lists: groups by names, what is done and what is bad. -/
import Derived.Test.YtejoabaanclcbaaGreatTkGa
import Derived.Test.YtejoabaanclcbaaGreatTkJ
namespace Go.Proofs.YtejoabaanclcbaaGreat.Tk
open Go.RowKit Go.Maps

theorem sorted_ex (L : List Sg) : ∃ L' : List Sg, L'.Perm L ∧ L'.Pairwise (fun x y => x.t ≤ y.t) := by
  refine ⟨L.mergeSort (fun x y => decide (x.t ≤ y.t)), List.mergeSort_perm _ _, ?_⟩
  have h := List.pairwise_mergeSort (le := fun x y : Sg => decide (x.t ≤ y.t)) (fun a b c h1 h2 => by
    have h1 := of_decide_eq_true h1
    have h2 := of_decide_eq_true h2
    exact decide_eq_true (by omega)) (fun a b => by
    rcases Int.le_total a.t b.t with h | h
    · simp [h]
    · simp [h]) L
  exact h.imp fun h => of_decide_eq_true h
/-- The report's sighting. -/
noncomputable def sg (R : List Rq) (i : Nat) : Sg := match R[i]? with
  | some r => ⟨r.nm, r.t, nod r.F r.A r.B r.C, i⟩
  | none => ⟨⟨#[]⟩, 0, 0, i⟩
def sk (R : List Rq) (i : Nat) : Bool := match R[i]? with
  | some r => sea r.k
  | none => false
theorem sg_at {R : List Rq} {i : Nat} (h : i < R.length) : sg R i = ⟨R[i].nm, R[i].t, nod R[i].F R[i].A R[i].B R[i].C, i⟩ := by unfold sg; rw [List.getElem?_eq_getElem h]
theorem sk_at {R : List Rq} {i : Nat} (h : i < R.length) : sk R i = sea R[i].k := by unfold sk; rw [List.getElem?_eq_getElem h]
theorem sk_lt {R : List Rq} {i : Nat} (h : sk R i = true) : i < R.length := by
  unfold sk at h
  rcases Nat.lt_or_ge i R.length with h1 | h1
  · exact h1
  · rw [List.getElem?_eq_none h1] at h; cases h
theorem sg_ix (R : List Rq) (i : Nat) : (sg R i).ix = i := by unfold sg; split <;> rfl
theorem sgl_eq : ∀ (R S : List Rq), sgl sea S.length R = ((List.range' S.length R.length).filter (sk (S ++ R))).map (sg (S ++ R))
  | [], S => by simp [sgl]
  | r :: R, S => by
    have ih := sgl_eq R (S ++ [r])
    rw [List.append_assoc, List.singleton_append, List.length_append, List.length_singleton] at ih
    simp only [sgl, List.length_cons, List.range'_succ]
    have e1 : sk (S ++ r :: R) S.length = sea r.k := by unfold sk; simp
    have e2 : sg (S ++ r :: R) S.length = ⟨r.nm, r.t, nod r.F r.A r.B r.C, S.length⟩ := by unfold sg; simp
    rw [List.filter_cons, e1]
    cases h : sea r.k
    · simp only [Bool.false_eq_true, if_false]; exact ih
    · simp only [if_true, List.map_cons, e2]; rw [ih]
theorem sgl_eq0 (R : List Rq) : sgl sea 0 R = ((List.range R.length).filter (sk R)).map (sg R) := by
  have h := sgl_eq R []
  simpa [List.range_eq_range'] using h
theorem sgl_mem {R : List Rq} {x : Sg} : x ∈ sgl sea 0 R ↔ ∃ i, sk R i = true ∧ x = sg R i := by
  rw [sgl_eq0, List.mem_map]
  constructor
  · rintro ⟨i, hi, rfl⟩
    exact ⟨i, (List.mem_filter.1 hi).2, rfl⟩
  · rintro ⟨i, hi, rfl⟩
    exact ⟨i, List.mem_filter.2 ⟨List.mem_range.2 (sk_lt hi), hi⟩, rfl⟩
/-- Two reports of one name and one time. -/
noncomputable def dup (R : List Rq) (i k : Nat) : Bool := (sk R i && sk R k) && (decide ((sg R i).nm = (sg R k).nm) && decide ((sg R i).t = (sg R k).t))
theorem sus_dup {h : Int} {R : List Rq} {i k : Nat} (hh : 0 ≤ h ∧ h ≤ 1000) (ho : oks sea R) (hki : k < i) (hd : dup R i k = true) : SusT h R [] 5 := by
  unfold dup at hd
  simp only [Bool.and_eq_true, decide_eq_true_eq] at hd
  obtain ⟨⟨h1, h2⟩, h3, h4⟩ := hd
  obtain ⟨L', p1, p2⟩ := sorted_ex (sgl sea 0 R)
  refine .inr (.inl ⟨⟨hh, ho⟩, ⟨L', p1, p2, (sg R i).nm, fun ha => ?_⟩, rfl, rfl⟩)
  rw [asc_lt] at ha
  have hx : sg R i ∈ gr L' (sg R i).nm := List.mem_filter.2 ⟨p1.mem_iff.2 (sgl_mem.2 ⟨i, h1, rfl⟩), by simp⟩
  have hy : sg R k ∈ gr L' (sg R i).nm := List.mem_filter.2 ⟨p1.mem_iff.2 (sgl_mem.2 ⟨k, h2, rfl⟩), by simp [h3]⟩
  obtain ⟨a, ha1, ea⟩ := List.getElem_of_mem hx
  obtain ⟨b, hb1, eb⟩ := List.getElem_of_mem hy
  rcases Nat.lt_trichotomy a b with hab | hab | hab
  · have := List.pairwise_iff_getElem.1 ha a b ha1 hb1 hab
    rw [ea, eb] at this; omega
  · subst hab
    have := (sg_ix R i).symm.trans ((congrArg Sg.ix (ea.symm.trans eb)).trans (sg_ix R k))
    omega
  · have := List.pairwise_iff_getElem.1 ha b a hb1 ha1 hab
    rw [ea, eb] at this; omega
/-- A group: its indices, ascending by time. -/
structure Og (R : List Rq) (nm : ByteArray) (O : List Nat) : Prop where
  mem : ∀ k, k ∈ O ↔ sk R k = true ∧ (sg R k).nm = nm
  asc : (O.map (sg R)).Pairwise (fun x y => x.t < y.t)
theorem Og.nodup {R : List Rq} {nm : ByteArray} {O : List Nat} (h : Og R nm O) : O.Nodup := by
  have := List.pairwise_map.1 h.asc
  exact this.imp fun h e => by subst e; omega
theorem Og.grp {R : List Rq} {nm : ByteArray} {O : List Nat} (h : Og R nm O) {L' : List Sg} (p1 : L'.Perm (sgl sea 0 R)) (p2 : ascP (gr L' nm)) : gr L' nm = O.map (sg R) := by
  have hm : (O.map (sg R)).Perm (gr (sgl sea 0 R) nm) := by
    rw [sgl_eq0]
    unfold gr
    rw [List.filter_map, List.filter_filter]
    refine List.Perm.map _ ((List.perm_ext_iff_of_nodup h.nodup (List.Pairwise.filter _ List.nodup_range)).2 fun k => ?_)
    rw [h.mem k, List.mem_filter, List.mem_range]
    simp only [Function.comp, Bool.and_eq_true, decide_eq_true_eq]
    exact ⟨fun ⟨a, b⟩ => ⟨sk_lt a, b, a⟩, fun ⟨_, b, a⟩ => ⟨a, b⟩⟩
  have ha : ascP (O.map (sg R)) := asc_lt.2 h.asc
  exact asc_eq ((gr_perm p1 nm).trans hm.symm) ha p2
/-- What is suspect: by the best chain of the group. -/
def sus1 (h : Int) (R : List Rq) (k : Nat) : Prop := ∃ O ch, Og R (sg R k).nm O ∧ Best O.length (pL h (O.map (sg R))) ch ∧ k ∉ ixs (O.map (sg R)) ch
theorem og_one {R : List Rq} {nm : ByteArray} {O O' : List Nat} (h : Og R nm O) (h' : Og R nm O') : O = O' := by
  have hp : O.Perm O' := (List.perm_ext_iff_of_nodup h.nodup h'.nodup).2 fun k => (h.mem k).trans (h'.mem k).symm
  have e : O.map (sg R) = O'.map (sg R) := asc_eq (hp.map _) (asc_lt.2 h'.asc) (asc_lt.2 h.asc)
  have e2 := congrArg (List.map Sg.ix) e
  have e3 : Sg.ix ∘ sg R = id := by funext i; exact sg_ix R i
  rwa [List.map_map, List.map_map, e3, List.map_id, List.map_id] at e2
theorem sus1_iff {h : Int} {R : List Rq} {k : Nat} {O ch : List Nat} (ho : Og R (sg R k).nm O) (hb : Best O.length (pL h (O.map (sg R))) ch) : sus1 h R k ↔ k ∉ ixs (O.map (sg R)) ch := by
  constructor
  · rintro ⟨O', ch', a, b, c⟩
    obtain rfl := og_one ho a
    rwa [best_uniq hb b]
  · intro c
    exact ⟨O, ch, ho, hb, c⟩
theorem ixs_og {R : List Rq} {O ch : List Nat} (hc : ∀ x ∈ ch, x < O.length) : ixs (O.map (sg R)) ch = ch.map (fun j => (O[j]?).getD 0) := by
  unfold ixs
  refine List.map_congr_left fun x hx => ?_
  have := hc x hx
  simp [List.getElem?_eq_getElem this, sg_ix]
/-- The answer, where there is no error. -/
theorem sus_list {h : Int} {R : List Rq} {l : List Nat} (hh : 0 ≤ h ∧ h ≤ 1000) (ho : oks sea R) (hg : ∀ i, sk R i = true → ∃ O, Og R (sg R i).nm O) (hl : l.Pairwise (fun x y => x < y)) (hm : ∀ i, i ∈ l ↔ sk R i = true ∧ sus1 h R i) : SusT h R l 0 := by
  obtain ⟨L', p1, p2⟩ := sorted_ex (sgl sea 0 R)
  have hasc : ∀ k, ascP (gr L' k) := fun k => by
    rcases List.eq_nil_or_concat (gr L' k) with e | ⟨a, b, e⟩
    · rw [e]
      intro i h1 h2
      simp at h2
    · have hb : b ∈ gr L' k := by rw [e]; simp
      obtain ⟨hb1, hb2⟩ := List.mem_filter.1 hb
      obtain ⟨i, hi, rfl⟩ := sgl_mem.1 (p1.mem_iff.1 hb1)
      have hk : (sg R i).nm = k := of_decide_eq_true hb2
      obtain ⟨O, hO⟩ := hg i hi
      rw [hk] at hO
      have hm : (O.map (sg R)).Perm (gr (sgl sea 0 R) k) := by
        rw [sgl_eq0]
        unfold gr
        rw [List.filter_map, List.filter_filter]
        refine List.Perm.map _ ((List.perm_ext_iff_of_nodup hO.nodup (List.Pairwise.filter _ List.nodup_range)).2 fun k => ?_)
        rw [hO.mem k, List.mem_filter, List.mem_range]
        simp only [Function.comp, Bool.and_eq_true, decide_eq_true_eq]
        exact ⟨fun ⟨a, b⟩ => ⟨sk_lt a, b, a⟩, fun ⟨_, b, a⟩ => ⟨a, b⟩⟩
      exact asc_perm ((gr_perm p1 k).trans hm.symm) (gr_up p2 k) (asc_lt.2 hO.asc)
  refine .inr (.inr ⟨⟨hh, ho⟩, ⟨L', p1, p2, hasc, hl, fun i => ?_⟩, rfl⟩)
  rw [hm i]
  constructor
  · rintro ⟨hi, O, ch, a, b, c⟩
    refine ⟨sg R i, p1.mem_iff.2 (sgl_mem.2 ⟨i, hi, rfl⟩), sg_ix R i, ?_⟩
    rw [a.grp p1 (hasc _)]
    exact ⟨ch, by rw [List.length_map]; exact b, c⟩
  · rintro ⟨x, hx, e, ch, b, c⟩
    obtain ⟨j, hj, rfl⟩ := sgl_mem.1 (p1.mem_iff.1 hx)
    rw [sg_ix] at e
    subst e
    obtain ⟨O, hO⟩ := hg j hj
    rw [hO.grp p1 (hasc _)] at b c
    rw [List.length_map] at b
    exact ⟨hj, O, ch, hO, b, c⟩
end Go.Proofs.YtejoabaanclcbaaGreat.Tk

