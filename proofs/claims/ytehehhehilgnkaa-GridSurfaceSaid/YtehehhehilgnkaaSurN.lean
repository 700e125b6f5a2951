/- How often nodes are ends of edges, and edges sides of cells. -/
import Derived.Test.YtehehhehilgnkaaSurM
namespace Go.Proofs.Ytehehhehilgnkaa.Lat

theorem ends_succ {E : List (Nat × Nat)} {k : Nat} (hk : k < E.length) : ends (E.take (k + 1)) = (ends (E.take k) ++ [E[k].1]) ++ [E[k].2] := by
  unfold ends
  rw [List.take_succ_eq_append_getElem hk, List.flatMap_append]
  simp
theorem endsC_ec : ∀ {l : List (Nat × Nat)}, (∀ p ∈ l, p.2 < 1024) → endsC (l.map ec) = ends l
  | [], _ => rfl
  | p :: r, h => by
    have h1 := h p (by simp)
    have ih := endsC_ec (l := r) (fun q hq => h q (by simp [hq]))
    unfold endsC ends ec at *
    rw [List.map_cons, List.flatMap_cons, List.flatMap_cons, ih]
    congr 1
    have e1 : (p.1 * 1024 + p.2) / 1024 = p.1 := by omega
    have e2 : (p.1 * 1024 + p.2) % 1024 = p.2 := by omega
    rw [e1, e2]
theorem count_dgs (ad i : Nat) : ∀ k, (dgs ad k).count i = if i < k then (nbw ad i).length else 0
  | 0 => by simp [dgs]
  | k + 1 => by
    have ih := count_dgs ad i k
    unfold dgs at *
    rw [List.range_succ, List.flatMap_append, List.count_append, ih]
    simp only [List.flatMap_cons, List.flatMap_nil, List.append_nil]
    have hr : List.count i (List.replicate (nbw ad k).length k) = if k = i then (nbw ad k).length else 0 := by rw [List.count_replicate]; simp
    by_cases h2 : k = i
    · subst h2
      rw [hr, if_pos rfl, if_neg (Nat.lt_irrefl _), if_pos (Nat.lt_succ_self _), Nat.zero_add]
    · rw [hr, if_neg h2]
      by_cases h1 : i < k
      · rw [if_pos h1, if_pos (by omega)]; rfl
      · rw [if_neg h1, if_neg (by omega)]
section
variable {n : Nat} (h1 : 1 ≤ n) (h5 : n ≤ 5)
include h1 h5
theorem deg_all {i : Nat} (hi : i < 10 * n * n + 2) : (ends (edg n)).count i = (nbs n i).length := by
  have hn : frq n := ⟨h1, by omega⟩
  have hd := dd_all h1 h5
  simp only [chkD, Bool.and_eq_true] at hd
  have e := eqL_eq hd.1.1
  have hb : ∀ p ∈ edg n, p.2 < 1024 := fun p hp => by
    obtain ⟨a, b, c⟩ := edg_mem.1 (show (p.1, p.2) ∈ edg n from hp)
    have := (nbs_in hn a b).1
    rcases five_of h1 h5 with rfl | rfl | rfl | rfl | rfl <;> omega
  rw [← edW_eq, endsC_ec hb] at e
  rw [← (msort_perm (ends (edg n))).count_eq i, e, count_dgs, if_pos hi]
  rfl
theorem deg_56 {i : Nat} (hi : i < 10 * n * n + 2) : (nbs n i).length = 5 ∨ (nbs n i).length = 6 := by
  have hd := dd_all h1 h5
  simp only [chkD, Bool.and_eq_true] at hd
  have := allR_at hd.1.2 i hi
  rw [Bool.or_eq_true] at this
  rcases this with h | h
  · exact .inl (Nat.eq_of_beq_eq_true h)
  · exact .inr (Nat.eq_of_beq_eq_true h)
theorem deg_five : (List.range (10 * n * n + 2)).countP (fun i => Nat.beq (nbs n i).length 5) = 12 := by
  have hd := dd_all h1 h5
  simp only [chkD, Bool.and_eq_true] at hd
  exact Nat.eq_of_beq_eq_true hd.2
end
/-- An edge is a side of a cell. -/
def isd (t : Tr) (p : Nat × Nat) : Bool := decide (p = (t.1, t.2.1)) || (decide (p = (t.1, t.2.2)) || decide (p = (t.2.1, t.2.2)))
theorem isd_iff {t : Tr} {p : Nat × Nat} : isd t p = true ↔ (p.1 = t.1 ∧ p.2 = t.2.1) ∨ (p.1 = t.1 ∧ p.2 = t.2.2) ∨ (p.1 = t.2.1 ∧ p.2 = t.2.2) := by
  obtain ⟨a, b⟩ := p
  simp only [isd, Bool.or_eq_true, decide_eq_true_eq, Prod.mk.injEq]
theorem count3 {A B C a b : Nat} (h1 : A < B) (h2 : B < C) (h3 : C < 1024) (hb : b < 1024) : [A * 1024 + B, A * 1024 + C, B * 1024 + C].count (a * 1024 + b) = if isd (A, B, C) (a, b) = true then 1 else 0 := by
  have hi := isd_iff (t := (A, B, C)) (p := (a, b))
  simp only at hi
  simp only [List.count_cons, List.count_nil, beq_iff_eq]
  by_cases hq : isd (A, B, C) (a, b) = true
  · rw [if_pos hq]
    have hq' := hi.1 hq
    clear hi hq
    rcases hq' with ⟨rfl, rfl⟩ | ⟨rfl, rfl⟩ | ⟨rfl, rfl⟩
    · split <;> split <;> split <;> omega
    · split <;> split <;> split <;> omega
    · split <;> split <;> split <;> omega
  · rw [if_neg hq]
    have hq' := mt hi.2 hq
    clear hi hq
    split <;> split <;> split <;> omega
theorem sdc_perm (x y z : Nat) (h : x ≠ y ∧ y ≠ z ∧ x ≠ z) : ∃ A B C, scell (x, y, z) = (A, B, C) ∧ A < B ∧ B < C ∧ (C = x ∨ C = y ∨ C = z) ∧ (sdc (x, y, z)).Perm [A * 1024 + B, A * 1024 + C, B * 1024 + C] := by
  obtain ⟨h1, h2, h3⟩ := h
  have p1 : ∀ u v w : Nat, [u, v, w].Perm [u, w, v] := fun u v w => (List.Perm.swap w v []).cons u
  have p2 : ∀ u v w : Nat, [u, v, w].Perm [v, u, w] := fun u v w => List.Perm.swap v u [w]
  rcases Nat.lt_or_gt_of_ne h1 with a | a <;> rcases Nat.lt_or_gt_of_ne h2 with b | b <;> rcases Nat.lt_or_gt_of_ne h3 with c | c
  · refine ⟨x, y, z, ?_, a, b, by simp, ?_⟩
    · unfold scell; congr 1 <;> (try congr 1) <;> (simp only; omega)
    · unfold sdc; simp only
      rw [Nat.min_eq_left (Nat.le_of_lt a), Nat.max_eq_right (Nat.le_of_lt a), Nat.min_eq_left (Nat.le_of_lt b), Nat.max_eq_right (Nat.le_of_lt b), Nat.min_eq_left (Nat.le_of_lt c), Nat.max_eq_right (Nat.le_of_lt c)]
      exact p1 _ _ _
  · omega
  · refine ⟨x, z, y, ?_, c, b, by simp, ?_⟩
    · unfold scell; congr 1 <;> (try congr 1) <;> (simp only; omega)
    · unfold sdc; simp only
      rw [Nat.min_eq_left (Nat.le_of_lt a), Nat.max_eq_right (Nat.le_of_lt a), Nat.min_eq_right (Nat.le_of_lt b), Nat.max_eq_left (Nat.le_of_lt b), Nat.min_eq_left (Nat.le_of_lt c), Nat.max_eq_right (Nat.le_of_lt c)]
      exact (p1 _ _ _).trans ((p2 _ _ _).trans (List.Perm.refl _))
  · refine ⟨z, x, y, ?_, c, a, by simp, ?_⟩
    · unfold scell; congr 1 <;> (try congr 1) <;> (simp only; omega)
    · unfold sdc; simp only
      rw [Nat.min_eq_left (Nat.le_of_lt a), Nat.max_eq_right (Nat.le_of_lt a), Nat.min_eq_right (Nat.le_of_lt b), Nat.max_eq_left (Nat.le_of_lt b), Nat.min_eq_right (Nat.le_of_lt c), Nat.max_eq_left (Nat.le_of_lt c)]
      exact (p2 _ _ _).trans ((p1 _ _ _).trans (p2 _ _ _))
  · refine ⟨y, x, z, ?_, a, c, by simp, ?_⟩
    · unfold scell; congr 1 <;> (try congr 1) <;> (simp only; omega)
    · unfold sdc; simp only
      rw [Nat.min_eq_right (Nat.le_of_lt a), Nat.max_eq_left (Nat.le_of_lt a), Nat.min_eq_left (Nat.le_of_lt b), Nat.max_eq_right (Nat.le_of_lt b), Nat.min_eq_left (Nat.le_of_lt c), Nat.max_eq_right (Nat.le_of_lt c)]
  · refine ⟨y, z, x, ?_, b, c, by simp, ?_⟩
    · unfold scell; congr 1 <;> (try congr 1) <;> (simp only; omega)
    · unfold sdc; simp only
      rw [Nat.min_eq_right (Nat.le_of_lt a), Nat.max_eq_left (Nat.le_of_lt a), Nat.min_eq_left (Nat.le_of_lt b), Nat.max_eq_right (Nat.le_of_lt b), Nat.min_eq_right (Nat.le_of_lt c), Nat.max_eq_left (Nat.le_of_lt c)]
      exact p2 _ _ _
  · omega
  · refine ⟨z, y, x, ?_, b, a, by simp, ?_⟩
    · unfold scell; congr 1 <;> (try congr 1) <;> (simp only; omega)
    · unfold sdc; simp only
      rw [Nat.min_eq_right (Nat.le_of_lt a), Nat.max_eq_left (Nat.le_of_lt a), Nat.min_eq_right (Nat.le_of_lt b), Nat.max_eq_left (Nat.le_of_lt b), Nat.min_eq_right (Nat.le_of_lt c), Nat.max_eq_left (Nat.le_of_lt c)]
      exact (p2 _ _ _).trans (p1 _ _ _)
theorem isd_count {t : Tr} {p : Nat × Nat} (h : t.1 ≠ t.2.1 ∧ t.2.1 ≠ t.2.2 ∧ t.1 ≠ t.2.2) (ht : t.1 < 1024 ∧ t.2.1 < 1024 ∧ t.2.2 < 1024) (hp : p.1 < p.2 ∧ p.2 < 1024) : (sdc t).count (ec p) = if isd (scell t) p = true then 1 else 0 := by
  obtain ⟨x, y, z⟩ := t
  obtain ⟨A, B, C, e, h1, h2, h3, hq⟩ := sdc_perm x y z h
  rw [hq.count_eq, e]
  simp only at ht
  exact count3 h1 h2 (by omega) hp.2
theorem countP_flat {p : Nat × Nat} : ∀ {l : List Tr}, (∀ t ∈ l, (t.1 ≠ t.2.1 ∧ t.2.1 ≠ t.2.2 ∧ t.1 ≠ t.2.2) ∧ (t.1 < 1024 ∧ t.2.1 < 1024 ∧ t.2.2 < 1024)) → p.1 < p.2 ∧ p.2 < 1024 → (l.flatMap sdc).count (ec p) = (l.map scell).countP (fun c => isd c p)
  | [], _, _ => rfl
  | t :: r, h, hp => by
    have h0 := h t (by simp)
    rw [List.flatMap_cons, List.count_append, isd_count h0.1 h0.2 hp, countP_flat (fun q hq => h q (by simp [hq])) hp, List.map_cons, List.countP_cons]
    omega
theorem count_twice (e : Nat) : ∀ l : List Nat, (twice l).count e = 2 * l.count e
  | [] => rfl
  | x :: r => by
    have ih := count_twice e r
    unfold twice at *
    rw [List.flatMap_cons, List.count_append, ih, List.count_cons]
    simp only [List.count_cons, List.count_nil]
    split <;> omega
section
variable {n : Nat} (h1 : 1 ≤ n) (h5 : n ≤ 5)
include h1 h5
theorem lt_1024 {x : Nat} (hx : x < 10 * n * n + 2) : x < 1024 := by
  rcases five_of h1 h5 with rfl | rfl | rfl | rfl | rfl <;> omega
/-- Each edge is a side of two cells. -/
theorem side_two {L : List Tr} {p : Nat × Nat} (hL : IsCels (cls n 20) L) (hp : p ∈ edg n) : L.countP (fun c => isd c p) = 2 := by
  have hn : frq n := ⟨h1, by omega⟩
  obtain ⟨a, b, c⟩ := edg_mem.1 (show (p.1, p.2) ∈ edg n from hp)
  have hb := lt_1024 h1 h5 (nbs_in hn a b).1
  rw [hL.1.countP_eq, ← countP_flat (fun t ht => ⟨cls_ne hn ht, by
    obtain ⟨q1, q2, q3⟩ := cls_lt hn ht
    exact ⟨lt_1024 h1 h5 q1, lt_1024 h1 h5 q2, lt_1024 h1 h5 q3⟩⟩) ⟨c, hb⟩, cls_D hn, ← (msort_perm _).count_eq, eqL_eq (ss_all h1 h5), count_twice, ← edW_eq]
  have hnd : ((edg n).map ec).Nodup := by
    have := edg_pw hn
    rw [List.Nodup, List.pairwise_map]
    exact this.imp Nat.ne_of_lt
  rw [List.Nodup.count hnd, if_pos (List.mem_map.2 ⟨p, hp, rfl⟩)]
end
/-- Each cell has three sides. -/
theorem side_three {n : Nat} {L : List Tr} {t : Tr} (hn : frq n) (hL : IsCels (cls n 20) L) (ht : t ∈ L) : (edg n).countP (isd t) = 3 := by
  obtain ⟨s, hs, e⟩ := List.mem_map.1 (hL.1.mem_iff.1 ht)
  obtain ⟨c1, c2, c3⟩ := cels_lt hn hL ht
  have hm : ∀ a b, (a, b) ∈ prq t → a < 10 * n * n + 2 → a < b → (a, b) ∈ edg n := fun a b hp ha hab => by
    refine edg_mem.2 ⟨ha, ?_, hab⟩
    refine (nbs_iff hn ha).2 ⟨s, hs, ?_⟩
    rw [← prq_scell (cls_ne hn hs), e]
    exact hp
  have hnd : (edg n).Nodup := (edg_pw hn).imp (fun h e => by rw [e] at h; exact Nat.lt_irrefl _ h)
  have hp : ((edg n).filter (isd t)).Perm [(t.1, t.2.1), (t.1, t.2.2), (t.2.1, t.2.2)] := by
    refine (List.perm_ext_iff_of_nodup (hnd.sublist List.filter_sublist) ?_).2 fun q => ?_
    · simp; omega
    · rw [List.mem_filter, isd_iff]
      obtain ⟨a, b⟩ := q
      simp only [List.mem_cons, List.not_mem_nil, or_false, Prod.mk.injEq]
      constructor
      · exact fun h => h.2
      · intro h
        refine ⟨?_, h⟩
        rcases h with ⟨rfl, rfl⟩ | ⟨rfl, rfl⟩ | ⟨rfl, rfl⟩
        · exact hm _ _ (by simp [prq]) (by omega) c1
        · exact hm _ _ (by simp [prq]) (by omega) (by omega)
        · exact hm _ _ (by simp [prq]) (by omega) c2
  rw [List.countP_eq_length_filter, hp.length_eq]; rfl
end Go.Proofs.Ytehehhehilgnkaa.Lat
