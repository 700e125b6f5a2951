/- The nodes that are found ring by ring, in plain numbers. -/
import Derived.Test.YtehehhehilgnkaaGreatLkM
import Derived.Test.YtehehhehilgnkaaGreatCln
namespace Go.Proofs.YtehehhehilgnkaaGreat.Lat

/-- The nodes of a list that have not been seen, each once. -/
def fnd (S : Nat → Bool) (X : List Nat) : List Nat := X.foldl (fun F x => if (S x || F.contains x) = true then F else F ++ [x]) []
theorem fnd_nil (S : Nat → Bool) : fnd S [] = [] := rfl
theorem fnd_snoc (S : Nat → Bool) (X : List Nat) (x : Nat) : fnd S (X ++ [x]) = if (S x || (fnd S X).contains x) = true then fnd S X else fnd S X ++ [x] := by simp [fnd, List.foldl_append]
theorem fnd_spec (S : Nat → Bool) (X : List Nat) : (fnd S X).Nodup ∧ ∀ x, x ∈ fnd S X ↔ S x = false ∧ x ∈ X := by
  revert X
  refine snoc_ind ?_ ?_
  · simp [fnd_nil]
  · intro X y ih
    rw [fnd_snoc]
    split
    · rename_i h
      refine ⟨ih.1, fun x => ?_⟩
      rw [ih.2 x, List.mem_append, List.mem_singleton]
      constructor
      · exact fun h' => ⟨h'.1, .inl h'.2⟩
      · rintro ⟨h1, h2 | rfl⟩
        · exact ⟨h1, h2⟩
        · rw [h1, Bool.false_or, List.contains_iff_mem] at h
          exact ⟨h1, ((ih.2 x).1 h).2⟩
    · rename_i h
      have h' : S y = false ∧ y ∉ fnd S X := by
        simp only [Bool.or_eq_true, List.contains_iff_mem, not_or, Bool.not_eq_true] at h
        exact h
      refine ⟨?_, fun x => ?_⟩
      · rw [List.nodup_append]
        refine ⟨ih.1, by simp, fun x hx z hz => ?_⟩
        rw [List.mem_singleton] at hz
        subst hz
        rintro rfl
        exact h'.2 hx
      · rw [List.mem_append, List.mem_singleton, ih.2 x, List.mem_append, List.mem_singleton]
        constructor
        · rintro (⟨a, b⟩ | rfl)
          · exact ⟨a, .inl b⟩
          · exact ⟨h'.1, .inr rfl⟩
        · rintro ⟨a, b | b⟩
          · exact .inl ⟨a, b⟩
          · exact .inr b
/-- What has been seen behind k rounds. -/
def Sn (n a k : Nat) (S : Nat → Bool) : Prop := ∀ x, x < 10 * n * n + 2 → (S x = true ↔ ∃ j, j ≤ k ∧ Dist n a x j)
/-- The ring of the nodes that are k edges away. -/
def Rg (n a k : Nat) (R : List Nat) : Prop := R.Nodup ∧ ∀ x, x ∈ R ↔ Dist n a x k
theorem dist_lt {n a x k : Nat} (h : frq n) (ha : a < 10 * n * n + 2) (hd : Dist n a x k) : x < 10 * n * n + 2 := rch_lt h ha hd.1
theorem len_lt {m : Nat} {l : List Nat} (h : l.Nodup) (hl : ∀ x ∈ l, x < m) : l.length ≤ m := by
  have := List.Nodup.length_le_of_subset h (l₂ := List.range m) (fun x hx => List.mem_range.2 (hl x hx))
  simpa using this
theorem rg_len {n a k : Nat} {R : List Nat} (h : frq n) (ha : a < 10 * n * n + 2) (hR : Rg n a k R) : R.length ≤ 10 * n * n + 2 :=
  len_lt hR.1 fun x hx => dist_lt h ha ((hR.2 x).1 hx)
theorem rg_start (n a : Nat) : Rg n a 0 [a] := by
  refine ⟨by simp, fun x => ?_⟩
  rw [List.mem_singleton]
  constructor
  · rintro rfl; exact dist_self n x
  · intro h; exact h.1
theorem sn_start (n a : Nat) : Sn n a 0 (fun x => decide (x = a)) := by
  intro x _
  simp only [decide_eq_true_eq]
  constructor
  · rintro rfl; exact ⟨0, Nat.le_refl _, dist_self n x⟩
  · rintro ⟨j, hj, h⟩
    obtain rfl : j = 0 := by omega
    exact h.1
/-- The next ring. -/
theorem ring_next {n a k : Nat} {S : Nat → Bool} {R F : List Nat} (h : frq n) (ha : a < 10 * n * n + 2) (hS : Sn n a k S) (hR : Rg n a k R) (hF : F = fnd S (R.flatMap (nbs n))) :
    Rg n a (k + 1) F ∧ Sn n a (k + 1) (fun x => S x || F.contains x) := by
  have key : ∀ x, x ∈ F ↔ Dist n a x (k + 1) := by
    intro x
    rw [hF, (fnd_spec S _).2 x, List.mem_flatMap]
    constructor
    · rintro ⟨h1, r, hr, hx⟩
      have hr' := (hR.2 r).1 hr
      have hx' := (nbs_in h (dist_lt h ha hr') hx).1
      obtain ⟨d, hd⟩ := dist_all h ha hx'
      have := dist_step hr' hx hd
      rcases Nat.lt_or_ge d (k + 1) with hlt | hge
      · exact absurd ((hS x hx').2 ⟨d, by omega, hd⟩) (by rw [h1]; decide)
      · obtain rfl : d = k + 1 := by omega
        exact hd
    · intro hd
      obtain ⟨r, hr, hx⟩ := dist_pred hd
      refine ⟨?_, r, (hR.2 r).2 hr, hx⟩
      cases hs : S x
      · rfl
      · obtain ⟨j, hj, hj'⟩ := (hS x (dist_lt h ha hd)).1 hs
        have := dist_one hd hj'
        omega
  refine ⟨⟨by rw [hF]; exact (fnd_spec S _).1, key⟩, fun x hx => ?_⟩
  simp only [Bool.or_eq_true, List.contains_iff_mem]
  rw [hS x hx, key x]
  constructor
  · rintro (⟨j, hj, hd⟩ | hd)
    · exact ⟨j, by omega, hd⟩
    · exact ⟨k + 1, Nat.le_refl _, hd⟩
  · rintro ⟨j, hj, hd⟩
    rcases Nat.lt_or_ge j (k + 1) with hlt | hge
    · exact .inl ⟨j, by omega, hd⟩
    · obtain rfl : j = k + 1 := by omega
      exact .inr hd
theorem flat_snoc {n : Nat} {R : List Nat} {i j : Nat} (hi : i < R.length) (hj : j < (nbs n R[i]).length) :
    (R.take i).flatMap (nbs n) ++ (nbs n R[i]).take (j + 1) = ((R.take i).flatMap (nbs n) ++ (nbs n R[i]).take j) ++ [(nbs n R[i])[j]] := by
  rw [List.take_succ_eq_append_getElem hj, ← List.append_assoc]
theorem flat_next {n : Nat} {R : List Nat} {i : Nat} (hi : i < R.length) :
    (R.take (i + 1)).flatMap (nbs n) = (R.take i).flatMap (nbs n) ++ (nbs n R[i]) := by
  rw [List.take_succ_eq_append_getElem hi, List.flatMap_append]
  simp
end Go.Proofs.YtehehhehilgnkaaGreat.Lat


namespace Go.Proofs.YtehehhehilgnkaaGreat.Lat

/-- A function that says how far each node is from a. -/
def Far (n a : Nat) (D : Nat → Nat) : Prop := ∀ x, x < 10 * n * n + 2 → Dist n a x (D x)
theorem far_some {n a : Nat} (h : frq n) (ha : a < 10 * n * n + 2) : ∃ D, Far n a D := by
  have : ∀ x, ∃ d, x < 10 * n * n + 2 → Dist n a x d := fun x => by
    by_cases hx : x < 10 * n * n + 2
    · obtain ⟨d, hd⟩ := dist_all h ha hx
      exact ⟨d, fun _ => hd⟩
    · exact ⟨0, fun h => absurd h hx⟩
  exact ⟨fun x => (this x).choose, fun x hx => (this x).choose_spec hx⟩
/-- What is known of the queue while its nodes before the i-th have been gone through. -/
structure Que (n a : Nat) (D : Nat → Nat) (Q : List Nat) (i : Nat) : Prop where
  nd : Q.Nodup
  lt : ∀ x ∈ Q, x < 10 * n * n + 2
  st : a ∈ Q
  pw : Q.Pairwise (fun x y => D x ≤ D y)
  cl : ∀ j (h : j < Q.length), j < i → ∀ b ∈ nbs n Q[j], b ∈ Q
  nr : ∀ h : i < Q.length, ∀ x ∈ Q, D x ≤ D Q[i] + 1
section
variable {n a : Nat} {D : Nat → Nat} (hn : frq n) (ha : a < 10 * n * n + 2) (hD : Far n a D)
include hn ha hD
omit hn in
theorem Que.start : Que n a D [a] 0 := by
  have h0 : D a = 0 := (dist_zero (hD a ha)).2 rfl
  refine ⟨by simp, fun x hx => by rw [List.mem_singleton] at hx; rw [hx]; exact ha, by simp, by simp, fun j _ hj => by omega, fun h x hx => ?_⟩
  rw [List.mem_singleton] at hx
  rw [hx, h0]; omega
theorem Que.low {Q : List Nat} {i : Nat} (h : Que n a D Q i) (hi : i < Q.length) : ∀ (m x : Nat), x < 10 * n * n + 2 → D x = m → D x ≤ D Q[i] → x ∈ Q
  | 0, x, hx, hm, _ => by
    have := (dist_zero (hD x hx)).1 hm
    rw [← this]; exact h.st
  | m + 1, x, hx, hm, hle => by
    have hd := hD x hx
    rw [hm] at hd
    obtain ⟨r, hr, hxr⟩ := dist_pred hd
    have hrl := dist_lt hn ha hr
    have hrm : D r = m := dist_one (hD r hrl) hr
    have hrQ := Que.low h hi m r hrl hrm (by omega)
    obtain ⟨p, hp, rfl⟩ := List.getElem_of_mem hrQ
    rcases Nat.lt_or_ge p i with hlt | hge
    · exact h.cl p hp hlt x hxr
    · exfalso
      rcases Nat.eq_or_lt_of_le hge with e | hlt
      · subst e; omega
      · have := List.pairwise_iff_getElem.1 h.pw i p hi hp hlt
        omega
/-- A neighbour that is not in the queue is one edge further away. -/
theorem Que.new {Q : List Nat} {i b : Nat} (h : Que n a D Q i) (hi : i < Q.length) (hb : b ∈ nbs n Q[i]) (hnb : b ∉ Q) : D b = D Q[i] + 1 := by
  have hql := h.lt _ (List.getElem_mem hi)
  have hbl := (nbs_in hn hql hb).1
  have h1 := dist_step (hD _ hql) hb (hD b hbl)
  rcases Nat.lt_or_ge (D Q[i]) (D b) with h2 | h2
  · omega
  · exact absurd (Que.low hn ha hD h hi _ b hbl rfl h2) hnb
theorem Que.snoc {Q : List Nat} {i b : Nat} (h : Que n a D Q i) (hi : i < Q.length) (hb : b ∈ nbs n Q[i]) (hnb : b ∉ Q) : Que n a D (Q ++ [b]) i := by
  have hd := Que.new hn ha hD h hi hb hnb
  have hql := h.lt _ (List.getElem_mem hi)
  refine ⟨?_, fun x hx => ?_, by simp [h.st], ?_, fun j hj hji c hc => ?_, fun hi' x hx => ?_⟩
  · rw [List.nodup_append]
    refine ⟨h.nd, by simp, fun x hx z hz => ?_⟩
    rw [List.mem_singleton] at hz
    subst hz
    rintro rfl
    exact hnb hx
  · rcases List.mem_append.1 hx with hx | hx
    · exact h.lt x hx
    · rw [List.mem_singleton] at hx; rw [hx]; exact (nbs_in hn hql hb).1
  · rw [List.pairwise_append]
    refine ⟨h.pw, by simp, fun x hx z hz => ?_⟩
    rw [List.mem_singleton] at hz
    subst hz
    have := h.nr hi x hx
    omega
  · have hjl : j < Q.length := by omega
    rw [List.getElem_append_left hjl] at hc
    exact List.mem_append_left _ (h.cl j hjl hji c hc)
  · rw [List.getElem_append_left hi]
    rcases List.mem_append.1 hx with hx | hx
    · exact h.nr hi x hx
    · rw [List.mem_singleton] at hx; rw [hx, hd]; omega
omit hn ha hD in
theorem Que.next {Q : List Nat} {i : Nat} (h : Que n a D Q i) (hi : i < Q.length) (hc : ∀ b ∈ nbs n Q[i], b ∈ Q) : Que n a D Q (i + 1) := by
  refine ⟨h.nd, h.lt, h.st, h.pw, fun j hj hji => ?_, fun hi' x hx => ?_⟩
  · rcases Nat.lt_succ_iff_lt_or_eq.1 hji with h1 | rfl
    · exact h.cl j hj h1
    · exact hc
  · have := h.nr hi x hx
    have := List.pairwise_iff_getElem.1 h.pw i (i + 1) hi hi' (Nat.lt_succ_self _)
    omega
theorem Que.fin {Q : List Nat} (h : Que n a D Q Q.length) : ∀ (m x : Nat), x < 10 * n * n + 2 → D x = m → x ∈ Q
  | 0, x, hx, hm => by
    have := (dist_zero (hD x hx)).1 hm
    rw [← this]; exact h.st
  | m + 1, x, hx, hm => by
    have hd := hD x hx
    rw [hm] at hd
    obtain ⟨r, hr, hxr⟩ := dist_pred hd
    have hrl := dist_lt hn ha hr
    have hrQ := Que.fin h m r hrl (dist_one (hD r hrl) hr)
    obtain ⟨p, hp, rfl⟩ := List.getElem_of_mem hrQ
    exact h.cl p hp hp x hxr
omit hn ha hD in
theorem Que.len {Q : List Nat} {i : Nat} (h : Que n a D Q i) : Q.length ≤ 10 * n * n + 2 := len_lt h.nd h.lt
end
end Go.Proofs.YtehehhehilgnkaaGreat.Lat


namespace Go.Proofs.YtehehhehilgnkaaGreat
open Go.RowKit Go.Maps

/-- The numbers of a list. -/
def zs (l : List Nat) : List Int := l.map (fun x : Nat => (x : Int))
def zc (l : List Nat) : List Value := l.map (fun x : Nat => Value.int .i64 (x : Int))
theorem zs_len (l : List Nat) : (zs l).length = l.length := by simp [zs]
theorem zc_len (l : List Nat) : (zc l).length = l.length := by simp [zc]
theorem zc_snoc (l : List Nat) (b : Nat) : zc (l ++ [b]) = zc l ++ [.int .i64 (b : Int)] := by simp [zc]
theorem zc_one (l : List Nat) : ∀ u ∈ zc l, u.oneCell' = true := by
  intro u hu
  obtain ⟨x, -, rfl⟩ := List.mem_map.1 hu
  rfl
theorem zc_at (l : List Nat) (i : Nat) (h : i < l.length) : (zc l)[i]? = some (.int .i64 (l[i] : Int)) := by simp [zc, h]
/-- Block b holds these numbers from its beginning on; it may be written. -/
structure Cs (w : World) (b : Nat) (l : List Nat) : Prop where
  lt : b < w.heap.size
  at_ : ∀ j (h : j < l.length), w.cell? ⟨b, j, none⟩ = some (.int .i64 (l[j] : Int))
theorem Cs.under {w w' : World} {b : Nat} {l : List Nat} (h : Cs w b l) (hb : Below w.heap.size w w') : Cs w' b l :=
  ⟨Nat.lt_of_lt_of_le h.lt hb.size, fun j hj => (hb.cell (p := ⟨b, j, none⟩) h.lt).trans (h.at_ j hj)⟩
theorem Cs.grown {w w' : World} {b : Nat} {l : List Nat} {r : Option Nat} (h : Cs w b l) (hb : w.grownBy w' r) (hr : some b ≠ r) : Cs w' b l :=
  ⟨Nat.lt_of_lt_of_le h.lt hb.size, fun j hj => (hb.cell_far ⟨b, j, none⟩ h.lt hr).trans (h.at_ j hj)⟩
theorem cs_of_own {w : World} {base n b cap : Nat} {e : TypeId} {l : List Nat} (h : w.ownsRow base e 1 (.slice (some ⟨b, 0, none⟩) n cap) n (zc l)) (hn : n = l.length) : Cs w b l :=
  ⟨(own_heap h).2.1, fun j hj => by subst hn; rw [h.cellAt j (by omega)]; exact zc_at l j hj⟩
/-- A list of numbers as a value. -/
def NmL (w : World) (v : Value) (l : List Nat) : Prop := ∃ b cap, v = .slice (some ⟨b, 0, none⟩) l.length cap ∧ l.length ≤ cap ∧ cap ≤ 9223372036854775807 ∧ Cs w b l
theorem NmL.under {w w' : World} {v : Value} {l : List Nat} (h : NmL w v l) (hb : Below w.heap.size w w') : NmL w' v l := by
  obtain ⟨b, cap, h1, h2, h3, h4⟩ := h
  exact ⟨b, cap, h1, h2, h3, h4.under hb⟩
/-- Block g holds the lists of neighbours of all nodes. -/
structure Nb (w : World) (g n : Nat) : Prop where
  lt : g < w.heap.size
  at_ : ∀ i, i < cn n → ∃ v, w.cell? ⟨g, i, none⟩ = some v ∧ NmL w v (Lat.nbs n i)
theorem Nb.under {w w' : World} {g n : Nat} (h : Nb w g n) (hb : Below w.heap.size w w') : Nb w' g n :=
  ⟨Nat.lt_of_lt_of_le h.lt hb.size, fun i hi => by
    obtain ⟨v, h1, h2⟩ := h.at_ i hi
    exact ⟨v, (hb.cell (p := ⟨g, i, none⟩) h.lt).trans h1, h2.under hb⟩⟩
theorem Nb.drew {w : World} {g n : Nat} (h : Nb w g n) : Nb w.drew g n := h.under ⟨rfl, rfl, rfl, Nat.le_refl _, fun _ _ => rfl⟩
/-- What links leaves. -/
def LinksR (W : World) (n : Nat) (e : Ending) (w : World) : Prop := ∃ g cap, e = .returned (.slice (some ⟨g, 0, none⟩) (cn n) cap) ∧ cn n ≤ cap ∧ cap ≤ 9223372036854775807 ∧ Below W.heap.size W w ∧ W.heap.size ≤ g ∧ Nb w g n ∧ ∀ i, i < cn n → ∃ b c, w.cell? ⟨g, i, none⟩ = some (.slice (some ⟨b, 0, none⟩) (Lat.nbs n i).length c) ∧ W.heap.size ≤ b
end Go.Proofs.YtehehhehilgnkaaGreat

