/- Facts for TrackOrder: drawn reports whose kinds and names are changed; a list in another order. -/
import Derived.Test.YtejoabaanclcbaaGreatTkOr
import Derived.Test.YtejoabaanclcbaaGreatTkNa
namespace Go.Proofs.YtejoabaanclcbaaGreat.Tk
open Go.RowKit Go.Maps

/-- Reports of ships and buoys, ascending by time. -/
def DR (m : Int) (X : List Rq) : Prop := (X.map Rq.t).Pairwise (· < ·) ∧ ∀ r ∈ X, 14000000 < r.t ∧ r.t ≤ m ∧ r.nm.size ≤ 5 ∧ sea r.k = true ∧ vb r.F r.A r.B r.C = true
theorem rf_dr {R : List Rq} {m : Int} (h : RF true R m) : DR m R := by
  refine ⟨List.pairwise_map.2 h.1, fun r hr => ?_⟩
  obtain ⟨h1, h2, h3, h4⟩ := h.2 r hr
  obtain ⟨h5, h6, h7⟩ := h4 rfl
  exact ⟨h1, h2, h3, by rw [h5]; rfl, h7⟩
theorem DR.set {m : Int} {X : List Rq} (h : DR m X) {i : Nat} (hi : i < X.length) {r : Rq} (ht : r.t = X[i].t) (hn : r.nm.size ≤ 5) (hk : sea r.k = true) (hv : vb r.F r.A r.B r.C = true) : DR m (X.set i r) := by
  refine ⟨?_, fun a ha => ?_⟩
  · have e : (X.set i r).map Rq.t = X.map Rq.t := by
      rw [List.map_set, ht, show X[i].t = (X.map Rq.t)[i]'(by simpa using hi) from by simp, List.set_getElem_self]
    rw [e]
    exact h.1
  · rcases List.mem_or_eq_of_mem_set ha with ha | rfl
    · exact h.2 a ha
    · obtain ⟨h1, h2, -⟩ := h.2 X[i] (List.getElem_mem _)
      exact ⟨by rw [ht]; exact h1, by rw [ht]; exact h2, hn, hk, hv⟩
/-- The report of land. -/
def rl : Rq := ⟨1, dl, 5, 0, 0, 0, 0, none, 0, 0⟩
theorem DR.oks {m : Int} {X : List Rq} (h : DR m X) (hm : m ≤ 52595999) : oks sea (X ++ [rl]) := fun r hr hk => by
  rcases List.mem_append.1 hr with hr | hr
  · obtain ⟨h1, h2, h3, h4, h5⟩ := h.2 r hr
    unfold okr
    rw [h5, Bool.true_and]
    unfold tOk
    rw [decide_eq_true_iff]
    omega
  · obtain rfl := List.mem_singleton.1 hr
    exact absurd hk (by decide)
theorem DR.nm {m : Int} {X : List Rq} (h : DR m X) : ∀ r ∈ X ++ [rl], r.nm.size ≤ 5 := fun r hr => by
  rcases List.mem_append.1 hr with hr | hr
  · exact (h.2 r hr).2.2.1
  · obtain rfl := List.mem_singleton.1 hr
    exact Nat.le_refl 5
/-- Times are apart. -/
def tne (X : List Rq) : Prop := X.Pairwise (fun a b => a.t ≠ b.t)
theorem DR.tne {m : Int} {X : List Rq} (h : DR m X) : tne (X ++ [rl]) := by
  refine List.pairwise_append.2 ⟨(List.pairwise_map.1 h.1).imp fun h => by omega, List.pairwise_singleton _ _, fun a ha b hb => ?_⟩
  obtain rfl := List.mem_singleton.1 hb
  have := (h.2 a ha).1
  show a.t ≠ 5
  omega
theorem tne_pw {X : List Rq} (h : tne X) (p : Int → Bool) (i : Nat) : (sgl p i X).Pairwise (fun x y => x.nm = y.nm → x.t ≠ y.t) :=
  sgl_pw X i (h.imp fun hab _ _ _ => hab)
/-- A list in another order. -/
def pm (X : List Rq) (P : List Nat) : List Rq := P.map fun i => (X[i]?).getD rl
theorem pm_perm {X : List Rq} {P : List Nat} (h : P.Perm (List.range X.length)) : (pm X P).Perm X := by
  have h1 : (pm X P).Perm (pm X (List.range X.length)) := h.map _
  have h2 : pm X (List.range X.length) = X := by
    refine List.ext_getElem (by simp [pm]) fun j h1 h2 => ?_
    simp [pm, List.getElem?_eq_getElem h2]
  rwa [h2] at h1
theorem pm_len (X : List Rq) (P : List Nat) : (pm X P).length = P.length := List.length_map _
theorem pm_at {X : List Rq} {P : List Nat} {j : Nat} (hj : j < P.length) (hP : P[j] < X.length) : (pm X P)[j]'(by rw [pm_len]; exact hj) = X[P[j]] := by
  simp [pm, List.getElem?_eq_getElem hP]
/-- The sightings of a list in another order, with the numbers that they had. -/
theorem sgl_pm {X : List Rq} : ∀ (P Q : List Nat) (i : Nat), (∀ x ∈ Q, x < X.length) → (∀ j, ∀ h : j < Q.length, P[i + j]? = some Q[j]) → (sgl sea i (pm X Q)).map (rel (fun j => (P[j]?).getD 0)) = (Q.filter (fun x => sea ((X[x]?).getD rl).k)).map (fun x => ⟨((X[x]?).getD rl).nm, ((X[x]?).getD rl).t, nod ((X[x]?).getD rl).F ((X[x]?).getD rl).A ((X[x]?).getD rl).B ((X[x]?).getD rl).C, x⟩)
  | P, [], i, _, _ => rfl
  | P, x :: Q, i, hx, hP => by
    have ih := sgl_pm P Q (i + 1) (fun y hy => hx y (List.mem_cons_of_mem _ hy)) (fun j h => by
      have := hP (j + 1) (by simpa using h)
      rw [show i + (j + 1) = i + 1 + j by omega] at this
      simpa using this)
    have h0 := hP 0 (by simp)
    simp only [Nat.add_zero, List.getElem_cons_zero] at h0
    show (sgl sea i ((X[x]?).getD rl :: pm X Q)).map _ = _
    rw [List.filter_cons]
    simp only [sgl]
    split
    · rw [List.map_cons, List.map_cons, ih]
      congr 1
      unfold rel
      simp only [h0, Option.getD_some]
    · exact ih
theorem pm_range (X : List Rq) : pm X (List.range X.length) = X := by
  refine List.ext_getElem (by simp [pm]) fun j h1 h2 => ?_
  simp [pm, List.getElem?_eq_getElem h2]
/-- Suspects of a list in another order. -/
theorem sus_pm {h : Int} {X : List Rq} {P : List Nat} {a b : List Nat} (hP : P.Perm (List.range X.length)) (ha : SusL h (sgl sea 0 X) a) (hb : SusL h (sgl sea 0 (pm X P)) b) : (b.map (fun j => (P[j]?).getD 0)).Perm a := by
  have hlt : ∀ x ∈ P, x < X.length := fun x hx => List.mem_range.1 (hP.mem_iff.1 hx)
  have e1 := sgl_pm (X := X) P P 0 hlt (fun j h => by rw [Nat.zero_add, List.getElem?_eq_getElem h])
  have e2 := sgl_pm (X := X) (List.range X.length) (List.range X.length) 0 (fun x hx => List.mem_range.1 hx) (fun j h => by rw [Nat.zero_add, List.getElem?_eq_getElem h])
  rw [pm_range] at e2
  have e3 : (sgl sea 0 X).map (rel (fun j => ((List.range X.length)[j]?).getD 0)) = sgl sea 0 X := by
    conv => rhs; rw [← List.map_id (sgl sea 0 X)]
    refine List.map_congr_left fun x hx => ?_
    obtain ⟨j, hj, rfl⟩ := sgl_of X 0 x hx
    unfold rel
    simp [hj]
  rw [e3] at e2
  have hp : ((sgl sea 0 (pm X P)).map (rel (fun j => (P[j]?).getD 0))).Perm (sgl sea 0 X) := by
    rw [e1, e2]
    exact (hP.filter _).map _
  refine sus_rel hp (fun x hx y hy e => ?_) ha hb
  obtain ⟨j, hj, rfl⟩ := sgl_of _ 0 x hx
  obtain ⟨k, hk, rfl⟩ := sgl_of _ 0 y hy
  rw [pm_len] at hj hk
  simp only [Nat.zero_add, List.getElem?_eq_getElem hj, List.getElem?_eq_getElem hk, Option.getD_some] at e
  have hn : P.Nodup := hP.nodup_iff.2 List.nodup_range
  show 0 + j = 0 + k
  rw [(List.getElem_inj hn).1 e]
theorem susL_sea {h : Int} {R : List Rq} {l : List Nat} (hs : SusL h (sgl sea 0 R) l) : ∀ i ∈ l, ∃ hi : i < R.length, sea R[i].k = true := fun i hi => by
  obtain ⟨A, a1, -, -, -, a5⟩ := hs
  obtain ⟨x, hx, rfl, -⟩ := (a5 i).1 hi
  have hx2 := a1.mem_iff.1 hx
  have key : ∀ (R : List Rq) (i : Nat) (x : Sg), x ∈ sgl sea i R → ∃ (j : Nat) (h : j < R.length), x.ix = i + j ∧ sea R[j].k = true := by
    intro R
    induction R with
    | nil => intro i x h; cases h
    | cons r R ih =>
      intro i x h
      simp only [sgl] at h
      split at h
      · next hs =>
        rcases List.mem_cons.1 h with rfl | h
        · exact ⟨0, by simp, rfl, hs⟩
        · obtain ⟨j, hj, e1, e2⟩ := ih (i + 1) x h
          exact ⟨j + 1, by simpa using hj, by omega, by simpa using e2⟩
      · obtain ⟨j, hj, e1, e2⟩ := ih (i + 1) x h
        exact ⟨j + 1, by simpa using hj, by omega, by simpa using e2⟩
  obtain ⟨j, hj, e1, e2⟩ := key R 0 x hx2
  have : x.ix = j := by omega
  exact ⟨by omega, by simpa [this] using e2⟩
end Go.Proofs.YtejoabaanclcbaaGreat.Tk

