/- The icosahedron in plain numbers: the corners of the faces, the weights of the vertices in a place, the faces on which it has an address. -/
namespace Go.Proofs.YtlakgkoohdfiaaaDoor.Pl.Ico

/-- The corners of the faces, three for each. -/
def T : List Nat := [0, 1, 2, 0, 2, 3, 0, 3, 4, 0, 4, 5, 0, 5, 1, 1, 6, 2, 2, 7, 3, 3, 8, 4, 4, 9, 5, 5, 10, 1, 6, 7, 2, 7, 8, 3, 8, 9, 4, 9, 10, 5, 10, 6, 1, 11, 7, 6, 11, 8, 7, 11, 9, 8, 11, 10, 9, 11, 6, 10]
def cor (f k : Nat) : Nat := T.getD (3 * f + k) 0
theorem cor_lt3 : ∀ f, f < 20 → ∀ k, k < 3 → cor f k < 12 := by decide +kernel
theorem cor_lt (f k : Nat) : cor f k < 12 := by
  by_cases h : f < 20 ∧ k < 3
  · exact cor_lt3 f h.1 k h.2
  · unfold cor
    rcases Nat.lt_or_ge (3 * f + k) 60 with h1 | h1
    · have : ∀ j, j < 60 → T.getD j 0 < 12 := by decide +kernel
      exact this _ h1
    · rw [List.getD_eq_getElem?_getD, List.getElem?_eq_none (by simpa [T] using h1)]; decide
theorem cor_ne : ∀ f, f < 20 → cor f 0 ≠ cor f 1 ∧ cor f 1 ≠ cor f 2 ∧ cor f 0 ≠ cor f 2 := by decide +kernel

/-- The weight of a vertex in the place f, a, b, c. -/
def wt (f : Nat) (a b c : Int) (v : Nat) : Int := if v = cor f 0 then a else if v = cor f 1 then b else if v = cor f 2 then c else 0
theorem wt0 (f : Nat) (a b c : Int) : wt f a b c (cor f 0) = a := by simp [wt]
theorem wt1 {f : Nat} (h : f < 20) (a b c : Int) : wt f a b c (cor f 1) = b := by
  obtain ⟨h1, h2, h3⟩ := cor_ne f h
  simp [wt, Ne.symm h1]
theorem wt2 {f : Nat} (h : f < 20) (a b c : Int) : wt f a b c (cor f 2) = c := by
  obtain ⟨h1, h2, h3⟩ := cor_ne f h
  simp [wt, Ne.symm h2, Ne.symm h3]
/-- A valid place. -/
def Vld (f : Nat) (a b c : Int) : Prop := f < 20 ∧ 0 ≤ a ∧ a ≤ 840 ∧ 0 ≤ b ∧ b ≤ 840 ∧ 0 ≤ c ∧ c ≤ 840 ∧ a + b + c = 840
theorem wt_bd {f : Nat} {a b c : Int} (h : Vld f a b c) (v : Nat) : 0 ≤ wt f a b c v ∧ wt f a b c v ≤ 840 := by
  obtain ⟨_, h1, h2, h3, h4, h5, h6, _⟩ := h
  unfold wt
  split
  · exact ⟨h1, h2⟩
  · split
    · exact ⟨h3, h4⟩
    · split
      · exact ⟨h5, h6⟩
      · omega
/-- The sum of the weights of the corners of the face g. -/
def sm (f : Nat) (a b c : Int) (g : Nat) : Int := wt f a b c (cor g 0) + wt f a b c (cor g 1) + wt f a b c (cor g 2)
/-- The vertex v is a corner of the face g. -/
def has (g v : Nat) : Bool := decide (v = cor g 0) || decide (v = cor g 1) || decide (v = cor g 2)
theorem three {x y z u : Nat} (h1 : x ≠ y) (h2 : y ≠ z) (h3 : x ≠ z) (a : Int) :
    (if x = u then a else 0) + (if y = u then a else 0) + (if z = u then a else 0) = if (decide (u = x) || decide (u = y) || decide (u = z)) = true then a else 0 := by
  by_cases e1 : x = u
  · subst e1
    simp [Ne.symm h1, Ne.symm h3]
  · by_cases e2 : y = u
    · subst e2
      simp [e1, Ne.symm h2]
    · by_cases e3 : z = u
      · subst e3
        simp [e1, e2]
      · simp [e1, e2, e3, Ne.symm e1, Ne.symm e2, Ne.symm e3]
theorem wt_sum {f : Nat} (h : f < 20) (a b c : Int) (v : Nat) : wt f a b c v = (if v = cor f 0 then a else 0) + (if v = cor f 1 then b else 0) + (if v = cor f 2 then c else 0) := by
  obtain ⟨h1, h2, h3⟩ := cor_ne f h
  unfold wt
  by_cases e1 : v = cor f 0
  · subst e1; simp [h1, h3]
  · by_cases e2 : v = cor f 1
    · subst e2; simp [Ne.symm h1, h2]
    · simp [e1, e2]
theorem sm_eq {f g : Nat} (hf : f < 20) (hg : g < 20) (a b c : Int) :
    sm f a b c g = (if has g (cor f 0) = true then a else 0) + (if has g (cor f 1) = true then b else 0) + (if has g (cor f 2) = true then c else 0) := by
  obtain ⟨h1, h2, h3⟩ := cor_ne g hg
  unfold sm has
  rw [wt_sum hf, wt_sum hf, wt_sum hf, ← three h1 h2 h3, ← three h1 h2 h3, ← three h1 h2 h3]
  omega
/-- The place has an address on the face g. -/
def ok (f : Nat) (a b c : Int) (g : Nat) : Bool := decide (sm f a b c g = 840)
/-- The same, of the corners that have a weight. -/
def okB (f : Nat) (x y z : Bool) (g : Nat) : Bool := (!x || has g (cor f 0)) && (!y || has g (cor f 1)) && (!z || has g (cor f 2))
theorem ok_eq {f g : Nat} {a b c : Int} (h : Vld f a b c) (hg : g < 20) : ok f a b c g = okB f (decide (a ≠ 0)) (decide (b ≠ 0)) (decide (c ≠ 0)) g := by
  obtain ⟨hf, h1, h2, h3, h4, h5, h6, h7⟩ := h
  unfold ok okB
  rw [sm_eq hf hg, Bool.eq_iff_iff]
  cases has g (cor f 0) <;> cases has g (cor f 1) <;> cases has g (cor f 2) <;> simp <;> omega
theorem ok_self {f : Nat} {a b c : Int} (h : Vld f a b c) : ok f a b c f = true := by
  obtain ⟨hf, h1, h2, h3, h4, h5, h6, h7⟩ := h
  unfold ok sm
  rw [wt0, wt1 hf, wt2 hf, h7]; rfl
/-- Where the place has an address on g, its weights there are all its weights. -/
theorem wt_on {f g : Nat} {a b c : Int} (h : Vld f a b c) (hg : g < 20) (ho : ok f a b c g = true) (v : Nat) :
    wt g (wt f a b c (cor g 0)) (wt f a b c (cor g 1)) (wt f a b c (cor g 2)) v = wt f a b c v := by
  by_cases e0 : v = cor g 0
  · subst e0; rw [wt0]
  · by_cases e1 : v = cor g 1
    · subst e1; rw [wt1 hg]
    · by_cases e2 : v = cor g 2
      · subst e2; rw [wt2 hg]
      · have hz : wt g (wt f a b c (cor g 0)) (wt f a b c (cor g 1)) (wt f a b c (cor g 2)) v = 0 := by
          show (if v = cor g 0 then _ else if v = cor g 1 then _ else if v = cor g 2 then _ else (0 : Int)) = 0
          rw [if_neg e0, if_neg e1, if_neg e2]
        rw [hz]
        rw [ok_eq h hg] at ho
        unfold okB has at ho
        obtain ⟨hf, h1, h2, h3, h4, h5, h6, h7⟩ := h
        unfold wt
        by_cases d0 : v = cor f 0
        · rw [if_pos d0]; subst d0; simp [e0, e1, e2] at ho; omega
        · rw [if_neg d0]
          by_cases d1 : v = cor f 1
          · rw [if_pos d1]; subst d1; simp [e0, e1, e2] at ho; omega
          · rw [if_neg d1]
            by_cases d2 : v = cor f 2
            · rw [if_pos d2]; subst d2; simp [e0, e1, e2] at ho; omega
            · rw [if_neg d2]
theorem vld_on {f g : Nat} {a b c : Int} (h : Vld f a b c) (hg : g < 20) (ho : ok f a b c g = true) :
    Vld g (wt f a b c (cor g 0)) (wt f a b c (cor g 1)) (wt f a b c (cor g 2)) :=
  ⟨hg, (wt_bd h _).1, (wt_bd h _).2, (wt_bd h _).1, (wt_bd h _).2, (wt_bd h _).1, (wt_bd h _).2, of_decide_eq_true ho⟩
theorem not_vld {f g : Nat} {a b c : Int} (ho : ok f a b c g = false) : ¬ wt f a b c (cor g 0) + wt f a b c (cor g 1) + wt f a b c (cor g 2) = 840 := of_decide_eq_false ho

/-- The faces below n with an address. -/
def fcs (f : Nat) (a b c : Int) (n : Nat) : List Nat := (List.range n).filter (ok f a b c)
theorem fcs_succ_yes {f : Nat} {a b c : Int} {n : Nat} (h : ok f a b c n = true) : fcs f a b c (n + 1) = fcs f a b c n ++ [n] := by
  unfold fcs; rw [List.range_succ, List.filter_append]; simp [h]
theorem fcs_succ_no {f : Nat} {a b c : Int} {n : Nat} (h : ok f a b c n = false) : fcs f a b c (n + 1) = fcs f a b c n := by
  unfold fcs; rw [List.range_succ, List.filter_append]; simp [h]
theorem fcs_len_le (f : Nat) (a b c : Int) (n : Nat) : (fcs f a b c n).length ≤ n := by
  unfold fcs; exact Nat.le_trans (List.length_filter_le _ _) (by simp)
/-- How many addresses: by the weights that are 0. -/
theorem counts : ∀ f, f < 20 → ∀ x y z : Bool, ((List.range 20).filter (okB f x y z)).length = if x && y && z then 1 else if (x && y) || (y && z) || (x && z) then 2 else if x || y || z then 5 else 20 := by decide +kernel
theorem fcs_okB {f : Nat} {a b c : Int} (h : Vld f a b c) : fcs f a b c 20 = (List.range 20).filter (okB f (decide (a ≠ 0)) (decide (b ≠ 0)) (decide (c ≠ 0))) := by
  unfold fcs
  exact List.filter_congr fun g hg => ok_eq h (List.mem_range.1 hg)
theorem mem_fcs {f : Nat} {a b c : Int} {g : Nat} : g ∈ fcs f a b c 20 ↔ g < 20 ∧ ok f a b c g = true := by
  unfold fcs; rw [List.mem_filter, List.mem_range]
theorem fcs_pos {f : Nat} {a b c : Int} (h : Vld f a b c) : 0 < (fcs f a b c 20).length := List.length_pos_of_mem (mem_fcs.2 ⟨h.1, ok_self h⟩)
/-- The least face. -/
def nf (f : Nat) (a b c : Int) : Nat := (fcs f a b c 20).headD 0
theorem nf_mem {f : Nat} {a b c : Int} (h : Vld f a b c) : nf f a b c ∈ fcs f a b c 20 := by
  unfold nf
  have := fcs_pos h
  cases e : fcs f a b c 20 with
  | nil => rw [e] at this; simp at this
  | cons x l => simp
theorem nf_ok {f : Nat} {a b c : Int} (h : Vld f a b c) : nf f a b c < 20 ∧ ok f a b c (nf f a b c) = true := mem_fcs.1 (nf_mem h)
/-- Two places with the same weights have addresses on the same faces. -/
theorem fcs_same {f f' : Nat} {a b c a' b' c' : Int} (h : ∀ v, wt f a b c v = wt f' a' b' c' v) (n : Nat) : fcs f a b c n = fcs f' a' b' c' n := by
  unfold fcs
  refine List.filter_congr fun g _ => ?_
  unfold ok sm; rw [h, h, h]
theorem nf_same {f f' : Nat} {a b c a' b' c' : Int} (h : ∀ v, wt f a b c v = wt f' a' b' c' v) : nf f a b c = nf f' a' b' c' := by
  unfold nf; rw [fcs_same h]
theorem fcs_sorted (f : Nat) (a b c : Int) (n : Nat) : (fcs f a b c n).Pairwise (· < ·) := List.Pairwise.filter _ List.pairwise_lt_range
theorem fcs_lt {f : Nat} {a b c : Int} {n i j : Nat} (hij : i < j) (hj : j < (fcs f a b c n).length) : (fcs f a b c n)[i]'(by omega) < (fcs f a b c n)[j] :=
  List.pairwise_iff_getElem.1 (fcs_sorted f a b c n) i j (by omega) hj hij

/-- The face across the edge that leaves the corner k out. -/
def acr (f k : Nat) : Nat := (((List.range 20).filter fun g => decide (g ≠ f) && has g (cor f ((k + 1) % 3)) && has g (cor f ((k + 2) % 3)))).headD 0
end Go.Proofs.YtlakgkoohdfiaaaDoor.Pl.Ico

