/- Where a place lies in a grid does not depend on its address; the weights of the nodes around it. -/
import Derived.Test.YtehehhehilgnkaaSurM
import Derived.Test.YtehehhehilgnkaaLoc
namespace Go.Proofs.Ytehehhehilgnkaa.Lat
open Ico

def chkP (n : Nat) : Bool := ascl (msort ((nodes n).map (pkp n)))
theorem pp1 : chkP 1 = true := by decide +kernel
theorem pp2 : chkP 2 = true := by decide +kernel
theorem pp3 : chkP 3 = true := by decide +kernel
theorem pp4 : chkP 4 = true := by decide +kernel
theorem pp5 : chkP 5 = true := by decide +kernel
theorem pp_all {n : Nat} (h1 : 1 ≤ n) (h5 : n ≤ 5) : chkP n = true := by
  rcases five_of h1 h5 with rfl | rfl | rfl | rfl | rfl
  · exact pp1
  · exact pp2
  · exact pp3
  · exact pp4
  · exact pp5
theorem pkp_inj {n i j : Nat} (h1 : 1 ≤ n) (h5 : n ≤ 5) (hi : i < 10 * n * n + 2) (hj : j < 10 * n * n + 2) (h : pkp n (nd n i) = pkp n (nd n j)) : i = j := by
  have hn : frq n := ⟨h1, by omega⟩
  have hs := (ascl_pw (pp_all h1 h5)).imp Nat.ne_of_lt
  have hnd : ((nodes n).map (pkp n)).Nodup := (msort_perm _).nodup_iff.1 hs
  have hl := nodes_len hn
  have e : ∀ k, (hk : k < 10 * n * n + 2) → ((nodes n).map (pkp n))[k]'(by simp [hl, hk]) = pkp n (nd n k) := fun k hk => by
    rw [List.getElem_map]
    unfold nd
    rw [List.getD_eq_getElem?_getD, List.getElem?_eq_getElem (by rw [hl]; exact hk)]
    rfl
  rcases Nat.lt_trichotomy i j with hlt | rfl | hlt
  · have := List.pairwise_iff_getElem.1 hnd i j (by simp [hl, hi]) (by simp [hl, hj]) hlt
    rw [e i hi, e j hj] at this
    exact absurd h this
  · rfl
  · have := List.pairwise_iff_getElem.1 hnd j i (by simp [hl, hj]) (by simp [hl, hi]) hlt
    rw [e i hi, e j hj] at this
    exact absurd h.symm this
theorem pk_of_wn {f g a b c x y z : Nat} (hf : f < 20) (hg : g < 20) (h : ∀ v, wn f a b c v = wn g x y z v) : pk f a b c = pk g x y z := by
  rw [pk_eq hf, pk_eq hg]
  unfold wl
  rw [funext h]
/-- Points with the same weights have one index. -/
theorem idx_same {n f g a b x y : Nat} (h1 : 1 ≤ n) (h5 : n ≤ 5) (hf : f < 20) (hg : g < 20) (hab : a + b ≤ n) (hxy : x + y ≤ n) (h : ∀ v, wn f a b (n - a - b) v = wn g x y (n - x - y) v) : idx n f a b = idx n g x y := by
  have hn : frq n := ⟨h1, by omega⟩
  obtain ⟨-, l1, e1⟩ := ix_of hn hf hab
  obtain ⟨-, l2, e2⟩ := ix_of hn hg hxy
  refine pkp_inj h1 h5 l1 l2 ?_
  rw [e1, e2]
  exact pk_of_wn hf hg h
theorem xa_zero (n : Nat) : xa n 0 = 0 := by simp [xa]
theorem rs_zero (n : Nat) : rs n 0 = 0 := by simp [rs]
theorem wn_xa (n f : Nat) (A B C : Int) (v : Nat) : wn f (xa n A) (xa n B) (xa n C) v = xa n (wt f A B C v) := by
  unfold wn wt
  by_cases h0 : v = cor f 0
  · rw [if_pos h0, if_pos h0]
  · rw [if_neg h0, if_neg h0]
    by_cases h1 : v = cor f 1
    · rw [if_pos h1, if_pos h1]
    · rw [if_neg h1, if_neg h1]
      by_cases h2 : v = cor f 2
      · rw [if_pos h2, if_pos h2]
      · rw [if_neg h2, if_neg h2, xa_zero]
/-- The weight of a corner, the corner of a triangle towards it. -/
def cw (A B C : Int) (k : Nat) : Int := if k = 0 then A else if k = 1 then B else C
def pt (n : Nat) (A B C : Int) (k : Nat) : Nat × Nat := if k = 0 then (xa n A + 1, xa n B) else if k = 1 then (xa n A, xa n B + 1) else (xa n A, xa n B)
theorem wn_pt {n f k : Nat} {A B C : Int} (hf : f < 20) (hk : k < 3) (hs : xa n A + xa n B + xa n C + 1 = n) (v : Nat) : wn f (pt n A B C k).1 (pt n A B C k).2 (n - (pt n A B C k).1 - (pt n A B C k).2) v = xa n (wt f A B C v) + (if v = cor f k then 1 else 0) := by
  obtain ⟨c1, c2, c3⟩ := cor_ne f hf
  rw [← wn_xa]
  rcases (by omega : k = 0 ∨ k = 1 ∨ k = 2) with rfl | rfl | rfl
  · simp only [pt, if_true]
    unfold wn
    by_cases h0 : v = cor f 0
    · rw [if_pos h0, if_pos h0, if_pos h0]
    · rw [if_neg h0, if_neg h0, if_neg h0]
      by_cases h1 : v = cor f 1
      · rw [if_pos h1, if_pos h1]; omega
      · rw [if_neg h1, if_neg h1]
        by_cases h2 : v = cor f 2
        · rw [if_pos h2, if_pos h2]; omega
        · rw [if_neg h2, if_neg h2]
  · simp only [pt, if_true, if_false, Nat.one_ne_zero]
    unfold wn
    by_cases h0 : v = cor f 0
    · rw [if_pos h0, if_pos h0, if_neg (fun e => c1 (h0.symm.trans e))]; omega
    · rw [if_neg h0, if_neg h0]
      by_cases h1 : v = cor f 1
      · rw [if_pos h1, if_pos h1, if_pos h1]
      · rw [if_neg h1, if_neg h1, if_neg h1]
        by_cases h2 : v = cor f 2
        · rw [if_pos h2, if_pos h2]; omega
        · rw [if_neg h2, if_neg h2]
  · simp only [pt]
    rw [if_neg (by decide), if_neg (by decide)]
    simp only
    unfold wn
    by_cases h0 : v = cor f 0
    · rw [if_pos h0, if_pos h0, if_neg (fun e => c3 (h0.symm.trans e))]; omega
    · rw [if_neg h0, if_neg h0]
      by_cases h1 : v = cor f 1
      · rw [if_pos h1, if_pos h1, if_neg (fun e => c2 (h1.symm.trans e))]; omega
      · rw [if_neg h1, if_neg h1]
        by_cases h2 : v = cor f 2
        · rw [if_pos h2, if_pos h2, if_pos h2]; omega
        · rw [if_neg h2, if_neg h2, if_neg h2]
theorem tri_840 {n : Nat} {A B C : Int} (h0 : rs n A + rs n B + rs n C = 840) (t : (Nat × Nat) × Int) : t ∈ tri n A B C ↔ ∃ k, k < 3 ∧ t = (pt n A B C k, rs n (cw A B C k)) := by
  unfold tri
  rw [if_neg (by omega), if_pos h0]
  simp only [List.mem_cons, List.not_mem_nil, or_false]
  constructor
  · rintro (rfl | rfl | rfl)
    · exact ⟨0, by omega, rfl⟩
    · exact ⟨1, by omega, rfl⟩
    · exact ⟨2, by omega, rfl⟩
  · rintro ⟨k, hk, rfl⟩
    rcases (by omega : k = 0 ∨ k = 1 ∨ k = 2) with rfl | rfl | rfl
    · exact .inl rfl
    · exact .inr (.inl rfl)
    · exact .inr (.inr rfl)
theorem wt_cor {f k : Nat} {A B C : Int} (hf : f < 20) (hk : k < 3) : wt f A B C (cor f k) = cw A B C k := by
  rcases (by omega : k = 0 ∨ k = 1 ∨ k = 2) with rfl | rfl | rfl
  · rw [wt0]; rfl
  · rw [wt1 hf]; rfl
  · rw [wt2 hf]; rfl
theorem cor_of {g : Nat} {A B C : Int} {v : Nat} (h : wt g A B C v ≠ 0) : ∃ j, j < 3 ∧ v = cor g j := by
  unfold wt at h
  split at h
  · exact ⟨0, by omega, by assumption⟩
  · split at h
    · exact ⟨1, by omega, by assumption⟩
    · split at h
      · exact ⟨2, by omega, by assumption⟩
      · exact absurd rfl h
/-- The sum over the corners of a face is that over all vertices. -/
def s12 (φ : Int → Int) (W : Nat → Int) : Int := φ (W 0) + φ (W 1) + φ (W 2) + φ (W 3) + φ (W 4) + φ (W 5) + φ (W 6) + φ (W 7) + φ (W 8) + φ (W 9) + φ (W 10) + φ (W 11)
theorem s12_eq (φ : Int → Int) (h0 : φ 0 = 0) {f : Nat} (hf : f < 20) (A B C : Int) : φ A + φ B + φ C = s12 φ (wt f A B C) := by
  rcases twenty' hf with rfl | rfl | rfl | rfl | rfl | rfl | rfl | rfl | rfl | rfl | rfl | rfl | rfl | rfl | rfl | rfl | rfl | rfl | rfl | rfl <;>
    (simp only [s12, wt, cor, T]; simp [h0]; try omega)
theorem face_of : ∀ f, f < 20 → ∀ g, g < 20 → (has g (cor f 0) && has g (cor f 1) && has g (cor f 2)) = true → f = g := by decide +kernel
/-- TWO ADDRESSES OF ONE PLACE HAVE THE SAME NODES WITH THE SAME WEIGHTS. -/
theorem shl_sub {n f g : Nat} {A B C A' B' C' : Int} (h1 : 1 ≤ n) (h5 : n ≤ 5) (hv : Vld f A B C) (hw : Vld g A' B' C') (h : ∀ v, wt f A B C v = wt g A' B' C' v) : ∀ x ∈ shl n f (tri n A B C), x ∈ shl n g (tri n A' B' C') := by
  have hn : frq n := ⟨h1, by omega⟩
  have hf := hv.1
  have hg := hw.1
  intro x hx
  obtain ⟨t, ht, hp, rfl⟩ := shl_mem.1 hx
  have hS : rs n A + rs n B + rs n C = rs n A' + rs n B' + rs n C' := by
    rw [s12_eq (rs n) (rs_zero n) hf, s12_eq (rs n) (rs_zero n) hg, show wt f A B C = wt g A' B' C' from funext h]
  obtain ⟨⟨r1, r2, r3, r4, r5, r6⟩, hc⟩ := cut hn hv
  obtain ⟨-, hc'⟩ := cut hn hw
  rcases hc with ⟨e1, e2, e3, e4⟩ | ⟨e1, e2⟩ | ⟨e1, e2⟩
  · have e4' : xa n A' + xa n B' + xa n C' = n := by
      rcases hc' with ⟨q1, q2, q3, q4⟩ | ⟨q1, q2⟩ | ⟨q1, q2⟩
      · exact q4
      · omega
      · omega
    unfold tri at ht
    rw [if_pos (by omega)] at ht
    simp only [List.mem_cons, List.not_mem_nil, or_false] at ht
    have ht' : t = ((xa n A, xa n B), 840) := by
      rcases ht with rfl | rfl | rfl
      · rfl
      · exact absurd hp (by simp)
      · exact absurd hp (by simp)
    subst ht'
    refine shl_mem.2 ⟨((xa n A', xa n B'), 840), ?_, by show (0 : Int) < 840; decide, ?_⟩
    · unfold tri
      rw [if_pos (by omega)]
      simp
    · simp only
      rw [idx_same h1 h5 hf hg (show xa n A + xa n B ≤ n by omega) (show xa n A' + xa n B' ≤ n by omega) (fun v => by
        rw [show n - xa n A - xa n B = xa n C by omega, show n - xa n A' - xa n B' = xa n C' by omega, wn_xa, wn_xa, h v])]
  · have e1' : rs n A' + rs n B' + rs n C' = 840 := by omega
    have e2' : xa n A' + xa n B' + xa n C' + 1 = n := by
      rcases hc' with ⟨q1, q2, q3, q4⟩ | ⟨q1, q2⟩ | ⟨q1, q2⟩
      · omega
      · exact q2
      · omega
    obtain ⟨k, hk, rfl⟩ := (tri_840 e1 t).1 ht
    have hne : wt g A' B' C' (cor f k) ≠ 0 := fun e => by
      rw [← h, wt_cor hf hk] at e
      simp only at hp
      rw [e, rs_zero] at hp
      exact absurd hp (by decide)
    obtain ⟨j, hj, ej⟩ := cor_of hne
    have ew : cw A B C k = cw A' B' C' j := by rw [← wt_cor hf hk, ← wt_cor hg hj, h, ej]
    refine shl_mem.2 ⟨(pt n A' B' C' j, rs n (cw A' B' C' j)), (tri_840 e1' _).2 ⟨j, hj, rfl⟩, by rw [← ew]; exact hp, ?_⟩
    simp only
    have p1 := (tri_in hn hv).2.1 _ ht
    have p2 := (tri_in hn hw).2.1 _ ((tri_840 e1' _).2 ⟨j, hj, rfl⟩)
    rw [idx_same h1 h5 hf hg (p1.2.2 hp) (p2.2.2 (by rw [← ew]; exact hp)) (fun v => by rw [wn_pt hf hk e2, wn_pt hg hj e2', h v, ej]), ew]
  · have key : ∀ k, k < 3 → has g (cor f k) = true := fun k hk => by
      have hne : wt g A' B' C' (cor f k) ≠ 0 := fun e => by
        rw [← h, wt_cor hf hk] at e
        have := rs_zero n
        rcases (by omega : k = 0 ∨ k = 1 ∨ k = 2) with rfl | rfl | rfl
        · rw [show A = 0 from e] at e1 r2; omega
        · rw [show B = 0 from e] at e1 r4; omega
        · rw [show C = 0 from e] at e1 r6; omega
      obtain ⟨j, hj, ej⟩ := cor_of hne
      unfold has
      rcases (by omega : j = 0 ∨ j = 1 ∨ j = 2) with rfl | rfl | rfl <;> simp [ej]
    have efg : f = g := face_of f hf g hg (by rw [key 0 (by omega), key 1 (by omega), key 2 (by omega)]; rfl)
    subst efg
    have a := h (cor f 0)
    have b := h (cor f 1)
    have c := h (cor f 2)
    rw [wt0, wt0] at a
    rw [wt1 hf, wt1 hf] at b
    rw [wt2 hf, wt2 hf] at c
    subst a b c
    exact shl_mem.2 ⟨t, ht, hp, rfl⟩
theorem nodup_of {l : List (Nat × Int)} (h : l.Pairwise (fun a b => a.1 ≠ b.1)) : l.Nodup := h.imp (fun h e => h (by rw [e]))
theorem loc_same {n f g : Nat} {A B C A' B' C' : Int} (h1 : 1 ≤ n) (h5 : n ≤ 5) (hv : Vld f A B C) (hw : Vld g A' B' C') (h : ∀ v, wt f A B C v = wt g A' B' C' v) : loc n f A B C = loc n g A' B' C' := by
  have hn : frq n := ⟨h1, by omega⟩
  refine loc_uniq hn hw ?_ (srt_sorted _)
  refine (srt_perm _).trans ?_
  exact (List.perm_ext_iff_of_nodup (nodup_of (shl_ne hn hv)) (nodup_of (shl_ne hn hw))).2 fun x => ⟨shl_sub h1 h5 hv hw h x, shl_sub h1 h5 hw hv (fun v => (h v).symm) x⟩
/-- A sum over a list. -/
def sI (φ : Nat × Int → Int) : List (Nat × Int) → Int
  | [] => 0
  | x :: r => φ x + sI φ r
theorem sI_app (φ : Nat × Int → Int) : ∀ l m, sI φ (l ++ m) = sI φ l + sI φ m
  | [], m => by simp [sI]
  | x :: r, m => by
    show φ x + sI φ (r ++ m) = (φ x + sI φ r) + sI φ m
    rw [sI_app φ r m]; omega
theorem sI_perm (φ : Nat × Int → Int) {l m : List (Nat × Int)} (h : l.Perm m) : sI φ l = sI φ m := by
  induction h with
  | nil => rfl
  | cons x _ ih => unfold sI; rw [ih]
  | swap x y l => simp only [sI]; omega
  | trans _ _ h1 h2 => exact h1.trans h2
/-- A weight in the units of places. -/
def wd' (n a : Nat) : Int := ((a * (840 / n) : Nat) : Int)
/-- The weight of a vertex in a node. -/
def wtn (n k v : Nat) : Int := wd' n (wn (nd n k).1 (nd n k).2.1 (nd n k).2.2 (n - (nd n k).2.1 - (nd n k).2.2) v)
theorem wtn_idx {n f a b : Nat} (hn : frq n) (hf : f < 20) (hab : a + b ≤ n) (v : Nat) : wtn n (idx n f a b) v = wd' n (wn f a b (n - a - b) v) := by
  obtain ⟨-, l1, e1⟩ := ix_of hn hf hab
  obtain ⟨h1, h2, -⟩ := nd_in hn l1
  unfold frq at hn
  have e2 : pk (nd n (idx n f a b)).1 (nd n (idx n f a b)).2.1 (nd n (idx n f a b)).2.2 (n - (nd n (idx n f a b)).2.1 - (nd n (idx n f a b)).2.2) = pk f a b (n - a - b) := e1
  unfold wtn
  rw [pk_wn h1 hf (by omega) (by omega) (by omega) (by omega) (by omega) (by omega) e2 v]
theorem wd_id {n : Nat} {X : Int} (hn : frq n) (h0 : 0 ≤ X) : 840 * wd' n (xa n X) + wd' n 1 * rs n X = 840 * X := by
  rcases eight hn with rfl | rfl | rfl | rfl | rfl | rfl | rfl | rfl <;> (simp only [wd', xa, rs]; simp; omega)
theorem wd_succ' (n a : Nat) : wd' n (a + 1) = wd' n a + wd' n 1 := by
  unfold wd'
  rw [Nat.add_mul, Nat.one_mul]
  omega
/-- What the shares of the corners add up to at a vertex. -/
theorem sI_shl {n f : Nat} (hn : frq n) (hf : f < 20) (v : Nat) : ∀ (T : List ((Nat × Nat) × Int)), (∀ t ∈ T, 0 ≤ t.2 ∧ (0 < t.2 → t.1.1 + t.1.2 ≤ n)) → sI (fun x => x.2 * wtn n x.1 v) (shl n f T) = (T.map fun t => t.2 * wd' n (wn f t.1.1 t.1.2 (n - t.1.1 - t.1.2) v)).foldr (· + ·) 0
  | [], _ => rfl
  | t :: r, h => by
    have ih := sI_shl hn hf v r (fun q hq => h q (by simp [hq]))
    obtain ⟨h0, h1⟩ := h t (by simp)
    rw [List.map_cons, List.foldr_cons, ← ih]
    by_cases hp : 0 < t.2
    · have e : shl n f (t :: r) = (idx n f t.1.1 t.1.2, t.2) :: shl n f r := by simp [shl, hp]
      rw [e]
      show t.2 * wtn n (idx n f t.1.1 t.1.2) v + sI (fun x => x.2 * wtn n x.1 v) (shl n f r) = _
      rw [wtn_idx hn hf (h1 hp)]
    · have e : shl n f (t :: r) = shl n f r := by simp [shl, hp]
      rw [e, show t.2 = 0 by omega, Int.zero_mul, Int.zero_add]
theorem wn_add (f a b c x y z v : Nat) : wn f (a + x) (b + y) (c + z) v = wn f a b c v + wn f x y z v := by
  unfold wn
  split
  · rfl
  · split
    · rfl
    · split <;> rfl
theorem wd_add (n a b : Nat) : wd' n (a + b) = wd' n a + (b : Int) * wd' n 1 := by
  unfold wd'
  rw [Nat.add_mul, Nat.one_mul]
  simp only [Int.natCast_add, Int.natCast_mul]
theorem mulg (a b c P h i j k : Int) : a * (P + i * h) + (b * (P + j * h) + (c * (P + k * h) + 0)) = (a + b + c) * P + (a * i + b * j + c * k) * h := by
  simp only [Int.mul_add, Int.add_mul, Int.mul_assoc]; omega
theorem wn_at {f : Nat} (hf : f < 20) (x y z v : Nat) : (v = cor f 0 ∧ wn f x y z v = x) ∨ (v = cor f 1 ∧ wn f x y z v = y) ∨ (v = cor f 2 ∧ wn f x y z v = z) ∨ (v ≠ cor f 0 ∧ v ≠ cor f 1 ∧ v ≠ cor f 2 ∧ wn f x y z v = 0) := by
  obtain ⟨c1, c2, c3⟩ := cor_ne f hf
  unfold wn
  by_cases h0 : v = cor f 0
  · exact .inl ⟨h0, if_pos h0⟩
  · by_cases h1 : v = cor f 1
    · exact .inr (.inl ⟨h1, by rw [if_neg h0, if_pos h1]⟩)
    · by_cases h2 : v = cor f 2
      · exact .inr (.inr (.inl ⟨h2, by rw [if_neg h0, if_neg h1, if_pos h2]⟩))
      · exact .inr (.inr (.inr ⟨h0, h1, h2, by rw [if_neg h0, if_neg h1, if_neg h2]⟩))
theorem wn_lit {f : Nat} (hf : f < 20) (x y z v : Nat) : (v = cor f 0 → wn f x y z v = x) ∧ (v = cor f 1 → wn f x y z v = y) ∧ (v = cor f 2 → wn f x y z v = z) ∧ (v ≠ cor f 0 → v ≠ cor f 1 → v ≠ cor f 2 → wn f x y z v = 0) := by
  obtain ⟨c1, c2, c3⟩ := cor_ne f hf
  refine ⟨fun h => by unfold wn; rw [if_pos h], fun h => ?_, fun h => ?_, fun h0 h1 h2 => by unfold wn; rw [if_neg h0, if_neg h1, if_neg h2]⟩
  · unfold wn; rw [if_neg (fun e => c1 (e.symm.trans h)), if_pos h]
  · unfold wn; rw [if_neg (fun e => c3 (e.symm.trans h)), if_neg (fun e => c2 (e.symm.trans h)), if_pos h]
theorem rs_at {n f : Nat} (hf : f < 20) (A B C : Int) (v : Nat) : (v = cor f 0 → rs n (wt f A B C v) = rs n A) ∧ (v = cor f 1 → rs n (wt f A B C v) = rs n B) ∧ (v = cor f 2 → rs n (wt f A B C v) = rs n C) ∧ (v ≠ cor f 0 → v ≠ cor f 1 → v ≠ cor f 2 → rs n (wt f A B C v) = 0) := by
  refine ⟨fun h => by rw [h, wt0], fun h => by rw [h, wt1 hf], fun h => by rw [h, wt2 hf], fun h0 h1 h2 => ?_⟩
  unfold wt
  rw [if_neg h0, if_neg h1, if_neg h2, rs_zero]
/-- Three shares at points around a place. -/
theorem three_shares {n f : Nat} (A B C : Int) (u0 u1 u2 : Int) (x0 y0 z0 x1 y1 z1 x2 y2 z2 v : Nat) (hu : u0 + u1 + u2 = 840)
    (hk : u0 * (wn f x0 y0 z0 v : Int) + u1 * (wn f x1 y1 z1 v : Int) + u2 * (wn f x2 y2 z2 v : Int) = rs n (wt f A B C v)) :
    u0 * wd' n (wn f (xa n A + x0) (xa n B + y0) (xa n C + z0) v) + (u1 * wd' n (wn f (xa n A + x1) (xa n B + y1) (xa n C + z1) v) + (u2 * wd' n (wn f (xa n A + x2) (xa n B + y2) (xa n C + z2) v) + 0)) = 840 * wd' n (xa n (wt f A B C v)) + wd' n 1 * rs n (wt f A B C v) := by
  rw [wn_add, wn_add, wn_add, wn_xa, wd_add, wd_add, wd_add, mulg, hu, hk, Int.mul_comm (rs n _)]
/-- A LINEAR FUNCTION IS REPRODUCED: the weights of the nodes around a place add up to 840 times its own. -/
theorem loc_sum {n f : Nat} {A B C : Int} (hn : frq n) (hv : Vld f A B C) (v : Nat) : sI (fun x => x.2 * wtn n x.1 v) (loc n f A B C) = 840 * wt f A B C v := by
  have hf := hv.1
  have ht := tri_in hn hv
  unfold loc
  rw [sI_perm _ (srt_perm _), sI_shl hn hf v _ (fun t h => ⟨(ht.2.1 t h).1, (ht.2.1 t h).2.2⟩)]
  obtain ⟨⟨r1, r2, r3, r4, r5, r6⟩, hc⟩ := cut hn hv
  have hid := wd_id (X := wt f A B C v) hn (wt_bd hv v).1
  rw [← hid]
  clear hid
  obtain ⟨ra, rb, rc, rd⟩ := rs_at (n := n) hf A B C v
  rcases hc with ⟨e1, e2, e3, e4⟩ | ⟨e1, e2⟩ | ⟨e1, e2⟩
  · unfold tri
    rw [if_pos (by omega)]
    simp only [List.map_cons, List.map_nil, List.foldr_cons, List.foldr_nil]
    rw [show n - xa n A - xa n B = xa n C by omega, wn_xa]
    have : rs n (wt f A B C v) = 0 := by
      unfold wt
      split
      · exact e1
      · split
        · exact e2
        · split
          · exact e3
          · exact rs_zero n
    rw [this]
    omega
  · unfold tri
    rw [if_neg (by omega), if_pos e1]
    simp only [List.map_cons, List.map_nil, List.foldr_cons, List.foldr_nil]
    rw [show n - (xa n A + 1) - xa n B = xa n C + 0 by omega, show n - xa n A - (xa n B + 1) = xa n C + 0 by omega, show n - xa n A - xa n B = xa n C + 1 by omega]
    refine three_shares (n := n) A B C (rs n A) (rs n B) (rs n C) 1 0 0 0 1 0 0 0 1 v e1 ?_
    rcases wn_at hf 0 0 0 v with ⟨h, -⟩ | ⟨h, -⟩ | ⟨h, -⟩ | ⟨h0, h1, h2, -⟩
    · rw [(wn_lit hf 1 0 0 v).1 h, (wn_lit hf 0 1 0 v).1 h, (wn_lit hf 0 0 1 v).1 h, ra h]; omega
    · rw [(wn_lit hf 1 0 0 v).2.1 h, (wn_lit hf 0 1 0 v).2.1 h, (wn_lit hf 0 0 1 v).2.1 h, rb h]; omega
    · rw [(wn_lit hf 1 0 0 v).2.2.1 h, (wn_lit hf 0 1 0 v).2.2.1 h, (wn_lit hf 0 0 1 v).2.2.1 h, rc h]; omega
    · rw [(wn_lit hf 1 0 0 v).2.2.2 h0 h1 h2, (wn_lit hf 0 1 0 v).2.2.2 h0 h1 h2, (wn_lit hf 0 0 1 v).2.2.2 h0 h1 h2, rd h0 h1 h2]; omega
  · unfold tri
    rw [if_neg (by omega), if_neg (by omega)]
    simp only [List.map_cons, List.map_nil, List.foldr_cons, List.foldr_nil]
    rw [show n - xa n A - (xa n B + 1) = xa n C + 1 by omega, show n - (xa n A + 1) - xa n B = xa n C + 1 by omega, show n - (xa n A + 1) - (xa n B + 1) = xa n C + 0 by omega]
    refine three_shares (n := n) A B C (840 - rs n A) (840 - rs n B) (840 - rs n C) 0 1 1 1 0 1 1 1 0 v (by omega) ?_
    rcases wn_at hf 0 0 0 v with ⟨h, -⟩ | ⟨h, -⟩ | ⟨h, -⟩ | ⟨h0, h1, h2, -⟩
    · rw [(wn_lit hf 0 1 1 v).1 h, (wn_lit hf 1 0 1 v).1 h, (wn_lit hf 1 1 0 v).1 h, ra h]; omega
    · rw [(wn_lit hf 0 1 1 v).2.1 h, (wn_lit hf 1 0 1 v).2.1 h, (wn_lit hf 1 1 0 v).2.1 h, rb h]; omega
    · rw [(wn_lit hf 0 1 1 v).2.2.1 h, (wn_lit hf 1 0 1 v).2.2.1 h, (wn_lit hf 1 1 0 v).2.2.1 h, rc h]; omega
    · rw [(wn_lit hf 0 1 1 v).2.2.2 h0 h1 h2, (wn_lit hf 1 0 1 v).2.2.2 h0 h1 h2, (wn_lit hf 1 1 0 v).2.2.2 h0 h1 h2, rd h0 h1 h2]; omega
/-- The weights of all shares add up to 840. -/
theorem loc_all {n f : Nat} {A B C : Int} (hn : frq n) (hv : Vld f A B C) : sI (fun x => x.2) (loc n f A B C) = 840 := by
  obtain ⟨⟨r1, r2, r3, r4, r5, r6⟩, hc⟩ := cut hn hv
  have key : ∀ (T : List ((Nat × Nat) × Int)), (∀ t ∈ T, 0 ≤ t.2) → sI (fun x => x.2) (shl n f T) = (T.map fun t => t.2).foldr (· + ·) 0 := by
    intro T
    induction T with
    | nil => intro _; rfl
    | cons t r ih =>
      intro h
      have ih := ih (fun q hq => h q (by simp [hq]))
      have h0 := h t (by simp)
      rw [List.map_cons, List.foldr_cons, ← ih]
      by_cases hp : 0 < t.2
      · have e : shl n f (t :: r) = (idx n f t.1.1 t.1.2, t.2) :: shl n f r := by simp [shl, hp]
        rw [e]; rfl
      · have e : shl n f (t :: r) = shl n f r := by simp [shl, hp]
        rw [e]; omega
  unfold loc
  rw [sI_perm _ (srt_perm _), key _ (fun t h => ((tri_in hn hv).2.1 t h).1)]
  unfold tri
  rcases hc with ⟨e1, e2, e3, e4⟩ | ⟨e1, e2⟩ | ⟨e1, e2⟩
  · rw [if_pos (by omega)]; rfl
  · rw [if_neg (by omega), if_pos e1]; simp; omega
  · rw [if_neg (by omega), if_neg (by omega)]; simp; omega
/-- Any two nodes around a place are neighbours. -/
theorem loc_near {n f : Nat} {A B C : Int} (hn : frq n) (hv : Vld f A B C) {x y : Nat × Int} (hx : x ∈ loc n f A B C) (hy : y ∈ loc n f A B C) (hne : x.1 ≠ y.1) : y.1 ∈ nbs n x.1 := by
  have hf := hv.1
  obtain ⟨⟨r1, r2, r3, r4, r5, r6⟩, hc⟩ := cut hn hv
  obtain ⟨t, ht, hp, ex⟩ := shl_mem.1 ((srt_perm _).mem_iff.1 hx)
  obtain ⟨s, hs, hq, ey⟩ := shl_mem.1 ((srt_perm _).mem_iff.1 hy)
  have hlt : x.1 < 10 * n * n + 2 := (loc_in hn hv x hx).1
  refine (nbs_iff hn hlt).2 ?_
  unfold tri at ht hs
  rcases hc with ⟨e1, e2, e3, e4⟩ | ⟨e1, e2⟩ | ⟨e1, e2⟩
  · rw [if_pos (by omega)] at ht hs
    simp only [List.mem_cons, List.not_mem_nil, or_false] at ht hs
    exfalso
    have a : t.1 = (xa n A, xa n B) := by rcases ht with rfl | rfl | rfl <;> rfl
    have b : s.1 = (xa n A, xa n B) := by rcases hs with rfl | rfl | rfl <;> rfl
    rw [ex, ey] at hne
    simp only [a, b] at hne
    exact hne rfl
  · rw [if_neg (by omega), if_pos e1] at ht hs
    simp only [List.mem_cons, List.not_mem_nil, or_false] at ht hs
    refine ⟨up n f (xa n A) (xa n B), cls_mem.2 ⟨f, _, _, hf, by omega, .inl rfl⟩, ?_⟩
    rw [ex, ey] at hne ⊢
    rcases ht with rfl | rfl | rfl <;> rcases hs with rfl | rfl | rfl <;> first | exact absurd rfl hne | simp [prs, up]
  · rw [if_neg (by omega), if_neg (by omega)] at ht hs
    simp only [List.mem_cons, List.not_mem_nil, or_false] at ht hs
    refine ⟨dn n f (xa n A) (xa n B), cls_mem.2 ⟨f, _, _, hf, by omega, .inr ⟨by omega, rfl⟩⟩, ?_⟩
    rw [ex, ey] at hne ⊢
    rcases ht with rfl | rfl | rfl <;> rcases hs with rfl | rfl | rfl <;> first | exact absurd rfl hne | simp [prs, dn]
end Go.Proofs.Ytehehhehilgnkaa.Lat
