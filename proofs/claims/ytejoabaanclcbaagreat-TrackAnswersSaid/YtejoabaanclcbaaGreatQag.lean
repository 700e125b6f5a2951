/- Texts of this proof. -/
import Derived.Test.YtejoabaanclcbaaGreatQac
namespace Go.Proofs.YtejoabaanclcbaaGreat.Lat
open Ico

theorem pk_ab {n f a b x y : Nat} (hn : frq n) (hf : f < 20) (h1 : a + b ≤ n) (h2 : x + y ≤ n) (h : pk f a b (n - a - b) = pk f x y (n - x - y)) : a = x ∧ b = y := by
  unfold frq at hn
  have e := pk_wn hf hf (by omega) (by omega) (by omega) (by omega) (by omega) (by omega) h
  obtain ⟨c1, c2, c3⟩ := cor_ne f hf
  have e0 := e (cor f 0)
  have e1 := e (cor f 1)
  simp only [wn, if_true, if_neg (Ne.symm c1)] at e0 e1
  exact ⟨e0, e1⟩
theorem idx_inj {n f a b x y : Nat} (hn : frq n) (hf : f < 20) (h1 : a + b ≤ n) (h2 : x + y ≤ n) (h : idx n f a b = idx n f x y) : a = x ∧ b = y := by
  have e1 := (ix_of hn hf h1).2.2
  have e2 := (ix_of hn hf h2).2.2
  rw [h, e2] at e1
  exact pk_ab hn hf h1 h2 e1.symm
theorem idx_lt {n f a b : Nat} (hn : frq n) (hf : f < 20) (h1 : a + b ≤ n) : idx n f a b < 1000 := by
  have := (ix_of hn hf h1).2.1
  rcases eight hn with rfl | rfl | rfl | rfl | rfl | rfl | rfl | rfl <;> omega
/-- How often the width of a triangle goes into a weight, and what is left, times the frequency. -/
def xa (n : Nat) (A : Int) : Nat := (A / ((840 / n : Nat) : Int)).toNat
def rs (n : Nat) (A : Int) : Int := A % ((840 / n : Nat) : Int) * n
/-- The cases of P3.4. -/
theorem cut {n f : Nat} {A B C : Int} (hn : frq n) (h : Vld f A B C) :
    (0 ≤ rs n A ∧ rs n A < 840 ∧ 0 ≤ rs n B ∧ rs n B < 840 ∧ 0 ≤ rs n C ∧ rs n C < 840) ∧
    ((rs n A = 0 ∧ rs n B = 0 ∧ rs n C = 0 ∧ xa n A + xa n B + xa n C = n) ∨ (rs n A + rs n B + rs n C = 840 ∧ xa n A + xa n B + xa n C + 1 = n) ∨ (rs n A + rs n B + rs n C = 1680 ∧ xa n A + xa n B + xa n C + 2 = n)) := by
  obtain ⟨-, a1, a2, b1, b2, c1, c2, s⟩ := h
  rcases eight hn with rfl | rfl | rfl | rfl | rfl | rfl | rfl | rfl <;> (simp only [rs, xa]; simp; omega)
theorem div_eq {n : Nat} {A : Int} (hn : frq n) (h0 : 0 ≤ A) : A / ((840 : Int) / (n : Int)) = (xa n A : Int) ∧ A % ((840 : Int) / (n : Int)) * (n : Int) = rs n A ∧ 0 < (840 : Int) / (n : Int) ∧ (840 : Int) / (n : Int) ≤ 840 ∧ 0 ≤ A % ((840 : Int) / (n : Int)) ∧ A % ((840 : Int) / (n : Int)) < 840 := by
  rcases eight hn with rfl | rfl | rfl | rfl | rfl | rfl | rfl | rfl <;> (simp only [rs, xa]; simp; omega)
/-- The corners around a place with their weights. -/
def tri (n : Nat) (A B C : Int) : List ((Nat × Nat) × Int) :=
  if rs n A + rs n B + rs n C = 0 then [((xa n A, xa n B), 840), ((xa n A, xa n B), 0), ((xa n A, xa n B), 0)]
  else if rs n A + rs n B + rs n C = 840 then [((xa n A + 1, xa n B), rs n A), ((xa n A, xa n B + 1), rs n B), ((xa n A, xa n B), rs n C)]
  else [((xa n A, xa n B + 1), 840 - rs n A), ((xa n A + 1, xa n B), 840 - rs n B), ((xa n A + 1, xa n B + 1), 840 - rs n C)]
/-- Those that have a weight, with their indexes. -/
def shl (n f : Nat) (T : List ((Nat × Nat) × Int)) : List (Nat × Int) := T.filterMap fun t => if 0 < t.2 then some (idx n f t.1.1 t.1.2, t.2) else none
theorem shl_yes {n f : Nat} {T : List ((Nat × Nat) × Int)} {t : (Nat × Nat) × Int} (h : 0 < t.2) : shl n f (T ++ [t]) = shl n f T ++ [(idx n f t.1.1 t.1.2, t.2)] := by simp [shl, List.filterMap_append, h]
theorem shl_no {n f : Nat} {T : List ((Nat × Nat) × Int)} {t : (Nat × Nat) × Int} (h : ¬ 0 < t.2) : shl n f (T ++ [t]) = shl n f T := by simp [shl, List.filterMap_append, h]
def ins (x : Nat × Int) : List (Nat × Int) → List (Nat × Int)
  | [] => [x]
  | y :: r => if x.1 ≤ y.1 then x :: y :: r else y :: ins x r
def srt (l : List (Nat × Int)) : List (Nat × Int) := l.foldr ins []
theorem ins_perm (x : Nat × Int) : ∀ l, (ins x l).Perm (x :: l)
  | [] => List.Perm.refl _
  | y :: r => by
    unfold ins
    split
    · exact List.Perm.refl _
    · exact ((ins_perm x r).cons y).trans (List.Perm.swap x y r)
theorem srt_perm : ∀ l, (srt l).Perm l
  | [] => List.Perm.refl _
  | x :: r => (ins_perm x (srt r)).trans ((srt_perm r).cons x)
theorem ins_sorted (x : Nat × Int) : ∀ l, l.Pairwise (fun a b : Nat × Int => a.1 ≤ b.1) → (ins x l).Pairwise (fun a b => a.1 ≤ b.1)
  | [], _ => by simp [ins]
  | y :: r, h => by
    obtain ⟨h1, h2⟩ := List.pairwise_cons.1 h
    unfold ins
    split
    · rename_i hxy
      refine List.pairwise_cons.2 ⟨fun z hz => ?_, h⟩
      rcases List.mem_cons.1 hz with rfl | hz
      · exact hxy
      · exact Nat.le_trans hxy (h1 z hz)
    · rename_i hxy
      refine List.pairwise_cons.2 ⟨fun z hz => ?_, ins_sorted x r h2⟩
      rcases List.mem_cons.1 ((ins_perm x r).mem_iff.1 hz) with rfl | hz
      · omega
      · exact h1 z hz
theorem srt_sorted : ∀ l, (srt l).Pairwise (fun a b => a.1 ≤ b.1)
  | [] => List.Pairwise.nil
  | x :: r => ins_sorted x _ (srt_sorted r)
theorem srt_uniq : ∀ {l m : List (Nat × Int)}, l.Perm m → l.Pairwise (fun a b => a.1 ≤ b.1) → m.Pairwise (fun a b => a.1 ≤ b.1) → l.Pairwise (fun a b => a.1 ≠ b.1) → l = m
  | [], m, h, _, _, _ => (List.nil_perm.1 h).symm
  | x :: r, [], h, _, _, _ => by simp at h
  | x :: r, y :: s, h, h1, h2, h3 => by
    obtain ⟨a1, a2⟩ := List.pairwise_cons.1 h1
    obtain ⟨b1, b2⟩ := List.pairwise_cons.1 h2
    obtain ⟨c1, c2⟩ := List.pairwise_cons.1 h3
    have hxy : x = y := by
      rcases List.mem_cons.1 (h.mem_iff.1 (List.mem_cons_self (a := x) (l := r))) with e | hx
      · exact e
      · rcases List.mem_cons.1 (h.mem_iff.2 (List.mem_cons_self (a := y) (l := s))) with e | hy
        · exact e.symm
        · have := a1 y hy
          have := b1 x hx
          exact absurd (by omega) (c1 y hy)
    subst hxy
    rw [srt_uniq (h.cons_inv) a2 b2 c2]
/-- What Locate returns. -/
def loc (n f : Nat) (A B C : Int) : List (Nat × Int) := srt (shl n f (tri n A B C))
theorem tri_in {n f : Nat} {A B C : Int} (hn : frq n) (h : Vld f A B C) : (tri n A B C).length = 3 ∧ (∀ t ∈ tri n A B C, 0 ≤ t.2 ∧ t.2 ≤ 840 ∧ (0 < t.2 → t.1.1 + t.1.2 ≤ n)) ∧ (∃ t ∈ tri n A B C, 0 < t.2) := by
  obtain ⟨⟨r1, r2, r3, r4, r5, r6⟩, hc⟩ := cut hn h
  unfold tri
  rcases hc with ⟨e1, e2, e3, e4⟩ | ⟨e1, e2⟩ | ⟨e1, e2⟩
  · rw [if_pos (by omega)]
    refine ⟨rfl, ?_, _, List.mem_cons_self, by show (0 : Int) < 840; omega⟩
    intro t ht
    simp only [List.mem_cons, List.not_mem_nil, or_false] at ht
    rcases ht with rfl | rfl | rfl <;> (simp only; omega)
  · rw [if_neg (by omega), if_pos (by omega)]
    refine ⟨rfl, ?_, ?_⟩
    · intro t ht
      simp only [List.mem_cons, List.not_mem_nil, or_false] at ht
      rcases ht with rfl | rfl | rfl <;> (simp only; omega)
    · by_cases p : 0 < rs n A
      · exact ⟨_, List.mem_cons_self, p⟩
      · by_cases q : 0 < rs n B
        · exact ⟨_, List.mem_cons_of_mem _ List.mem_cons_self, q⟩
        · exact ⟨_, List.mem_cons_of_mem _ (List.mem_cons_of_mem _ List.mem_cons_self), by show 0 < rs n C; omega⟩
  · rw [if_neg (by omega), if_neg (by omega)]
    refine ⟨rfl, ?_, ?_⟩
    · intro t ht
      simp only [List.mem_cons, List.not_mem_nil, or_false] at ht
      rcases ht with rfl | rfl | rfl <;> (simp only; omega)
    · exact ⟨_, List.mem_cons_self, by show 0 < 840 - rs n A; omega⟩
theorem shl_mem {n f : Nat} {T : List ((Nat × Nat) × Int)} {x : Nat × Int} : x ∈ shl n f T ↔ ∃ t ∈ T, 0 < t.2 ∧ x = (idx n f t.1.1 t.1.2, t.2) := by
  unfold shl
  rw [List.mem_filterMap]
  constructor
  · rintro ⟨t, ht, h⟩
    by_cases p : 0 < t.2
    · rw [if_pos p] at h; injection h with h; exact ⟨t, ht, p, h.symm⟩
    · rw [if_neg p] at h; cases h
  · rintro ⟨t, ht, p, rfl⟩; exact ⟨t, ht, by rw [if_pos p]⟩
/-- The corners with a weight are apart. -/
theorem shl_ne {n f : Nat} {A B C : Int} (hn : frq n) (h : Vld f A B C) : (shl n f (tri n A B C)).Pairwise (fun a b => a.1 ≠ b.1) := by
  have hf := h.1
  obtain ⟨-, hin, -⟩ := tri_in hn h
  unfold shl
  rw [List.pairwise_filterMap]
  have key : ∀ T : List ((Nat × Nat) × Int), (∀ t ∈ T, 0 < t.2 → t.1.1 + t.1.2 ≤ n) → T.Pairwise (fun s t => 0 < s.2 → 0 < t.2 → s.1 ≠ t.1) → T.Pairwise (fun a a' => ∀ b, (if 0 < a.2 then some (idx n f a.1.1 a.1.2, a.2) else none) = some b → ∀ b', (if 0 < a'.2 then some (idx n f a'.1.1 a'.1.2, a'.2) else none) = some b' → b.1 ≠ b'.1) := by
    intro T hT hp
    refine hp.imp_of_mem fun {s t} hs ht hst b hb b' hb' => ?_
    by_cases p : 0 < s.2
    · by_cases q : 0 < t.2
      · rw [if_pos p] at hb
        rw [if_pos q] at hb'
        injection hb with hb
        injection hb' with hb'
        subst hb hb'
        intro e
        obtain ⟨e1, e2⟩ := idx_inj hn hf (hT s hs p) (hT t ht q) e
        exact hst p q (Prod.ext e1 e2)
      · rw [if_neg q] at hb'; cases hb'
    · rw [if_neg p] at hb; cases hb
  refine key _ (fun t ht => (hin t ht).2.2) ?_
  unfold tri
  split
  · simp
  · split
    · simp [Prod.ext_iff]
      refine ⟨?_, ?_⟩ <;> (intros; omega)
    · simp [Prod.ext_iff]
      refine ⟨?_, ?_⟩ <;> (intros; omega)
/-- Whatever is a sorted arrangement of them is what Locate returns. -/
theorem loc_uniq {n f : Nat} {A B C : Int} (hn : frq n) (h : Vld f A B C) {L : List (Nat × Int)} (hp : L.Perm (shl n f (tri n A B C))) (hs : L.Pairwise (fun a b => a.1 ≤ b.1)) : L = loc n f A B C := by
  unfold loc
  refine srt_uniq (hp.trans (srt_perm _).symm) hs (srt_sorted _) ?_
  exact (hp.symm.pairwise_iff (fun {a b} (h : a.1 ≠ b.1) => h.symm)).1 (shl_ne hn h)
theorem loc_pos {n f : Nat} {A B C : Int} (hn : frq n) (h : Vld f A B C) : 0 < (loc n f A B C).length ∧ (loc n f A B C).length ≤ 3 := by
  obtain ⟨h3, -, t, ht, hp⟩ := tri_in hn h
  have e : (loc n f A B C).length = (shl n f (tri n A B C)).length := (srt_perm _).length_eq
  rw [e]
  refine ⟨List.length_pos_of_mem (shl_mem.2 ⟨t, ht, hp, rfl⟩), ?_⟩
  have := List.length_filterMap_le (fun t : (Nat × Nat) × Int => if 0 < t.2 then some (idx n f t.1.1 t.1.2, t.2) else none) (tri n A B C)
  unfold shl; omega
theorem loc_in {n f : Nat} {A B C : Int} (hn : frq n) (h : Vld f A B C) : ∀ x ∈ loc n f A B C, x.1 < 10 * n * n + 2 ∧ 0 < x.2 ∧ x.2 ≤ 840 := by
  intro x hx
  obtain ⟨t, ht, hp, rfl⟩ := shl_mem.1 ((srt_perm _).mem_iff.1 hx)
  obtain ⟨-, hin, -⟩ := tri_in hn h
  exact ⟨(ix_of hn h.1 ((hin t ht).2.2 hp)).2.1, hp, (hin t ht).2.1⟩
end Go.Proofs.YtejoabaanclcbaaGreat.Lat



namespace Go.Proofs.YtejoabaanclcbaaGreat.Lat
open Ico

/-- The least face with an address, by the weights that are not 0. -/
def nfB (f : Nat) (x y z : Bool) : Nat := ((List.range 20).filter (okB f x y z)).headD 0
theorem nfB_in : ∀ f, f < 20 → nfB f true true true = f := by decide +kernel
/-- The point is inside its face, or its face is the least one. -/
def nrm (n : Nat) (p : Pt) : Bool := (decide (0 < p.2.1) && decide (0 < p.2.2) && decide (0 < n - p.2.1 - p.2.2)) || Nat.beq (nfB p.1 (decide (p.2.1 ≠ 0)) (decide (p.2.2 ≠ 0)) (decide (n - p.2.1 - p.2.2 ≠ 0))) p.1
def incO : List Pt → Bool
  | a :: b :: r => Nat.blt (off a.1 a.2.1 a.2.2) (off b.1 b.2.1 b.2.2) && incO (b :: r)
  | _ => true
def chkR (n : Nat) : Bool := decide ((pts n 20).filter (nrm n) = nodes n) && incO (nodes n)
theorem chkR1 : chkR 1 = true := by decide +kernel
theorem chkR2 : chkR 2 = true := by decide +kernel
theorem chkR3 : chkR 3 = true := by decide +kernel
theorem chkR4 : chkR 4 = true := by decide +kernel
theorem chkR5 : chkR 5 = true := by decide +kernel
theorem chkR6 : chkR 6 = true := by decide +kernel
theorem chkR7 : chkR 7 = true := by decide +kernel
theorem chkR8 : chkR 8 = true := by decide +kernel
theorem chkR_all {n : Nat} (h : frq n) : chkR n = true := by
  rcases eight h with rfl | rfl | rfl | rfl | rfl | rfl | rfl | rfl
  · exact chkR1
  · exact chkR2
  · exact chkR3
  · exact chkR4
  · exact chkR5
  · exact chkR6
  · exact chkR7
  · exact chkR8
theorem nodes_filter {n : Nat} (h : frq n) : (pts n 20).filter (nrm n) = nodes n := by
  have := chkR_all h
  simp only [chkR, Bool.and_eq_true, decide_eq_true_eq] at this
  exact this.1
theorem incO_pw : ∀ {l : List Pt}, incO l = true → l.Pairwise (fun x y => off x.1 x.2.1 x.2.2 < off y.1 y.2.1 y.2.2)
  | [], _ => List.Pairwise.nil
  | [_], _ => by simp
  | a :: b :: r, h => by
    unfold incO at h
    rw [Bool.and_eq_true] at h
    have ih := incO_pw h.2
    refine List.pairwise_cons.2 ⟨fun z hz => ?_, ih⟩
    have hab : off a.1 a.2.1 a.2.2 < off b.1 b.2.1 b.2.2 := by simpa using h.1
    rcases List.mem_cons.1 hz with rfl | hz
    · exact hab
    · exact Nat.lt_trans hab ((List.pairwise_cons.1 ih).1 z hz)
theorem nodes_sorted {n : Nat} (h : frq n) {i j : Nat} (hij : i < j) (hj : j < 10 * n * n + 2) : off (nd n i).1 (nd n i).2.1 (nd n i).2.2 < off (nd n j).1 (nd n j).2.1 (nd n j).2.2 := by
  have := chkR_all h
  simp only [chkR, Bool.and_eq_true, decide_eq_true_eq] at this
  have hp := incO_pw this.2
  have hl := nodes_len h
  have e : ∀ k, k < 10 * n * n + 2 → ∃ hk : k < (nodes n).length, (nodes n)[k] = nd n k := fun k hk => ⟨by omega, by unfold nd; rw [List.getD_eq_getElem?_getD, List.getElem?_eq_getElem (by omega)]; rfl⟩
  obtain ⟨hi, ei⟩ := e i (by omega)
  obtain ⟨hj', ej⟩ := e j hj
  have := List.pairwise_iff_getElem.1 hp i j hi hj' hij
  rwa [ei, ej] at this
/-- Lexicographic order of the points. -/
def lt3 (p q : Pt) : Prop := p.1 < q.1 ∨ (p.1 = q.1 ∧ (p.2.1 < q.2.1 ∨ (p.2.1 = q.2.1 ∧ p.2.2 < q.2.2)))
theorem lt3_of_off {f a b g x y : Nat} (h1 : a ≤ 8) (h2 : b ≤ 8) (h3 : x ≤ 8) (h4 : y ≤ 8) (h : off f a b < off g x y) : lt3 (f, a, b) (g, x, y) := by
  unfold off at h
  unfold lt3
  show f < g ∨ (f = g ∧ (a < x ∨ (a = x ∧ b < y)))
  omega
theorem nd_lt {n : Nat} (h : frq n) {i j : Nat} (hij : i < j) (hj : j < 10 * n * n + 2) : lt3 (nd n i) (nd n j) := by
  obtain ⟨_, b, _⟩ := nd_in h (show i < 10 * n * n + 2 by omega)
  obtain ⟨_, d, _⟩ := nd_in h hj
  have hs := nodes_sorted h hij hj
  unfold frq at h
  exact lt3_of_off (f := (nd n i).1) (a := (nd n i).2.1) (b := (nd n i).2.2) (g := (nd n j).1) (x := (nd n j).2.1) (y := (nd n j).2.2) (by omega) (by omega) (by omega) (by omega) hs
/-- A node's face is the least one with an address. -/
theorem nd_nrm {n k : Nat} (h : frq n) (hk : k < 10 * n * n + 2) : nfB (nd n k).1 (decide ((nd n k).2.1 ≠ 0)) (decide ((nd n k).2.2 ≠ 0)) (decide (n - (nd n k).2.1 - (nd n k).2.2 ≠ 0)) = (nd n k).1 := by
  have hl := nodes_len h
  have hm : nd n k ∈ nodes n := by
    unfold nd; rw [List.getD_eq_getElem?_getD, List.getElem?_eq_getElem (by omega)]; exact List.getElem_mem _
  rw [← nodes_filter h] at hm
  obtain ⟨-, h2⟩ := List.mem_filter.1 hm
  unfold nrm at h2
  rw [Bool.or_eq_true] at h2
  rcases h2 with h2 | h2
  · simp only [Bool.and_eq_true, decide_eq_true_eq] at h2
    rw [decide_eq_true (by omega), decide_eq_true (by omega), decide_eq_true (by omega)]
    exact nfB_in _ (nd_in h hk).1
  · exact Nat.eq_of_beq_eq_true h2
end Go.Proofs.YtejoabaanclcbaaGreat.Lat


