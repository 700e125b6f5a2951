/- The lattice of a grid in plain numbers: what newLattice builds, and what the kernel finds of it for each frequency. -/
import Derived.Test.YtejoabaanclcbaaGreatQaa
namespace Go.Proofs.YtejoabaanclcbaaGreat.Lat
open Ico

/-- A point of a face: face, a, b; its third weight is n - a - b. -/
abbrev Pt := Nat × Nat × Nat
/-- The weights of all vertices in a point as one number. -/
def pk (f a b c : Nat) : Nat := a * 16 ^ cor f 0 + b * 16 ^ cor f 1 + c * 16 ^ cor f 2
/-- The place of a point in the table of indexes. -/
def off (f a b : Nat) : Nat := f * 81 + a * 9 + b
def look (k : Nat) : List (Nat × Nat) → Option Nat
  | [] => none
  | (x, i) :: r => bif Nat.beq x k then some i else look k r
/-- What is known behind some points: the nodes (the last one first), how many, the nodes at borders by their weights, the table of indexes. -/
structure St where
  rv : List Pt
  cnt : Nat
  bor : List (Nat × Nat)
  ix : List (Nat × Nat)
def St.none : St := ⟨[], 0, [], []⟩
def fresh (p : Pt) (s : St) (bor : List (Nat × Nat)) : St := ⟨p :: s.rv, s.cnt + 1, bor, (off p.1 p.2.1 p.2.2, s.cnt) :: s.ix⟩
def step (n : Nat) (s : St) (p : Pt) : St :=
  if p.2.1 = 0 ∨ p.2.2 = 0 ∨ n - p.2.1 - p.2.2 = 0 then
    match look (pk p.1 p.2.1 p.2.2 (n - p.2.1 - p.2.2)) s.bor with
    | some i => { s with ix := (off p.1 p.2.1 p.2.2, i) :: s.ix }
    | none => fresh p s ((pk p.1 p.2.1 p.2.2 (n - p.2.1 - p.2.2), s.cnt) :: s.bor)
  else fresh p s s.bor
def row (_n f a k : Nat) : List Pt := (List.range k).map fun b => (f, a, b)
def face (n f k : Nat) : List Pt := (List.range k).flatMap fun a => row n f a (n + 1 - a)
def pts (n k : Nat) : List Pt := (List.range k).flatMap fun f => face n f (n + 1)
def run (n : Nat) (l : List Pt) : St := l.foldl (step n) St.none
theorem run_snoc (n : Nat) (l : List Pt) (p : Pt) : run n (l ++ [p]) = step n (run n l) p := by simp [run, List.foldl_append]
theorem row_succ (n f a k : Nat) : row n f a (k + 1) = row n f a k ++ [(f, a, k)] := by simp [row, List.range_succ]
theorem face_succ (n f k : Nat) : face n f (k + 1) = face n f k ++ row n f k (n + 1 - k) := by simp [face, List.range_succ, List.flatMap_append]
theorem pts_succ (n k : Nat) : pts n (k + 1) = pts n k ++ face n k (n + 1) := by simp [pts, List.range_succ, List.flatMap_append]
/-- All. -/
def fin (n : Nat) : St := run n (pts n 20)
def nodes (n : Nat) : List Pt := (fin n).rv.reverse
/-- The index of a point. -/
def idx (n f a b : Nat) : Nat := (look (off f a b) (fin n).ix).getD 0
def nd (n k : Nat) : Pt := (nodes n).getD k (0, 0, 0)
def frq (n : Nat) : Prop := 1 ≤ n ∧ n ≤ 8
def inc : List (Nat × Nat) → Bool
  | a :: b :: r => Nat.blt a.1 b.1 && inc (b :: r)
  | _ => true
/-- Each of these points has its index at its place of the list, a node with the same weights stands there. -/
def chkIx (n c : Nat) (N : List Pt) : List Pt → List (Nat × Nat) → Bool
  | [], [] => true
  | p :: r, (o, i) :: t => Nat.beq o (off p.1 p.2.1 p.2.2) && Nat.blt i c && (match N.drop i with | q :: _ => Nat.beq (pk q.1 q.2.1 q.2.2 (n - q.2.1 - q.2.2)) (pk p.1 p.2.1 p.2.2 (n - p.2.1 - p.2.2)) | [] => false) && chkIx n c N r t
  | _, _ => false
/-- The points that are nodes are numbered in order. -/
def chkNd : List Pt → List (Nat × Nat) → List Pt → Nat → Bool
  | [], _, _, _ => true
  | q :: N, (o, i) :: t, p :: r, k => bif Nat.beq (off q.1 q.2.1 q.2.2) o && decide (p = q) then Nat.beq i k && chkNd N t r (k + 1) else chkNd (q :: N) t r k
  | _, _, _, _ => false
/-- What the kernel finds for one frequency. -/
def chk (n : Nat) : Bool := Nat.beq (fin n).cnt (10 * n * n + 2) && Nat.beq (nodes n).length (10 * n * n + 2) && chkIx n (10 * n * n + 2) (nodes n) (pts n 20) (fin n).ix.reverse && inc (fin n).ix.reverse && chkNd (nodes n) (fin n).ix.reverse (pts n 20) 0
theorem chk1 : chk 1 = true := by decide +kernel
theorem chk2 : chk 2 = true := by decide +kernel
theorem chk3 : chk 3 = true := by decide +kernel
theorem chk4 : chk 4 = true := by decide +kernel
theorem chk5 : chk 5 = true := by decide +kernel
theorem chk6 : chk 6 = true := by decide +kernel
theorem chk7 : chk 7 = true := by decide +kernel
theorem chk8 : chk 8 = true := by decide +kernel
theorem eight {n : Nat} (h : frq n) : n = 1 ∨ n = 2 ∨ n = 3 ∨ n = 4 ∨ n = 5 ∨ n = 6 ∨ n = 7 ∨ n = 8 := by unfold frq at h; omega
theorem chk_all {n : Nat} (h : frq n) : chk n = true := by
  rcases eight h with rfl | rfl | rfl | rfl | rfl | rfl | rfl | rfl
  · exact chk1
  · exact chk2
  · exact chk3
  · exact chk4
  · exact chk5
  · exact chk6
  · exact chk7
  · exact chk8
theorem look_mem {k i : Nat} : ∀ {l : List (Nat × Nat)}, (k, i) ∈ l → (∀ j, (k, j) ∈ l → j = i) → look k l = some i
  | [], h, _ => by cases h
  | (x, j) :: r, h, hu => by
    unfold look
    by_cases e : x = k
    · subst e
      rw [hu j (by simp)]; simp
    · have hb : Nat.beq x k = false := by
        cases hb : Nat.beq x k
        · rfl
        · exact absurd (Nat.eq_of_beq_eq_true hb) e
      rw [hb]
      refine look_mem (l := r) ?_ (fun j hj => hu j (by simp [hj]))
      rcases List.mem_cons.1 h with h | h
      · injection h with h1 h2; exact absurd h1.symm e
      · exact h
theorem inc_pw : ∀ {l : List (Nat × Nat)}, inc l = true → l.Pairwise (fun x y => x.1 < y.1)
  | [], _ => List.Pairwise.nil
  | [_], _ => by simp
  | a :: b :: r, h => by
    unfold inc at h
    rw [Bool.and_eq_true] at h
    have ih := inc_pw h.2
    refine List.pairwise_cons.2 ⟨fun z hz => ?_, ih⟩
    have hab : a.1 < b.1 := by simpa using h.1
    rcases List.mem_cons.1 hz with rfl | hz
    · exact hab
    · exact Nat.lt_trans hab ((List.pairwise_cons.1 ih).1 z hz)
theorem inc_uniq {l : List (Nat × Nat)} (h : inc l = true) {k i j : Nat} (hi : (k, i) ∈ l) (hj : (k, j) ∈ l) : j = i := by
  have hp := inc_pw h
  clear h
  induction l with
  | nil => cases hi
  | cons x r ih =>
    obtain ⟨h1, h2⟩ := List.pairwise_cons.1 hp
    rcases List.mem_cons.1 hi with hi | hi <;> rcases List.mem_cons.1 hj with hj | hj
    · rw [← hi] at hj; injection hj
    · have := h1 _ hj; rw [← hi] at this; simp at this
    · have := h1 _ hi; rw [← hj] at this; simp at this
    · exact ih hi hj h2
/-- The weights of a point, as one number. -/
def pkp (n : Nat) (q : Pt) : Nat := pk q.1 q.2.1 q.2.2 (n - q.2.1 - q.2.2)
theorem chkIx_spec {n c : Nat} {N : List Pt} : ∀ {l : List Pt} {t : List (Nat × Nat)}, chkIx n c N l t = true → ∀ p ∈ l, ∃ i, (off p.1 p.2.1 p.2.2, i) ∈ t ∧ i < c ∧ pkp n (N.getD i (0, 0, 0)) = pkp n p
  | [], _, _, p, hp => by cases hp
  | q :: r, [], h, _, _ => by simp [chkIx] at h
  | q :: r, (o, i) :: t, h, p, hp => by
    unfold chkIx at h
    simp only [Bool.and_eq_true] at h
    obtain ⟨⟨⟨h1, h2⟩, h3⟩, h4⟩ := h
    rcases List.mem_cons.1 hp with rfl | hp
    · refine ⟨i, by rw [← Nat.eq_of_beq_eq_true h1]; simp, by simpa using h2, ?_⟩
      split at h3
      · rename_i q' _ e
        have : N.getD i (0, 0, 0) = q' := by
          have := congrArg (fun l => l[0]?) e
          simp at this
          simp [List.getD_eq_getElem?_getD, this]
        rw [this]; exact Nat.eq_of_beq_eq_true h3
      · cases h3
    · obtain ⟨j, a, b, c⟩ := chkIx_spec h4 p hp
      exact ⟨j, by simp [a], b, c⟩
theorem chkNd_spec : ∀ {t : List (Nat × Nat)} {l N : List Pt} {k : Nat}, chkNd N t l k = true → ∀ j q, N[j]? = some q → (off q.1 q.2.1 q.2.2, k + j) ∈ t ∧ q ∈ l
  | _, _, [], _, _, j, q, hq => by simp at hq
  | [], _, _ :: _, _, h, _, _, _ => by simp [chkNd] at h
  | _ :: _, [], _ :: _, _, h, _, _, _ => by simp [chkNd] at h
  | (o, i) :: t, p :: r, x :: N, k, h, j, q, hq => by
    unfold chkNd at h
    cases hc : (Nat.beq (off x.1 x.2.1 x.2.2) o && decide (p = x))
    · rw [hc] at h
      obtain ⟨a, b⟩ := chkNd_spec (N := x :: N) h j q hq
      exact ⟨by simp [a], by simp [b]⟩
    · rw [hc] at h
      simp only [Bool.and_eq_true, decide_eq_true_eq] at hc
      obtain ⟨c1, rfl⟩ := hc
      simp only [cond_true, Bool.and_eq_true] at h
      have hi := Nat.eq_of_beq_eq_true h.1
      cases j with
      | zero =>
        simp at hq
        subst hq hi
        exact ⟨by rw [Nat.eq_of_beq_eq_true c1]; simp, by simp⟩
      | succ j =>
        obtain ⟨a, b⟩ := chkNd_spec h.2 j q (by simpa using hq)
        exact ⟨by rw [show k + (j + 1) = k + 1 + j by omega]; simp [a], by simp [b]⟩
theorem mem_pts {n : Nat} {p : Pt} : p ∈ pts n 20 ↔ p.1 < 20 ∧ p.2.1 + p.2.2 ≤ n := by
  obtain ⟨f, a, b⟩ := p
  unfold pts face row
  simp only [List.mem_flatMap, List.mem_range, List.mem_map, Prod.mk.injEq]
  constructor
  · rintro ⟨f', hf, a', ha, b', hb, rfl, rfl, rfl⟩; exact ⟨hf, by show a' + b' ≤ n; omega⟩
  · rintro ⟨h1, h2⟩; exact ⟨f, h1, a, by have : a + b ≤ n := h2; omega, b, by have : a + b ≤ n := h2; omega, rfl, rfl, rfl⟩
section
variable {n : Nat} (h : frq n)
include h
theorem cnt_eq : (fin n).cnt = 10 * n * n + 2 := by have := chk_all h; simp only [chk, Bool.and_eq_true] at this; exact Nat.eq_of_beq_eq_true this.1.1.1.1
theorem nodes_len : (nodes n).length = 10 * n * n + 2 := by have := chk_all h; simp only [chk, Bool.and_eq_true] at this; exact Nat.eq_of_beq_eq_true this.1.1.1.2
theorem ix_of {f a b : Nat} (hf : f < 20) (hab : a + b ≤ n) : look (off f a b) (fin n).ix = some (idx n f a b) ∧ idx n f a b < 10 * n * n + 2 ∧ pkp n (nd n (idx n f a b)) = pkp n (f, a, b) := by
  have := chk_all h; simp only [chk, Bool.and_eq_true] at this
  obtain ⟨i, h1, h2, h3⟩ := chkIx_spec this.1.1.2 (f, a, b) (mem_pts.2 ⟨hf, hab⟩)
  have hl : look (off f a b) (fin n).ix = some i := look_mem (by simpa using h1) (fun j hj => inc_uniq this.1.2 h1 (by simpa using hj))
  have hi : idx n f a b = i := by unfold idx; rw [hl]; rfl
  rw [hi]; exact ⟨hl, h2, h3⟩
theorem nd_in {k : Nat} (hk : k < 10 * n * n + 2) : (nd n k).1 < 20 ∧ (nd n k).2.1 + (nd n k).2.2 ≤ n ∧ idx n (nd n k).1 (nd n k).2.1 (nd n k).2.2 = k := by
  have := chk_all h; simp only [chk, Bool.and_eq_true] at this
  have hg : (nodes n)[k]? = some (nd n k) := by unfold nd; rw [List.getD_eq_getElem?_getD, List.getElem?_eq_getElem (by rw [nodes_len h]; exact hk)]; rfl
  obtain ⟨h1, h2⟩ := chkNd_spec this.2 k _ hg
  obtain ⟨a, b⟩ := mem_pts.1 h2
  have hl := (ix_of h a b).1
  have hl' : look (off (nd n k).1 (nd n k).2.1 (nd n k).2.2) (fin n).ix = some (0 + k) := look_mem (by simpa using h1) (fun j hj => inc_uniq this.1.2 h1 (by simpa using hj))
  rw [hl] at hl'
  injection hl' with hl'
  exact ⟨a, b, by omega⟩
end
/-- The weight of a vertex in a point. -/
def wn (f a b c v : Nat) : Nat := if v = cor f 0 then a else if v = cor f 1 then b else if v = cor f 2 then c else 0
theorem wn_wt (f a b c v : Nat) : (wn f a b c v : Int) = wt f a b c v := by
  unfold wn wt
  split
  · rfl
  · split
    · rfl
    · split <;> rfl
theorem wn_le {f a b c m : Nat} (ha : a ≤ m) (hb : b ≤ m) (hc : c ≤ m) (v : Nat) : wn f a b c v ≤ m := by
  unfold wn
  split
  · exact ha
  · split
    · exact hb
    · split
      · exact hc
      · exact Nat.zero_le _
def pkl : List Nat → Nat
  | [] => 0
  | x :: r => x + 16 * pkl r
theorem pkl_inj : ∀ {l l' : List Nat}, l.length = l'.length → (∀ x ∈ l, x ≤ 15) → (∀ x ∈ l', x ≤ 15) → pkl l = pkl l' → l = l'
  | [], [], _, _, _, _ => rfl
  | [], _ :: _, h, _, _, _ => by simp at h
  | _ :: _, [], h, _, _, _ => by simp at h
  | x :: r, y :: r', h, h1, h2, he => by
    have a := h1 x (by simp)
    have b := h2 y (by simp)
    unfold pkl at he
    obtain rfl : x = y := by omega
    rw [pkl_inj (by simpa using h) (fun z hz => h1 z (by simp [hz])) (fun z hz => h2 z (by simp [hz])) (by omega : pkl r = pkl r')]
def wl (f a b c : Nat) : List Nat := (List.range 12).map (wn f a b c)
theorem twenty' {f : Nat} (h : f < 20) : f = 0 ∨ f = 1 ∨ f = 2 ∨ f = 3 ∨ f = 4 ∨ f = 5 ∨ f = 6 ∨ f = 7 ∨ f = 8 ∨ f = 9 ∨ f = 10 ∨ f = 11 ∨ f = 12 ∨ f = 13 ∨ f = 14 ∨ f = 15 ∨ f = 16 ∨ f = 17 ∨ f = 18 ∨ f = 19 := by omega
def pkc (i j k a b c : Nat) : Nat := pkl ((List.range 12).map fun v => if v = i then a else if v = j then b else if v = k then c else 0)
theorem pkc_eq : ∀ f, f < 20 → pkc (cor f 0) (cor f 1) (cor f 2) = fun a b c => a * 16 ^ cor f 0 + b * 16 ^ cor f 1 + c * 16 ^ cor f 2 := by
  intro f hf
  rcases twenty' hf with rfl | rfl | rfl | rfl | rfl | rfl | rfl | rfl | rfl | rfl | rfl | rfl | rfl | rfl | rfl | rfl | rfl | rfl | rfl | rfl <;>
    (funext a b c; simp only [pkc, pkl, cor, T, List.range, List.range.loop, List.map]; simp; omega)
theorem pk_eq {f : Nat} (hf : f < 20) (a b c : Nat) : pk f a b c = pkl (wl f a b c) := (congrFun (congrFun (congrFun (pkc_eq f hf) a) b) c).symm
theorem wn_ge {f a b c v : Nat} (hv : 12 ≤ v) : wn f a b c v = 0 := by
  have h0 := cor_lt f 0
  have h1 := cor_lt f 1
  have h2 := cor_lt f 2
  unfold wn
  rw [if_neg (by omega), if_neg (by omega), if_neg (by omega)]
/-- Points with one number have the same weights. -/
theorem pk_wn {f a b c g x y z : Nat} (hf : f < 20) (hg : g < 20) (h1 : a ≤ 15) (h2 : b ≤ 15) (h3 : c ≤ 15) (h4 : x ≤ 15) (h5 : y ≤ 15) (h6 : z ≤ 15) (h : pk f a b c = pk g x y z) (v : Nat) : wn f a b c v = wn g x y z v := by
  rw [pk_eq hf, pk_eq hg] at h
  rcases Nat.lt_or_ge v 12 with hv | hv
  · have e := pkl_inj (by simp [wl]) (by simp only [wl, List.mem_map]; rintro x ⟨v, -, rfl⟩; exact wn_le h1 h2 h3 v) (by simp only [wl, List.mem_map]; rintro x ⟨v, -, rfl⟩; exact wn_le h4 h5 h6 v) h
    have := congrArg (fun l => l[v]?) e
    simpa [wl, hv] using this
  · rw [wn_ge hv, wn_ge hv]
end Go.Proofs.YtejoabaanclcbaaGreat.Lat


