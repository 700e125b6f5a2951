/- Facts for TrackLongest: sets as bits, chains that grow, the table of what is plausible. -/
import Derived.Test.YtejoabaanclcbaaGreatTkGa
import Derived.Test.YtejoabaanclcbaaGreatTkJ
namespace Go.Proofs.YtejoabaanclcbaaGreat.Tk
open Go.RowKit Go.Maps

theorem bits_of (p : Nat → Bool) : ∀ n, ∃ b, b < 2 ^ n ∧ ∀ i, i < n → b.testBit i = p i
  | 0 => ⟨0, by decide, fun i h => by omega⟩
  | n + 1 => by
    obtain ⟨b, h1, h2⟩ := bits_of p n
    have e : 2 ^ (n + 1) = 2 ^ n + 2 ^ n := by rw [Nat.pow_succ]; omega
    cases hp : p n
    · refine ⟨b, by omega, fun i hi => ?_⟩
      rcases (by omega : i < n ∨ i = n) with h | rfl
      · exact h2 i h
      · rw [Nat.testBit_lt_two_pow h1, hp]
    · refine ⟨2 ^ n + b, by omega, fun i hi => ?_⟩
      rcases (by omega : i < n ∨ i = n) with h | rfl
      · rw [Nat.testBit_two_pow_add_gt h, h2 i h]
      · rw [Nat.testBit_two_pow_add_eq, Nat.testBit_lt_two_pow h1, hp]; rfl
/-- The set that some bits name. -/
def sb (b m : Nat) : List Nat := (List.range m).filter fun i => b.testBit i
theorem sb_succ (b m : Nat) : sb b (m + 1) = if b.testBit m = true then sb b m ++ [m] else sb b m := by
  unfold sb
  rw [List.range_succ, List.filter_append]
  cases h : b.testBit m <;> simp [h]
theorem sb_pw (b m : Nat) : (sb b m).Pairwise (fun x y => x < y) := List.Pairwise.filter _ List.pairwise_lt_range
theorem sb_lt {b m : Nat} : ∀ x ∈ sb b m, x < m := fun _x hx => List.mem_range.1 (List.mem_filter.1 hx).1
theorem nodup_le2 {n : Nat} {l : List Nat} (h : l.Pairwise (fun x y => x < y)) (hl : ∀ x ∈ l, x < n) : l.length ≤ n := by
  rcases Nat.eq_zero_or_pos l.length with h0 | h0
  · omega
  · have h1 := pw_nth h (l.length - 1) (by omega)
    have h2 := hl _ (List.getElem_mem (show l.length - 1 < l.length by omega))
    omega
theorem sb_len (b m : Nat) : (sb b m).length ≤ m := nodup_le2 (sb_pw b m) sb_lt
/-- Each ascending list is named by some bits. -/
theorem sb_of {l : List Nat} {n : Nat} (h : l.Pairwise (fun x y => x < y)) (hl : ∀ x ∈ l, x < n) : ∃ b, b < 2 ^ n ∧ sb b n = l ∧ (l ≠ [] → 1 ≤ b) := by
  obtain ⟨b, h1, h2⟩ := bits_of (fun i => decide (i ∈ l)) n
  refine ⟨b, h1, up_eq (sb_pw b n) h fun i => ?_, fun hne => ?_⟩
  · unfold sb
    rw [List.mem_filter, List.mem_range]
    constructor
    · rintro ⟨hi, hb⟩
      rw [h2 i hi] at hb
      exact of_decide_eq_true hb
    · intro hi
      exact ⟨hl i hi, by rw [h2 i (hl i hi)]; exact decide_eq_true hi⟩
  · obtain ⟨x, hx⟩ := List.exists_mem_of_ne_nil l hne
    rcases Nat.eq_zero_or_pos b with rfl | h0
    · have := h2 x (hl x hx)
      rw [Nat.zero_testBit, decide_eq_true hx] at this
      cases this
    · exact h0
theorem okC_snoc {n : Nat} {P : Nat → Nat → Bool} {i : Nat} (hi : i < n) : ∀ {s : List Nat} {x : Nat}, x < i → (okC n P ((s ++ [x]) ++ [i]) ↔ okC n P (s ++ [x]) ∧ P x i = true)
  | [], x, hx => ⟨fun h => ⟨(by omega : x < n), h.2.1⟩, fun h => ⟨hx, h.2, hi⟩⟩
  | [a], x, hx => ⟨fun h => ⟨⟨h.1, h.2.1, (by omega : x < n)⟩, h.2.2.2.1⟩, fun h => ⟨h.1.1, h.1.2.1, hx, h.2, hi⟩⟩
  | a :: b :: s, x, hx => by
    have ih := okC_snoc (P := P) hi (s := b :: s) (x := x) hx
    simp only [List.cons_append] at ih ⊢
    simp only [okC]
    rw [ih]
    constructor
    · rintro ⟨h1, h2, h3, h4⟩; exact ⟨⟨h1, h2, h3⟩, h4⟩
    · rintro ⟨⟨h1, h2, h3⟩, h4⟩; exact ⟨h1, h2, h3, h4⟩
theorem okC_one {n i : Nat} {P : Nat → Nat → Bool} (hi : i < n) : okC n P [i] := hi
theorem at8_far {Y : World} {g o : Nat} {r : Rq} (h : At8 Y g o r) {b j : Nat} (hb : b ≠ g) (x : Value) : At8 (Y.setCell ⟨b, j, none⟩ x) g o r := by
  have key : ∀ q, (Y.setCell ⟨b, j, none⟩ x).cell? ⟨g, q, none⟩ = Y.cell? ⟨g, q, none⟩ := fun q => World.cell?_of_block (Below.heap_setCell Y ⟨b, j, none⟩ x g (Ne.symm hb))
  obtain ⟨h0, h1, h2, h3, h4, h5, h6, h7⟩ := h
  exact ⟨(key _).trans h0, (key _).trans h1, (key _).trans h2, (key _).trans h3, (key _).trans h4, (key _).trans h5, (key _).trans h6, (key _).trans h7⟩
theorem w2_64 {i : Nat} (h : i ≤ 6) : wrap64 ((2 : Int) ^ i) = ((2 ^ i : Nat) : Int) ∧ 2 ^ i ≤ 64 := by
  rcases (by omega : i = 0 ∨ i = 1 ∨ i = 2 ∨ i = 3 ∨ i = 4 ∨ i = 5 ∨ i = 6) with rfl | rfl | rfl | rfl | rfl | rfl | rfl <;> exact ⟨by decide +kernel, by decide⟩
theorem bit_all : ((List.range 64).all fun b => (List.range 6).all fun m => (bits BinOp.and IntKind.i64 ((b : Int) / 2 ^ m) 1 == 0) == !b.testBit m) = true := by decide +kernel
theorem bit_64 {b m : Nat} (hb : b < 64) (hm : m < 6) : (bits BinOp.and IntKind.i64 ((b : Int) / 2 ^ m) 1 == 0) = !b.testBit m := by
  have h := List.all_eq_true.1 (List.all_eq_true.1 bit_all b (List.mem_range.2 hb)) m (List.mem_range.2 hm)
  exact eq_of_beq h
theorem okC_end {n : Nat} {P : Nat → Nat → Bool} {s : List Nat} {m : Nat} (hm : m < n) (hs : ∀ x ∈ s, x < m) {q : Nat} (hq : s.length = q + 1) : okC n P (s ++ [m]) ↔ okC n P s ∧ P (s[q]'(by omega)) m = true := by
  have hne : s ≠ [] := fun e => by rw [e] at hq; cases hq
  have e : s.dropLast ++ [s[q]'(by omega)] = s := by
    have h1 := List.dropLast_concat_getLast hne
    have h2 : s.getLast hne = s[q]'(by omega) := by
      rw [List.getLast_eq_getElem]
      congr 1
      omega
    rw [h2] at h1
    exact h1
  have h := okC_snoc (P := P) hm (s := s.dropLast) (x := s[q]'(by omega)) (hs _ (List.getElem_mem _))
  rw [e] at h
  exact h
theorem own_addr2 {w : World} {base size n m c : Nat} {e : TypeId} {A : Option Addr} {xs : List Value} (h : w.ownsRow base e size (.slice A m c) n xs) (hn : 0 < n) : ∃ g, A = some ⟨g, 0, none⟩ := by
  rcases h.2 with ⟨-, h0⟩ | ⟨g, cap, cur, e, -⟩
  · omega
  · injection e with e
    exact ⟨g, e⟩
theorem own_cell1 {w : World} {base n m c g : Nat} {l : List Nat} (h : w.ownsRow base 3 1 (.slice (some ⟨g, 0, none⟩) m c) n (ic l)) {j x : Nat} (hx : l[j]? = some x) : w.cell? ⟨g, j, none⟩ = some (.int .i64 (x : Int)) := by
  have hj := (List.getElem?_eq_some_iff.1 hx).1
  have hl := h.1
  unfold ic at hl
  rw [List.length_map] at hl
  rcases h.2 with ⟨e, -⟩ | ⟨g', cap, cur, e, h1, h2, h3, h4, h5, h6⟩
  · cases e
  · injection e with e1 e2 e3
    injection e1 with e1
    injection e1 with e1
    subst e1
    have e4 : w.cell? ⟨g, j, none⟩ = cur[j]? := by simp [World.cell?, h2]
    have e5 : (ic l)[j]? = some (.int .i64 (x : Int)) := by unfold ic; rw [List.getElem?_map, hx]; rfl
    rw [e4, ← e5, ← h6, List.getElem?_take, if_pos (by omega), Array.getElem?_toList]
/-- The table, its first k rows. -/
structure Nr (w1 : World) (gn n : Nat) (P : Nat → Nat → Bool) (bs : Nat → Nat) (D : Nat → Nat → Prop) (k : Nat) (cs : Array Value) (Y : World) : Prop where
  b1 : Below w1.heap.size w1 Y
  gn1 : w1.heap.size ≤ gn
  rw : Row Y gn 44 cs
  sz : cs.size = n
  cl : ∀ j, j < k → cs[j]? = some (.slice (some ⟨bs j, 0, none⟩) n n)
  rows : ∀ j, j < k → Bl Y (bs j) n (D j) (P j)
  inj : ∀ j j', j < j' → j' < k → bs j < bs j'
  lo : ∀ j, j < k → gn < bs j
section
variable {w1 Y Y' : World} {gn n : Nat} {P : Nat → Nat → Bool} {bs : Nat → Nat} {D : Nat → Nat → Prop} {k : Nat} {cs : Array Value}
theorem Nr.under (H : Nr w1 gn n P bs D k cs Y) (hb : Below Y.heap.size Y Y') : Nr w1 gn n P bs D k cs Y' :=
  ⟨H.b1.trans (hb.mono H.b1.size), H.gn1, H.rw.under hb, H.sz, H.cl, fun j h => (H.rows j h).under hb, H.inj, H.lo⟩
theorem Nr.row (H : Nr w1 gn n P bs D k cs Y) (hk : k < n) {c : Array Value} (hc : c.size = n) :
    Nr w1 gn n P (fun j => if j = k then Y.heap.size else bs j) (fun j x => j ≠ k ∧ D j x) (k + 1) (cs.setIfInBounds k (.slice (some ⟨Y.heap.size, 0, none⟩) n n)) ((Y.alloc (.cells c 4)).setCell ⟨gn, k, none⟩ (.slice (some ⟨Y.heap.size, 0, none⟩) n n)) := by
  have hb : Below Y.heap.size Y (Y.alloc (.cells c 4)) := (Below.refl _ _).alloc (Nat.le_refl _) _
  have hlt := H.rw.lt
  have hbl : ∀ j, j < k → bs j < Y.heap.size := fun j h1 => by
    obtain ⟨c', hr, -⟩ := H.rows j h1
    exact hr.lt
  refine ⟨(H.b1.trans (hb.mono H.b1.size)).setCell (p := ⟨gn, k, none⟩) H.gn1 _, H.gn1, (H.rw.under hb).put k _, by simpa using H.sz, fun j h1 => ?_, fun j h1 => ?_, fun j j' h1 h2 => ?_, fun j h1 => ?_⟩
  · by_cases hj : j = k
    · subst hj
      rw [if_pos rfl, Array.getElem?_setIfInBounds, if_pos rfl, if_pos (by rw [H.sz]; exact hk)]
    · rw [if_neg hj, Array.getElem?_setIfInBounds, if_neg (fun e => hj e.symm)]
      exact H.cl j (by omega)
  · by_cases hj : j = k
    · subst hj
      simp only
      exact ⟨c, (Row.new Y c 4).far (p := ⟨gn, j, none⟩) (by simp only; omega) _, hc, fun x _ hx => absurd rfl hx.1⟩
    · simp only [if_neg hj]
      obtain ⟨c', e1, e2, e3⟩ := ((H.rows j (by omega)).under hb).far (g := gn) (j := k) (by have := H.lo j (by omega); omega) (.slice (some ⟨Y.heap.size, 0, none⟩) n n)
      exact ⟨c', e1, e2, fun x hx hd => e3 x hx hd.2⟩
  · simp only [if_neg (show ¬ j = k by omega)]
    by_cases hj : j' = k
    · rw [if_pos hj]; exact hbl j (by omega)
    · rw [if_neg hj]; exact H.inj j j' h1 (by omega)
  · by_cases hj : j = k
    · simp only [if_pos hj]; omega
    · simp only [if_neg hj]; exact H.lo j (by omega)
theorem Nr.bit (H : Nr w1 gn n P bs D k cs Y) {x i : Nat} (hk : i < k) (hx : x < n) : Nr w1 gn n P bs (fun j z => D j z ∨ (j = i ∧ z = x)) k cs (Y.setCell ⟨bs i, x, none⟩ (.bool (P i x))) := by
  have hlo := H.lo i hk
  have hg := H.gn1
  refine ⟨H.b1.setCell (p := ⟨bs i, x, none⟩) (by simp only; omega) _, H.gn1, H.rw.far (p := ⟨bs i, x, none⟩) (by simp only; omega) _, H.sz, H.cl, fun j h1 => ?_, H.inj, H.lo⟩
  by_cases hj : j = i
  · subst hj
    obtain ⟨c, e1, e2, e3⟩ := H.rows j h1
    refine ⟨c.setIfInBounds x (.bool (P j x)), e1.put x _, by simpa using e2, fun z hz hd => ?_⟩
    by_cases hzx : z = x
    · subst hzx
      rw [Array.getElem?_setIfInBounds, if_pos rfl, if_pos (by omega)]
    · rw [Array.getElem?_setIfInBounds, if_neg (fun e => hzx e.symm)]
      exact e3 z hz (hd.resolve_right (fun e => hzx e.2))
  · have hne : bs i ≠ bs j := by
      rcases (by omega : i < j ∨ j < i) with h | h
      · have := H.inj i j h h1; omega
      · have := H.inj j i h hk; omega
    obtain ⟨c, e1, e2, e3⟩ := (H.rows j h1).far (g := bs i) (j := x) hne (.bool (P i x))
    exact ⟨c, e1, e2, fun z hz hd => e3 z hz (hd.resolve_right (fun e => hj e.1))⟩
theorem Nr.known (H : Nr w1 gn n P bs D k cs Y) {D' : Nat → Nat → Prop} (h : ∀ j z, j < k → z < n → D' j z → D j z) : Nr w1 gn n P bs D' k cs Y :=
  ⟨H.b1, H.gn1, H.rw, H.sz, H.cl, fun j h1 => by
    obtain ⟨c, e1, e2, e3⟩ := H.rows j h1
    exact ⟨c, e1, e2, fun z hz hd => e3 z hz (h j z h1 hz hd)⟩, H.inj, H.lo⟩
theorem Nr.cell (H : Nr w1 gn n P bs D k cs Y) {j z : Nat} (h1 : j < k) (hz : z < n) (hd : D j z) : Y.cell? ⟨bs j, z, none⟩ = some (.bool (P j z)) := by
  obtain ⟨c, e1, e2, e3⟩ := H.rows j h1
  exact (e1.cell z).trans (e3 z hz hd)
theorem Nr.made (w1 : World) (n : Nat) (P : Nat → Nat → Bool) (bs : Nat → Nat) (D : Nat → Nat → Prop) : Nr w1 w1.heap.size n P bs D 0 (madeCells #[.slice none 0 0] n) (w1.alloc (.cells (madeCells #[.slice none 0 0] n) 44)) :=
  ⟨(Below.refl _ _).alloc (Nat.le_refl _) _, Nat.le_refl _, Row.new _ _ _, size_madeCells _ _, fun j h => by omega, fun j h => by omega, fun j j' a b => by omega, fun j h => by omega⟩
end
end Go.Proofs.YtejoabaanclcbaaGreat.Tk

