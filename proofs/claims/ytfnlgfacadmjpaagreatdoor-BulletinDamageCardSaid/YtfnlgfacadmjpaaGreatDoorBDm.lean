/- A text that ends anywhere: the lines that are complete, and what is left. One byte of a bulletin's lines replaced: what is read. -/
import Derived.Test.YtfnlgfacadmjpaaGreatDoorBMa
namespace Go.Proofs.YtfnlgfacadmjpaaGreatDoor.Bu
open Go.RowKit

/-- Lines and bytes behind the last line feed. -/
def wstep (s : Nat × Nat) (b : UInt8) : Nat × Nat := if b = 10 then (s.1 + 1, 0) else (s.1, s.2 + 1)
def wo (l : List UInt8) : Nat × Nat := l.foldl wstep (0, 0)
theorem wo_more (l : List UInt8) (b : UInt8) : wo (l ++ [b]) = wstep (wo l) b := by simp [wo]
theorem wo_free : ∀ (a : List UInt8) (s : Nat × Nat), (∀ b ∈ a, b ≠ 10) → a.foldl wstep s = (s.1, s.2 + a.length)
  | [], s, _ => by simp
  | c :: r, s, h => by
    rw [List.foldl_cons, wo_free r _ (fun x hx => h x (by simp [hx]))]
    unfold wstep
    rw [if_neg (h c (by simp))]
    simp; omega
theorem line_free {r : Rp} (h : Vd r.k r.nm r.t r.F r.A r.B r.C r.L) : ∀ b ∈ gtx r.k r.nm r.t r.F r.A r.B r.L ++ [61], b ≠ 10 := fun b hb => by
  rcases List.mem_append.1 hb with q | q
  · intro e; exact gtx_fr10 h (e ▸ q)
  · rw [List.mem_singleton.1 q]; decide
theorem bdy_cons (r : Rp) (R : List Rp) : bdy (r :: R) = (gtx r.k r.nm r.t r.F r.A r.B r.L ++ [61]) ++ 10 :: bdy R := by
  unfold bdy
  simp [ends]
theorem wo_bdy : ∀ (R : List Rp) (s : Nat × Nat) (p : List UInt8), (∀ r ∈ R, Vd r.k r.nm r.t r.F r.A r.B r.C r.L) → (∀ b ∈ p, b ≠ 10) → (R = [] → s.2 = 0) → (bdy R ++ p).foldl wstep s = (s.1 + R.length, p.length)
  | [], s, p, _, hp, hs => by
    show (bdy [] ++ p).foldl wstep s = _
    rw [show bdy [] = [] from rfl, List.nil_append, wo_free p s hp, hs rfl]
    simp
  | r :: R, s, p, h, hp, _ => by
    rw [bdy_cons, List.append_assoc, List.foldl_append, wo_free _ _ (line_free (h r (by simp))), List.cons_append, List.foldl_cons]
    have e : wstep (s.1, s.2 + (gtx r.k r.nm r.t r.F r.A r.B r.L ++ [61]).length) 10 = (s.1 + 1, 0) := rfl
    rw [e, wo_bdy R (s.1 + 1, 0) p (fun x hx => h x (by simp [hx])) hp (fun _ => rfl)]
    simp; omega
theorem torn : ∀ (R : List Rp) (m : Nat), (∀ r ∈ R, Vd r.k r.nm r.t r.F r.A r.B r.C r.L) → m ≤ (bdy R).length → ∃ j, j ≤ R.length ∧ ∃ p, (bdy R).take m = bdy (R.take j) ++ p ∧ (∀ b ∈ p, b ≠ 10) ∧ p.length ≤ m
  | [], m, _, hm => ⟨0, Nat.le_refl _, [], by rw [show bdy [] = [] from rfl]; simp [bdy], fun b hb => absurd hb List.not_mem_nil, Nat.zero_le _⟩
  | r :: R, m, h, hm => by
    rw [bdy_cons] at hm ⊢
    have hl := line_free (h r (by simp))
    generalize hG : gtx r.k r.nm r.t r.F r.A r.B r.L ++ [61] = G at *
    by_cases hlt : m ≤ G.length
    · refine ⟨0, Nat.zero_le _, G.take m, ?_, fun b hb => hl b (List.mem_of_mem_take hb), by rw [List.length_take]; omega⟩
      rw [List.take_append_of_le_length hlt]
      rfl
    · have hm' : m - G.length - 1 ≤ (bdy R).length := by simp only [List.length_append, List.length_cons] at hm; omega
      obtain ⟨j, hj, p, e, hp, hpl⟩ := torn R (m - G.length - 1) (fun x hx => h x (by simp [hx])) hm'
      refine ⟨j + 1, by simp; omega, p, ?_, hp, by omega⟩
      rw [List.take_succ_cons, bdy_cons, hG, List.take_append, List.take_of_length_le (by omega)]
      obtain ⟨q, hq⟩ : ∃ q, m - G.length = q + 1 := ⟨m - G.length - 1, by omega⟩
      rw [hq] at e ⊢
      rw [List.take_succ_cons, show q + 1 - 1 = q by omega] at *
      rw [e]
      simp
theorem goods_app (near : Int) (xs ys : List (Nat × List UInt8)) : goods near (xs ++ ys) = goods near xs ++ goods near ys ∧ bads near (xs ++ ys) = bads near xs ++ bads near ys := by
  simp [goods, bads, List.filterMap_append]
theorem rdl_free {near : Int} {p : List UInt8} (h : ∀ b ∈ p, b ≠ 10) : rdl near p = none := rdl_no fun k nm t F A B C L ⟨x, e, _⟩ => by
  have : (10 : UInt8) ∈ p := by rw [e]; simp [ends]
  exact h 10 this rfl
/-- What is read of a torn text. -/
theorem torn_read {R : List Rp} {near : Int} {p : List UInt8} (h : ∀ r ∈ R, Vd r.k r.nm r.t r.F r.A r.B r.C r.L ∧ Rdb r.t near) (hp : ∀ b ∈ p, b ≠ 10) : goods near (nums 1 (lns (bdy R ++ p))) = R.map Rp.key ∧ bads near (nums 1 (lns (bdy R ++ p))) = (if p = [] then [] else [((R.length : Int) + 1)]) ∧ (lns (bdy R ++ p)).length ≤ R.length + 1 := by
  rw [lns_bdy (fun r hr => (h r hr).1), lns_last hp, nums_app, (goods_app _ _ _).1, (goods_app _ _ _).2]
  obtain ⟨g1, g2⟩ := reps_read h 1
  rw [g1, g2]
  by_cases hz : p = []
  · rw [if_pos hz, if_pos hz]
    simp [nums, goods, bads]
  · rw [if_neg hz, if_neg hz]
    simp only [nums, goods, bads, List.filterMap_cons, List.filterMap_nil, rdl_free hp, List.length_map, List.append_nil, List.nil_append, List.length_append, List.length_cons, List.length_nil]
    refine ⟨trivial, ?_, by omega⟩
    congr 1
    omega
theorem RpsIn.take {W : World} {A : Option Addr} {n cap : Nat} {R : List Rp} (h : RpsIn W (.slice A n cap) R) {j : Nat} (hj : j ≤ R.length) : RpsIn W (.slice A j cap) (R.take j) := by
  obtain ⟨A', cap', e, h2, h3, h4⟩ := h
  injection e with e1 e2 e3
  subst e1; subst e3
  have hl : (R.take j).length = j := by rw [List.length_take]; omega
  refine ⟨A, cap, by rw [hl], by omega, h3, fun i hi => ?_⟩
  have hi' : i < R.length := by omega
  obtain ⟨g, off, q1, q2, q3, q4⟩ := h4 i hi'
  have hx : (R.take j)[i] = R[i] := List.getElem_take
  exact ⟨g, off, q1, q2, by rw [hx]; exact q3, by rw [hx]; exact q4⟩
/-- Blocks from n on lie as they lay. -/
def Up (n : Nat) (W Y : World) : Prop := W.heap.size ≤ Y.heap.size ∧ ∀ i, n ≤ i → i < W.heap.size → Y.heap[i]? = W.heap[i]?
theorem Up.refl (n : Nat) (W : World) : Up n W W := ⟨Nat.le_refl _, fun _ _ _ => rfl⟩
theorem Up.under {n : Nat} {W Y Y' : World} (h : Up n W Y) (hb : Below Y.heap.size Y Y') : Up n W Y' := ⟨Nat.le_trans h.1 hb.size, fun i h1 h2 => (hb.block i (Nat.lt_of_lt_of_le h2 h.1)).trans (h.2 i h1 h2)⟩
theorem Up.set {n g : Nat} {W Y : World} (h : Up n W Y) (hg : g < n ∨ W.heap.size ≤ g) (j : Nat) (u : Value) : Up n W (Y.setCell ⟨g, j, none⟩ u) :=
  ⟨by have := (KeepsWalks.setCell Y ⟨g, j, none⟩ u).size; have := h.1; omega, fun i h1 h2 => (Below.heap_setCell Y ⟨g, j, none⟩ u i (by simp only; omega)).trans (h.2 i h1 h2)⟩
/-- The text of a valid bulletin, cut anywhere behind its first line, is read. -/
theorem parse_torn (c : List UInt8) (t cor del : Int) (R : List Rp) (j : Nat) (p : List UInt8) (w : World) (hE : Env w) (hV : VdB (S c) t cor del R) (hl : R.length ≤ 6) (hj : j ≤ R.length) (hp : ∀ b ∈ p, b ≠ 10) (hpl : p.length ≤ 1000) :
    Calls Tryz.prog 22 #[.string (S (hdT c t cor del ++ 10 :: (bdy (R.take j) ++ p))), .int .i64 t] w fun e w' => ∃ (R' : List Rp) (A : Option Addr) (ca : Nat) (B : Option Addr) (d : Nat), R'.map Rp.key = (R.take j).map Rp.key ∧ e = .returned (.tuple #[bulV (S c) t cor del (.slice A R'.length ca), .slice B (if p = [] then [] else [((j : Int) + 1)]).length d, .int .i64 0]) ∧ (∀ Y, Up w.heap.size w' Y → RpsIn Y (.slice A R'.length ca) R' ∧ NumsIn Y (.slice B (if p = [] then [] else [((j : Int) + 1)]).length d) (if p = [] then [] else [((j : Int) + 1)])) ∧ Below w.heap.size w w' := by
  have hjl : (R.take j).length = j := by rw [List.length_take]; omega
  have hh := hdT_len hV.hctr hV.htime hV.hcor hV.hdel hV.hone
  have hmem : ∀ r ∈ R.take j, Vd r.k r.nm r.t r.F r.A r.B r.C r.L ∧ Rdb r.t t := fun r hr => ⟨(hV.hreps r (List.mem_of_mem_take hr)).1, rdb_iff.1 (hV.hreps r (List.mem_of_mem_take hr)).2⟩
  have hb := bdy_len (R.take j) (fun r hr => (hmem r hr).1)
  obtain ⟨g1, g2, g3⟩ := torn_read (near := t) hmem hp
  rw [hjl] at hb g2 g3
  refine (parse_text (hdT c t cor del) (bdy (R.take j) ++ p) t w hE hV.htime (hdT_fr10 hV.hctr hV.htime hV.hcor hV.hdel) (by rw [List.length_append]; omega) (by omega)).mono ?_
  have hH := hdr_hdT (near := t) hV.hctr hV.htime hV.hcor hV.hdel hV.hone (rdb_near hV.htime hV.htime (by omega) (by omega))
  rintro e w' (⟨c', t', cor', del', R', vr, vd, hH', hk, rfl, o1, o2, hrd, hg⟩ | ⟨hno, -, -⟩)
  · obtain ⟨rfl, rfl, rfl, rfl⟩ := hH.one hH'
    rw [g1] at hk
    rw [g2] at o2
    obtain ⟨B, d, rfl⟩ := row_form o2
    obtain ⟨A, ca, rfl⟩ := row_form o1
    refine ⟨R', A, ca, B, d, hk, rfl, fun Y hY => ⟨RpsIn.own (own_heap o1 fun i hi => hY.2 i (row_base o1 hi) (row_size o1 hi)) fun r hr => ?_, NumsIn.own (own_heap o2 fun i hi => hY.2 i (row_base o2 hi) (row_size o2 hi))⟩, hg⟩
    exact rdIn_kept (hrd r hr).1 hY.1 (fun hL i hi => hY.2 i ((hrd r hr).2 hL i hi) (rdIn_block (hrd r hr).1 hL hi).1)
  · exact absurd hH (hno _ _ _ _)
/-- Counts of a text's beginning. -/
theorem wo_le : ∀ (l : List UInt8) (s : Nat × Nat), (l.foldl wstep s).1 ≤ s.1 + l.length ∧ (l.foldl wstep s).2 ≤ s.2 + l.length
  | [], s => ⟨Nat.le_refl _, Nat.le_refl _⟩
  | b :: l, s => by
    obtain ⟨h1, h2⟩ := wo_le l (wstep s b)
    rw [List.foldl_cons]
    have h3 : (wstep s b).1 ≤ s.1 + 1 ∧ (wstep s b).2 ≤ s.2 + 1 := by
      unfold wstep
      split <;> constructor <;> simp <;> omega
    simp only [List.length_cons]
    omega
end Go.Proofs.YtfnlgfacadmjpaaGreatDoor.Bu
namespace Go.Proofs.YtfnlgfacadmjpaaGreatDoor.Bu
open Go.RowKit

theorem mid_read {R1 R2 : List Rp} {near : Int} {ln : List UInt8} (h1 : ∀ r ∈ R1, Vd r.k r.nm r.t r.F r.A r.B r.C r.L ∧ Rdb r.t near) (h2 : ∀ r ∈ R2, Vd r.k r.nm r.t r.F r.A r.B r.C r.L ∧ Rdb r.t near) (hf : ∀ b ∈ ln, b ≠ 10) :
    (lns (bdy R1 ++ (ln ++ 10 :: bdy R2))).length = R1.length + R2.length + 1 ∧
    ((bads near (nums 1 (lns (bdy R1 ++ (ln ++ 10 :: bdy R2)))) = [] ∧ ∃ y, goods near (nums 1 (lns (bdy R1 ++ (ln ++ 10 :: bdy R2)))) = R1.map Rp.key ++ y :: R2.map Rp.key) ∨
     (bads near (nums 1 (lns (bdy R1 ++ (ln ++ 10 :: bdy R2)))) = [((R1.length : Int) + 1)] ∧ goods near (nums 1 (lns (bdy R1 ++ (ln ++ 10 :: bdy R2)))) = R1.map Rp.key ++ R2.map Rp.key)) := by
  have e2 : lns (bdy R2) = R2.map fun r => gtx r.k r.nm r.t r.F r.A r.B r.L ++ ends := by
    have := lns_bdy (fun r hr => (h2 r hr).1) []
    rw [List.append_nil] at this
    rw [this]; simp [lns]
  rw [lns_bdy (fun r hr => (h1 r hr).1), lns_app _ hf, e2, nums_app, (goods_app _ _ _).1, (goods_app _ _ _).2]
  obtain ⟨g1, b1⟩ := reps_read h1 1
  rw [g1, b1]
  refine ⟨by simp; omega, ?_⟩
  obtain ⟨g2, b2⟩ := reps_read h2 (1 + (R1.map fun r => gtx r.k r.nm r.t r.F r.A r.B r.L ++ ends).length + 1)
  generalize hX : nums (1 + (R1.map fun r => gtx r.k r.nm r.t r.F r.A r.B r.L ++ ends).length + 1) (R2.map fun r => gtx r.k r.nm r.t r.F r.A r.B r.L ++ ends) = X at *
  simp only [nums, hX]
  cases hr : rdl near (ln ++ [10]) with
  | some y =>
    left
    unfold goods at g2 ⊢
    unfold bads at b2 ⊢
    simp only [List.filterMap_cons, hr, g2, b2]
    exact ⟨rfl, y, rfl⟩
  | none =>
    right
    unfold goods at g2 ⊢
    unfold bads at b2 ⊢
    simp only [List.filterMap_cons, hr, g2, b2]
    simp; omega
/-- A place in the lines: the report whose line holds it. -/
theorem bdy_at : ∀ (R : List Rp) (m : Nat), (∀ r ∈ R, Vd r.k r.nm r.t r.F r.A r.B r.C r.L) → m < (bdy R).length → (bdy R)[m]? ≠ some 10 →
    ∃ (R1 : List Rp) (r : Rp) (R2 : List Rp) (i : Nat), R = R1 ++ r :: R2 ∧ m = (bdy R1).length + i ∧ i < (gtx r.k r.nm r.t r.F r.A r.B r.L ++ [61]).length ∧ (wo ((bdy R).take m)).1 = R1.length ∧
      ∀ u : UInt8, (bdy R).set m u = bdy R1 ++ ((gtx r.k r.nm r.t r.F r.A r.B r.L ++ [61]).set i u ++ 10 :: bdy R2)
  | [], m, _, hm, _ => absurd hm (Nat.not_lt_zero _)
  | r :: R, m, h, hm, hb => by
    have hl := line_free (h r (by simp))
    rw [bdy_cons] at hm hb
    generalize hG : gtx r.k r.nm r.t r.F r.A r.B r.L ++ [61] = G at *
    by_cases hlt : m < G.length
    · refine ⟨[], r, R, m, rfl, by simp [bdy], by rw [hG]; exact hlt, ?_, fun u => ?_⟩
      · rw [bdy_cons, hG, List.take_append_of_le_length (by omega)]
        show (List.foldl wstep (0, 0) (G.take m)).1 = 0
        rw [wo_free _ _ (fun b hb => hl b (List.mem_of_mem_take hb))]
      · rw [bdy_cons, hG, List.set_append_left _ _ hlt]
        rfl
    · have hne : m ≠ G.length := fun e => hb (by rw [e, List.getElem?_append_right (Nat.le_refl _)]; simp)
      obtain ⟨p, rfl⟩ : ∃ p, m = G.length + (p + 1) := ⟨m - G.length - 1, by omega⟩
      have hp : p < (bdy R).length := by simp only [List.length_append, List.length_cons] at hm; omega
      have hb' : (bdy R)[p]? ≠ some 10 := fun e => hb (by rw [List.getElem?_append_right (by omega), show G.length + (p + 1) - G.length = p + 1 by omega, List.getElem?_cons_succ]; exact e)
      obtain ⟨R1, s, R2, i, e1, e2, e3, e4, e5⟩ := bdy_at R p (fun x hx => h x (by simp [hx])) hp hb'
      refine ⟨r :: R1, s, R2, i, by rw [e1]; rfl, by rw [bdy_cons, hG]; simp only [List.length_append, List.length_cons]; omega, e3, ?_, fun u => ?_⟩
      · rw [bdy_cons, hG, List.take_append, List.take_of_length_le (by omega), show G.length + (p + 1) - G.length = p + 1 by omega, List.take_succ_cons]
        have e4' : (List.foldl wstep (0, 0) ((bdy R).take p)).1 = R1.length := e4
        show (List.foldl wstep (0, 0) (G ++ 10 :: (bdy R).take p)).1 = _
        rw [List.foldl_append, wo_free _ _ hl, List.foldl_cons]
        have key : ∀ (l : List UInt8) (a b : Nat), (l.foldl wstep (a, b)).1 = a + (l.foldl wstep (0, b)).1 := by
          intro l
          induction l with
          | nil => intro a b; simp
          | cons x l ih =>
            intro a b
            simp only [List.foldl_cons, wstep]
            split
            · rw [ih (a + 1), ih (0 + 1)]; omega
            · rw [ih a]
        show (List.foldl wstep (0 + 1, 0) ((bdy R).take p)).1 = _
        rw [key, e4']
        simp; omega
      · rw [bdy_cons, hG, List.set_append_right _ _ (by omega), show G.length + (p + 1) - G.length = p + 1 by omega, List.set_cons_succ, e5 u, bdy_cons, hG]
        simp
/-- Where the report of place i is read, if the line of n1 is read (z) or not. -/
def pos (n1 : Nat) (z : Bool) (i : Nat) : Nat := if i ≤ n1 then i else if z then i else i - 1
theorem pos_next {n i : Nat} (z : Bool) (h : i ≠ n) : pos n z (i + 1) = pos n z i + 1 := by
  unfold pos
  rcases Nat.lt_or_ge i n with hlt | hge
  · rw [if_pos (show i + 1 ≤ n by omega), if_pos (show i ≤ n by omega)]
  · rw [if_neg (show ¬ i + 1 ≤ n by omega), if_neg (show ¬ i ≤ n by omega)]
    cases z
    · simp; omega
    · simp
theorem pos_in (n : Nat) : pos n true (n + 1) = pos n true n + 1 := by unfold pos; simp
theorem pos_out (n : Nat) : pos n false (n + 1) = pos n false n := by unfold pos; simp
theorem pos_zero (n : Nat) (z : Bool) : pos n z 0 = 0 := by unfold pos; simp
theorem pos_at {R R' R1 R2 : List Rp} {r : Rp} {z : Bool} (e : R = R1 ++ r :: R2) (h : (z = true ∧ ∃ y, R'.map Rp.key = R1.map Rp.key ++ y :: R2.map Rp.key) ∨ (z = false ∧ R'.map Rp.key = R1.map Rp.key ++ R2.map Rp.key)) (i : Nat) (hi : i < R.length) (hn : i ≠ R1.length) :
    ∃ h' : pos R1.length z i < R'.length, (R'[pos R1.length z i]).key = (R[i]).key := by
  have hk : (R'.map Rp.key)[pos R1.length z i]? = some (R[i]).key := by
    have e0 : (R.map Rp.key)[i]? = some (R[i]).key := by rw [List.getElem?_map, List.getElem?_eq_getElem hi]; rfl
    rw [← e0, e, List.map_append, List.map_cons]
    unfold pos
    rcases h with ⟨rfl, y, h⟩ | ⟨rfl, h⟩
    · rw [h]
      by_cases hlt : i < R1.length
      · rw [if_pos (by omega), List.getElem?_append_left (by simpa using hlt), List.getElem?_append_left (by simpa using hlt)]
      · rw [if_neg (by omega), if_pos rfl, List.getElem?_append_right (by simp; omega), List.getElem?_append_right (by simp; omega), List.length_map]
        obtain ⟨q, hq⟩ : ∃ q, i - R1.length = q + 1 := ⟨i - R1.length - 1, by omega⟩
        rw [hq, List.getElem?_cons_succ, List.getElem?_cons_succ]
    · rw [h]
      by_cases hlt : i < R1.length
      · rw [if_pos (by omega), List.getElem?_append_left (by simpa using hlt), List.getElem?_append_left (by simpa using hlt)]
      · rw [if_neg (by omega), if_neg (by decide), List.getElem?_append_right (by simp; omega), List.getElem?_append_right (by simp; omega), List.length_map]
        obtain ⟨q, hq⟩ : ∃ q, i - R1.length = q + 1 := ⟨i - R1.length - 1, by omega⟩
        rw [hq, List.getElem?_cons_succ, show i - 1 - R1.length = q by omega]
  obtain ⟨h1, h2⟩ := List.getElem?_eq_some_iff.1 hk
  have h1' : pos R1.length z i < R'.length := by simpa using h1
  exact ⟨h1', by simpa using h2⟩
theorem parse_mid (c : List UInt8) (t cor del : Int) (R R1 R2 : List Rp) (r : Rp) (ln : List UInt8) (w : World) (hE : Env w) (hV : VdB (S c) t cor del R) (e : R = R1 ++ r :: R2) (hl : R.length ≤ 6) (hf : ∀ b ∈ ln, b ≠ 10) (hln : ln.length ≤ 140) :
    Calls Tryz.prog 22 #[.string (S (hdT c t cor del ++ 10 :: (bdy R1 ++ (ln ++ 10 :: bdy R2)))), .int .i64 t] w fun e w' => ∃ (R' : List Rp) (A : Option Addr) (ca : Nat) (B : Option Addr) (d : Nat) (z : Bool) (bd : List Int), bd = (if z then [] else [((R1.length : Int) + 1)]) ∧ R'.length + bd.length = R.length ∧ (∀ i (hi : i < R.length), i ≠ R1.length → ∃ h' : pos R1.length z i < R'.length, (R'[pos R1.length z i]).key = (R[i]).key) ∧ e = .returned (.tuple #[bulV (S c) t cor del (.slice A R'.length ca), .slice B bd.length d, .int .i64 0]) ∧ (∀ Y, Up w.heap.size w' Y → RpsIn Y (.slice A R'.length ca) R' ∧ NumsIn Y (.slice B bd.length d) bd) ∧ Below w.heap.size w w' := by
  have hh := hdT_len hV.hctr hV.htime hV.hcor hV.hdel hV.hone
  have hq : R.length = R1.length + R2.length + 1 := by rw [e]; simp; omega
  have h0 : ∀ r ∈ R, Vd r.k r.nm r.t r.F r.A r.B r.C r.L ∧ Rdb r.t t := fun r hr => ⟨(hV.hreps r hr).1, rdb_iff.1 (hV.hreps r hr).2⟩
  have h1 : ∀ r ∈ R1, Vd r.k r.nm r.t r.F r.A r.B r.C r.L ∧ Rdb r.t t := fun r hr => h0 r (by rw [e]; simp [hr])
  have h2 : ∀ r ∈ R2, Vd r.k r.nm r.t r.F r.A r.B r.C r.L ∧ Rdb r.t t := fun r hr => h0 r (by rw [e]; simp [hr])
  have hb1 := bdy_len R1 (fun r hr => (h1 r hr).1)
  have hb2 := bdy_len R2 (fun r hr => (h2 r hr).1)
  obtain ⟨g0, g⟩ := mid_read (near := t) h1 h2 hf
  refine (parse_text (hdT c t cor del) (bdy R1 ++ (ln ++ 10 :: bdy R2)) t w hE hV.htime (hdT_fr10 hV.hctr hV.htime hV.hcor hV.hdel) (by simp only [List.length_append, List.length_cons]; omega) (by omega)).mono ?_
  have hH := hdr_hdT (near := t) hV.hctr hV.htime hV.hcor hV.hdel hV.hone (rdb_near hV.htime hV.htime (by omega) (by omega))
  rintro e' w' (⟨c', t', cor', del', R', vr, vd, hH', hk, rfl, o1, o2, hrd, hg⟩ | ⟨hno, -, -⟩)
  · obtain ⟨rfl, rfl, rfl, rfl⟩ := hH.one hH'
    generalize bads t (nums 1 (lns (bdy R1 ++ (ln ++ 10 :: bdy R2)))) = bd at *
    obtain ⟨B, d, rfl⟩ := row_form o2
    obtain ⟨A, ca, rfl⟩ := row_form o1
    have hup : ∀ Y, Up w.heap.size w' Y → RpsIn Y (.slice A R'.length ca) R' ∧ NumsIn Y (.slice B bd.length d) bd := fun Y hY => ⟨RpsIn.own (own_heap o1 fun i hi => hY.2 i (row_base o1 hi) (row_size o1 hi)) fun r hr => rdIn_kept (hrd r hr).1 hY.1 (fun hL i hi => hY.2 i ((hrd r hr).2 hL i hi) (rdIn_block (hrd r hr).1 hL hi).1), NumsIn.own (own_heap o2 fun i hi => hY.2 i (row_base o2 hi) (row_size o2 hi))⟩
    rcases g with ⟨q1, y, q2⟩ | ⟨q1, q2⟩
    · rw [q2] at hk
      have hlen := congrArg List.length hk
      simp only [List.length_map, List.length_append, List.length_cons] at hlen
      exact ⟨R', A, ca, B, d, true, bd, by rw [q1]; rfl, by rw [q1, List.length_nil]; omega, fun i hi hn => pos_at e (.inl ⟨rfl, y, hk⟩) i hi hn, rfl, hup, hg⟩
    · rw [q2] at hk
      have hlen := congrArg List.length hk
      simp only [List.length_map, List.length_append] at hlen
      exact ⟨R', A, ca, B, d, false, bd, by rw [q1]; rfl, by rw [q1, List.length_singleton]; omega, fun i hi hn => pos_at e (.inr ⟨rfl, hk⟩) i hi hn, rfl, hup, hg⟩
  · exact absurd hH (hno _ _ _ _)
/-- A block of bytes, none of them frozen. -/
def BRow (w : World) (g : Nat) (cs : Array Value) : Prop := ∃ lo hi, w.heap[g]? = some (.cells cs 5 (lo, hi)) ∧ cs.size ≤ lo
section
variable {w w' : World} {g : Nat} {cs : Array Value}
theorem BRow.cell (h : BRow w g cs) (j : Nat) : w.cell? ⟨g, j, none⟩ = cs[j]? := by
  obtain ⟨lo, hi, h, -⟩ := h
  simp [World.cell?, h]
theorem BRow.thaw (h : BRow w g cs) {j : Nat} (hj : j < cs.size) : w.frozen? ⟨g, j, none⟩ = false := by
  obtain ⟨lo, hi, h, hl⟩ := h
  simp [World.frozen?, h]
  omega
theorem BRow.under (h : BRow w g cs) (hb : Below w.heap.size w w') : BRow w' g cs := by
  obtain ⟨lo, hi, h, hl⟩ := h
  exact ⟨lo, hi, (hb.block g (Array.getElem?_eq_some_iff.1 h).1).trans h, hl⟩
theorem BRow.put (h : BRow w g cs) (j : Nat) (u : Value) : BRow (w.setCell ⟨g, j, none⟩ u) g (cs.setIfInBounds j u) := by
  obtain ⟨lo, hi, h, hl⟩ := h
  refine ⟨lo, hi, ?_, by simpa using hl⟩
  unfold World.setCell
  simp [Array.getElem?_modify, h]
end
theorem conv_bytes (w : World) (TX : List UInt8) : ∃ (cap : Nat) (W : World) (cs : Array Value), (convert 9 40 (.string (S TX))).run Tryz.prog w = .ok (.slice (some ⟨w.heap.size, 0, none⟩) (S TX).size cap) W ∧ Below w.heap.size w W ∧ BRow W w.heap.size cs ∧ TX.length ≤ cs.size ∧ ∀ j (h : j < TX.length), cs[j]? = some (.int .u8 (TX[j].toNat : Int)) := by
  have h := run_bytes_of_string (P := Tryz.prog) w 9 40 5 (S TX) (by kernel_rfl) (by kernel_rfl) (by kernel_rfl)
  refine ⟨_, _, bytesRow (S TX) (grownCap w (S TX).size 0 5), h, ?_, ⟨_, _, heap_alloc_new w.drew _, Nat.le_refl _⟩, ?_, fun j hj => ?_⟩
  · exact (below_drewN (Below.refl _ _) 1 : Below w.heap.size w w.drew).alloc (Nat.le_refl _) _
  · unfold bytesRow
    rw [Array.size_append, Array.size_map]
    show TX.length ≤ TX.toArray.size + _
    rw [List.size_toArray]; omega
  · have hj' : j < (S TX).data.size := by show j < TX.toArray.size; rw [List.size_toArray]; exact hj
    rw [bytesRow_at _ _ _ hj']
    rfl
theorem conv_back (w : World) (g cap : Nat) (cs : Array Value) (L : List UInt8) (n : Nat) (hn : L.length = n) (h : BRow w g cs) (hc : ∀ j (h : j < L.length), cs[j]? = some (.int .u8 (L[j].toNat : Int))) :
    (convert 40 9 (.slice (some ⟨g, 0, none⟩) n cap)).run Tryz.prog w = .ok (.string (S L)) w := by
  subst hn
  exact run_convert_bytes_back w 40 9 5 ⟨g, 0, none⟩ cap L (by kernel_rfl) (by kernel_rfl) (by kernel_rfl) (fun j hj => by rw [Addr.add_lit, Nat.zero_add, h.cell, hc j hj])
theorem set_bytes {TX : List UInt8} {cs : Array Value} (hl : TX.length ≤ cs.size) (h : ∀ j (h : j < TX.length), cs[j]? = some (.int .u8 (TX[j].toNat : Int))) (r : Nat) (u : UInt8) : ∀ j (h : j < (TX.set r u).length), (cs.setIfInBounds r (.int .u8 (u.toNat : Int)))[j]? = some (.int .u8 ((TX.set r u)[j].toNat : Int)) := fun j hj => by
  have hj' : j < TX.length := by rw [List.length_set] at hj; exact hj
  rw [Array.getElem?_setIfInBounds]
  by_cases e : r = j
  · subst e
    rw [if_pos rfl, if_pos (by omega), List.getElem_set_self]
  · rw [if_neg e, List.getElem_set_ne e, h j hj']
end Go.Proofs.YtfnlgfacadmjpaaGreatDoor.Bu
