/- A text that ends anywhere: the lines that are complete, and what is left. What BulletinJoins reads: the lines of two bulletins and any line between them. -/
import Derived.Test.YtfnlgfacadmjpaaGreatDoorBMa
import Derived.Test.YtfnlgfacadmjpaaGreatDoorGOwn
namespace Go.Proofs.YtfnlgfacadmjpaaGreatDoor.Bu
open Go.RowKit

/-- Lines and bytes behind the last line feed. -/
def wstep (s : Nat × Nat) (b : UInt8) : Nat × Nat := if b = 10 then (s.1 + 1, 0) else (s.1, s.2 + 1)
def wo (l : List UInt8) : Nat × Nat := l.foldl wstep (0, 0)
theorem wo_more (l : List UInt8) (b : UInt8) : wo (l ++ [b]) = wstep (wo l) b := by simp [wo]
theorem wo_free : ∀ (a : List UInt8) (s : Nat × Nat), (∀ b ∈ a, b ≠ 10) → a.foldl wstep s = (s.1, s.2 + a.length)
  | [], s, _ => by simp
  | c :: r, s, h => by
    rw [List.foldl_cons, wo_free r _ (fun x hx => h x (by simp [hx]))]
    unfold wstep
    rw [if_neg (h c (by simp))]
    simp; omega
theorem line_free {r : Rp} (h : Vd r.k r.nm r.t r.F r.A r.B r.C r.L) : ∀ b ∈ gtx r.k r.nm r.t r.F r.A r.B r.L ++ [61], b ≠ 10 := fun b hb => by
  rcases List.mem_append.1 hb with q | q
  · intro e; exact gtx_fr10 h (e ▸ q)
  · rw [List.mem_singleton.1 q]; decide
theorem bdy_cons (r : Rp) (R : List Rp) : bdy (r :: R) = (gtx r.k r.nm r.t r.F r.A r.B r.L ++ [61]) ++ 10 :: bdy R := by
  unfold bdy
  simp [ends]
theorem wo_bdy : ∀ (R : List Rp) (s : Nat × Nat) (p : List UInt8), (∀ r ∈ R, Vd r.k r.nm r.t r.F r.A r.B r.C r.L) → (∀ b ∈ p, b ≠ 10) → (R = [] → s.2 = 0) → (bdy R ++ p).foldl wstep s = (s.1 + R.length, p.length)
  | [], s, p, _, hp, hs => by
    show (bdy [] ++ p).foldl wstep s = _
    rw [show bdy [] = [] from rfl, List.nil_append, wo_free p s hp, hs rfl]
    simp
  | r :: R, s, p, h, hp, _ => by
    rw [bdy_cons, List.append_assoc, List.foldl_append, wo_free _ _ (line_free (h r (by simp))), List.cons_append, List.foldl_cons]
    have e : wstep (s.1, s.2 + (gtx r.k r.nm r.t r.F r.A r.B r.L ++ [61]).length) 10 = (s.1 + 1, 0) := rfl
    rw [e, wo_bdy R (s.1 + 1, 0) p (fun x hx => h x (by simp [hx])) hp (fun _ => rfl)]
    simp; omega
theorem torn : ∀ (R : List Rp) (m : Nat), (∀ r ∈ R, Vd r.k r.nm r.t r.F r.A r.B r.C r.L) → m ≤ (bdy R).length → ∃ j, j ≤ R.length ∧ ∃ p, (bdy R).take m = bdy (R.take j) ++ p ∧ (∀ b ∈ p, b ≠ 10) ∧ p.length ≤ m
  | [], m, _, hm => ⟨0, Nat.le_refl _, [], by rw [show bdy [] = [] from rfl]; simp [bdy], fun b hb => absurd hb List.not_mem_nil, Nat.zero_le _⟩
  | r :: R, m, h, hm => by
    rw [bdy_cons] at hm ⊢
    have hl := line_free (h r (by simp))
    generalize hG : gtx r.k r.nm r.t r.F r.A r.B r.L ++ [61] = G at *
    by_cases hlt : m ≤ G.length
    · refine ⟨0, Nat.zero_le _, G.take m, ?_, fun b hb => hl b (List.mem_of_mem_take hb), by rw [List.length_take]; omega⟩
      rw [List.take_append_of_le_length hlt]
      rfl
    · have hm' : m - G.length - 1 ≤ (bdy R).length := by simp only [List.length_append, List.length_cons] at hm; omega
      obtain ⟨j, hj, p, e, hp, hpl⟩ := torn R (m - G.length - 1) (fun x hx => h x (by simp [hx])) hm'
      refine ⟨j + 1, by simp; omega, p, ?_, hp, by omega⟩
      rw [List.take_succ_cons, bdy_cons, hG, List.take_append, List.take_of_length_le (by omega)]
      obtain ⟨q, hq⟩ : ∃ q, m - G.length = q + 1 := ⟨m - G.length - 1, by omega⟩
      rw [hq] at e ⊢
      rw [List.take_succ_cons, show q + 1 - 1 = q by omega] at *
      rw [e]
      simp
theorem goods_app (near : Int) (xs ys : List (Nat × List UInt8)) : goods near (xs ++ ys) = goods near xs ++ goods near ys ∧ bads near (xs ++ ys) = bads near xs ++ bads near ys := by
  simp [goods, bads, List.filterMap_append]
theorem rdl_free {near : Int} {p : List UInt8} (h : ∀ b ∈ p, b ≠ 10) : rdl near p = none := rdl_no fun k nm t F A B C L ⟨x, e, _⟩ => by
  have : (10 : UInt8) ∈ p := by rw [e]; simp [ends]
  exact h 10 this rfl
/-- What is read of a torn text. -/
theorem torn_read {R : List Rp} {near : Int} {p : List UInt8} (h : ∀ r ∈ R, Vd r.k r.nm r.t r.F r.A r.B r.C r.L ∧ Rdb r.t near) (hp : ∀ b ∈ p, b ≠ 10) : goods near (nums 1 (lns (bdy R ++ p))) = R.map Rp.key ∧ bads near (nums 1 (lns (bdy R ++ p))) = (if p = [] then [] else [((R.length : Int) + 1)]) ∧ (lns (bdy R ++ p)).length ≤ R.length + 1 := by
  rw [lns_bdy (fun r hr => (h r hr).1), lns_last hp, nums_app, (goods_app _ _ _).1, (goods_app _ _ _).2]
  obtain ⟨g1, g2⟩ := reps_read h 1
  rw [g1, g2]
  by_cases hz : p = []
  · rw [if_pos hz, if_pos hz]
    simp [nums, goods, bads]
  · rw [if_neg hz, if_neg hz]
    simp only [nums, goods, bads, List.filterMap_cons, List.filterMap_nil, rdl_free hp, List.length_map, List.append_nil, List.nil_append, List.length_append, List.length_cons, List.length_nil]
    refine ⟨trivial, ?_, by omega⟩
    congr 1
    omega
theorem RpsIn.take {W : World} {A : Option Addr} {n cap : Nat} {R : List Rp} (h : RpsIn W (.slice A n cap) R) {j : Nat} (hj : j ≤ R.length) : RpsIn W (.slice A j cap) (R.take j) := by
  obtain ⟨A', cap', e, h2, h3, h4⟩ := h
  injection e with e1 e2 e3
  subst e1; subst e3
  have hl : (R.take j).length = j := by rw [List.length_take]; omega
  refine ⟨A, cap, by rw [hl], by omega, h3, fun i hi => ?_⟩
  have hi' : i < R.length := by omega
  obtain ⟨g, off, q1, q2, q3, q4⟩ := h4 i hi'
  have hx : (R.take j)[i] = R[i] := List.getElem_take
  exact ⟨g, off, q1, q2, by rw [hx]; exact q3, by rw [hx]; exact q4⟩
/-- Blocks from n on lie as they lay. -/
def Up (n : Nat) (W Y : World) : Prop := W.heap.size ≤ Y.heap.size ∧ ∀ i, n ≤ i → i < W.heap.size → Y.heap[i]? = W.heap[i]?
theorem Up.refl (n : Nat) (W : World) : Up n W W := ⟨Nat.le_refl _, fun _ _ _ => rfl⟩
theorem Up.under {n : Nat} {W Y Y' : World} (h : Up n W Y) (hb : Below Y.heap.size Y Y') : Up n W Y' := ⟨Nat.le_trans h.1 hb.size, fun i h1 h2 => (hb.block i (Nat.lt_of_lt_of_le h2 h.1)).trans (h.2 i h1 h2)⟩
theorem Up.set {n g : Nat} {W Y : World} (h : Up n W Y) (hg : g < n ∨ W.heap.size ≤ g) (j : Nat) (u : Value) : Up n W (Y.setCell ⟨g, j, none⟩ u) :=
  ⟨by have := (KeepsWalks.setCell Y ⟨g, j, none⟩ u).size; have := h.1; omega, fun i h1 h2 => (Below.heap_setCell Y ⟨g, j, none⟩ u i (by simp only; omega)).trans (h.2 i h1 h2)⟩
/-- The text of a valid bulletin, cut anywhere behind its first line, is read. -/
theorem parse_torn (c : List UInt8) (t cor del : Int) (R : List Rp) (j : Nat) (p : List UInt8) (w : World) (hE : Env w) (hV : VdB (S c) t cor del R) (hl : R.length ≤ 6) (hj : j ≤ R.length) (hp : ∀ b ∈ p, b ≠ 10) (hpl : p.length ≤ 1000) :
    Calls Tryz.prog 22 #[.string (S (hdT c t cor del ++ 10 :: (bdy (R.take j) ++ p))), .int .i64 t] w fun e w' => ∃ (R' : List Rp) (A : Option Addr) (ca : Nat) (B : Option Addr) (d : Nat), R'.map Rp.key = (R.take j).map Rp.key ∧ e = .returned (.tuple #[bulV (S c) t cor del (.slice A R'.length ca), .slice B (if p = [] then [] else [((j : Int) + 1)]).length d, .int .i64 0]) ∧ (∀ Y, Up w.heap.size w' Y → RpsIn Y (.slice A R'.length ca) R' ∧ NumsIn Y (.slice B (if p = [] then [] else [((j : Int) + 1)]).length d) (if p = [] then [] else [((j : Int) + 1)])) ∧ Below w.heap.size w w' := by
  have hjl : (R.take j).length = j := by rw [List.length_take]; omega
  have hh := hdT_len hV.hctr hV.htime hV.hcor hV.hdel hV.hone
  have hmem : ∀ r ∈ R.take j, Vd r.k r.nm r.t r.F r.A r.B r.C r.L ∧ Rdb r.t t := fun r hr => ⟨(hV.hreps r (List.mem_of_mem_take hr)).1, rdb_iff.1 (hV.hreps r (List.mem_of_mem_take hr)).2⟩
  have hb := bdy_len (R.take j) (fun r hr => (hmem r hr).1)
  obtain ⟨g1, g2, g3⟩ := torn_read (near := t) hmem hp
  rw [hjl] at hb g2 g3
  refine (parse_text (hdT c t cor del) (bdy (R.take j) ++ p) t w hE hV.htime (hdT_fr10 hV.hctr hV.htime hV.hcor hV.hdel) (by rw [List.length_append]; omega) (by omega)).mono ?_
  have hH := hdr_hdT (near := t) hV.hctr hV.htime hV.hcor hV.hdel hV.hone (rdb_near hV.htime hV.htime (by omega) (by omega))
  rintro e w' (⟨c', t', cor', del', R', vr, vd, hH', hk, rfl, o1, o2, hrd, hg⟩ | ⟨hno, -, -⟩)
  · obtain ⟨rfl, rfl, rfl, rfl⟩ := hH.one hH'
    rw [g1] at hk
    rw [g2] at o2
    obtain ⟨B, d, rfl⟩ := row_form o2
    obtain ⟨A, ca, rfl⟩ := row_form o1
    refine ⟨R', A, ca, B, d, hk, rfl, fun Y hY => ⟨RpsIn.own (own_heap o1 fun i hi => hY.2 i (row_base o1 hi) (row_size o1 hi)) fun r hr => ?_, NumsIn.own (own_heap o2 fun i hi => hY.2 i (row_base o2 hi) (row_size o2 hi))⟩, hg⟩
    exact rdIn_kept (hrd r hr).1 hY.1 (fun hL i hi => hY.2 i ((hrd r hr).2 hL i hi) (rdIn_block (hrd r hr).1 hL hi).1)
  · exact absurd hH (hno _ _ _ _)
/-- Counts of a text's beginning. -/
theorem wo_le : ∀ (l : List UInt8) (s : Nat × Nat), (l.foldl wstep s).1 ≤ s.1 + l.length ∧ (l.foldl wstep s).2 ≤ s.2 + l.length
  | [], s => ⟨Nat.le_refl _, Nat.le_refl _⟩
  | b :: l, s => by
    obtain ⟨h1, h2⟩ := wo_le l (wstep s b)
    rw [List.foldl_cons]
    have h3 : (wstep s b).1 ≤ s.1 + 1 ∧ (wstep s b).2 ≤ s.2 + 1 := by
      unfold wstep
      split <;> constructor <;> simp <;> omega
    simp only [List.length_cons]
    omega
end Go.Proofs.YtfnlgfacadmjpaaGreatDoor.Bu
namespace Go.Proofs.YtfnlgfacadmjpaaGreatDoor.Bu
open Go.RowKit

theorem joins_read {R1 R2 : List Rp} {near : Int} {ln : List UInt8} (h1 : ∀ r ∈ R1, Vd r.k r.nm r.t r.F r.A r.B r.C r.L ∧ Rdb r.t near) (h2 : ∀ r ∈ R2, Vd r.k r.nm r.t r.F r.A r.B r.C r.L ∧ Rdb r.t near) (hf : ∀ b ∈ ln, b ≠ 10) :
    (lns (bdy R1 ++ (ln ++ 10 :: bdy R2))).length = R1.length + R2.length + 1 ∧
    ((bads near (nums 1 (lns (bdy R1 ++ (ln ++ 10 :: bdy R2)))) = [] ∧ (goods near (nums 1 (lns (bdy R1 ++ (ln ++ 10 :: bdy R2))))).length = R1.length + R2.length + 1) ∨
     (bads near (nums 1 (lns (bdy R1 ++ (ln ++ 10 :: bdy R2)))) = [((R1.length : Int) + 1)] ∧ goods near (nums 1 (lns (bdy R1 ++ (ln ++ 10 :: bdy R2)))) = (R1 ++ R2).map Rp.key)) := by
  have e2 : lns (bdy R2) = R2.map fun r => gtx r.k r.nm r.t r.F r.A r.B r.L ++ ends := by
    have := lns_bdy (fun r hr => (h2 r hr).1) []
    rw [List.append_nil] at this
    rw [this]; simp [lns]
  rw [lns_bdy (fun r hr => (h1 r hr).1), lns_app _ hf, e2, nums_app, (goods_app _ _ _).1, (goods_app _ _ _).2]
  obtain ⟨g1, b1⟩ := reps_read h1 1
  rw [g1, b1]
  refine ⟨by simp; omega, ?_⟩
  obtain ⟨g2, b2⟩ := reps_read h2 (1 + (R1.map fun r => gtx r.k r.nm r.t r.F r.A r.B r.L ++ ends).length + 1)
  generalize hX : nums (1 + (R1.map fun r => gtx r.k r.nm r.t r.F r.A r.B r.L ++ ends).length + 1) (R2.map fun r => gtx r.k r.nm r.t r.F r.A r.B r.L ++ ends) = X at *
  simp only [nums, hX]
  cases hr : rdl near (ln ++ [10]) with
  | some y =>
    left
    unfold goods at g2 ⊢
    unfold bads at b2 ⊢
    simp only [List.filterMap_cons, hr, g2, b2]
    simp; omega
  | none =>
    right
    unfold goods at g2 ⊢
    unfold bads at b2 ⊢
    simp only [List.filterMap_cons, hr, g2, b2]
    simp; omega
theorem parse_joins (c : List UInt8) (t cor del : Int) (R1 R2 : List Rp) (ln : List UInt8) (w : World) (hE : Env w) (hV : VdB (S c) t cor del R1) (hV2 : VdB (S c) t cor del R2) (hl1 : R1.length ≤ 4) (hl2 : R2.length ≤ 4) (hf : ∀ b ∈ ln, b ≠ 10) (hln : ln.length ≤ 60) :
    Calls Tryz.prog 22 #[.string (S (hdT c t cor del ++ 10 :: (bdy R1 ++ (ln ++ 10 :: bdy R2)))), .int .i64 t] w fun e w' => ∃ (R' : List Rp) (A : Option Addr) (ca : Nat) (B : Option Addr) (d : Nat) (bd : List Int), (bd = [] ∧ R'.length = R1.length + R2.length + 1 ∨ bd = [((R1.length : Int) + 1)] ∧ R'.map Rp.key = (R1 ++ R2).map Rp.key) ∧ e = .returned (.tuple #[bulV (S c) t cor del (.slice A R'.length ca), .slice B bd.length d, .int .i64 0]) ∧ (∀ Y, Up w.heap.size w' Y → RpsIn Y (.slice A R'.length ca) R' ∧ NumsIn Y (.slice B bd.length d) bd) ∧ Below w.heap.size w w' := by
  have hh := hdT_len hV.hctr hV.htime hV.hcor hV.hdel hV.hone
  have h1 : ∀ r ∈ R1, Vd r.k r.nm r.t r.F r.A r.B r.C r.L ∧ Rdb r.t t := fun r hr => ⟨(hV.hreps r hr).1, rdb_iff.1 (hV.hreps r hr).2⟩
  have h2 : ∀ r ∈ R2, Vd r.k r.nm r.t r.F r.A r.B r.C r.L ∧ Rdb r.t t := fun r hr => ⟨(hV2.hreps r hr).1, rdb_iff.1 (hV2.hreps r hr).2⟩
  have hb1 := bdy_len R1 (fun r hr => (h1 r hr).1)
  have hb2 := bdy_len R2 (fun r hr => (h2 r hr).1)
  obtain ⟨g0, g⟩ := joins_read (near := t) h1 h2 hf
  refine (parse_text (hdT c t cor del) (bdy R1 ++ (ln ++ 10 :: bdy R2)) t w hE hV.htime (hdT_fr10 hV.hctr hV.htime hV.hcor hV.hdel) (by simp only [List.length_append, List.length_cons]; omega) (by omega)).mono ?_
  have hH := hdr_hdT (near := t) hV.hctr hV.htime hV.hcor hV.hdel hV.hone (rdb_near hV.htime hV.htime (by omega) (by omega))
  rintro e w' (⟨c', t', cor', del', R', vr, vd, hH', hk, rfl, o1, o2, hrd, hg⟩ | ⟨hno, -, -⟩)
  · obtain ⟨rfl, rfl, rfl, rfl⟩ := hH.one hH'
    generalize bads t (nums 1 (lns (bdy R1 ++ (ln ++ 10 :: bdy R2)))) = bd at *
    obtain ⟨B, d, rfl⟩ := row_form o2
    obtain ⟨A, ca, rfl⟩ := row_form o1
    refine ⟨R', A, ca, B, d, bd, ?_, rfl, fun Y hY => ⟨RpsIn.own (own_heap o1 fun i hi => hY.2 i (row_base o1 hi) (row_size o1 hi)) fun r hr => ?_, NumsIn.own (own_heap o2 fun i hi => hY.2 i (row_base o2 hi) (row_size o2 hi))⟩, hg⟩
    · rcases g with ⟨q1, q2⟩ | ⟨q1, q2⟩
      · exact .inl ⟨q1, by rw [← hk, List.length_map] at q2; exact q2⟩
      · exact .inr ⟨q1, hk.trans q2⟩
    · exact rdIn_kept (hrd r hr).1 hY.1 (fun hL i hi => hY.2 i ((hrd r hr).2 hL i hi) (rdIn_block (hrd r hr).1 hL hi).1)
  · exact absurd hH (hno _ _ _ _)
theorem own_news {W : World} {base size n cap : Nat} {e : TypeId} {A : Option Addr} {xs : List Value} (h : W.ownsRow base e size (.slice A n cap) n xs) : (A = none → n = 0) ∧ ∀ ad, A = some ad → ∀ (j : Nat) (u : Value), xs[j]? = some u → W.cell? (ad.add j) = some u := by
  rcases h.2 with ⟨q, h0⟩ | ⟨g, cap', cur, q, hb, hg, hc, hm, hs, hx⟩
  · injection q with q1 _ _
    exact ⟨fun _ => h0, fun ad ha => absurd (q1.symm.trans ha) (by simp)⟩
  · injection q with q1 _ _
    refine ⟨fun ha => absurd (q1.symm.trans ha) (by simp), fun ad ha j u hu => ?_⟩
    rw [q1] at ha
    injection ha with ha
    subst ha
    rw [Addr.add_lit, Nat.zero_add]
    have h1 : W.cell? ⟨g, j, none⟩ = cur[j]? := by simp [World.cell?, hg]
    have hj : j < n * size := by rw [← h.1]; exact (List.getElem?_eq_some_iff.1 hu).1
    rw [h1, ← hu, ← hx, ← Array.getElem?_toList, List.getElem?_take, if_pos hj]
theorem rpc_one (R : List Rp) (h : ∀ r ∈ R, ∃ A n c, r.u = .slice A n c) : ∀ u ∈ rpc R, u.oneCell' = true := by
  intro u hu
  obtain ⟨r, hm, hr⟩ := List.mem_flatMap.1 hu
  obtain ⟨A, n, c, he⟩ := h r hm
  simp only [rpCells, List.mem_cons, List.not_mem_nil, or_false] at hr
  rcases hr with rfl | rfl | rfl | rfl | rfl | rfl | rfl | rfl <;> first | rfl | (rw [he]; rfl)
theorem own_empty (W : World) (e : TypeId) (size : Nat) : (W.alloc (.cells #[] e)).ownsRow W.heap.size e size (.slice (some ⟨W.heap.size, 0, none⟩) 0 0) 0 [] :=
  ⟨by simp, .inr ⟨W.heap.size, 0, #[], rfl, Nat.le_refl _, heap_alloc_new W _, Nat.le_refl _, by unfold maxLen; omega, by simp, by simp⟩⟩
/-- APPEND TO AN OWNED ROW, NOTHING OR MORE, WHATEVER GUARDS IT. -/
theorem step_append_opt {P : Program} {ops : Array Oper} {o : Oper} {a : Act} {w : World} {K : Act → World → Prop} {Q : Exit → Act → World → Prop} {E : Prop} (hw : Region.wanted o (yielded ops a.tmps) = true) (s x : Operand) (t : TypeId)
    (ho : o.op = .call { callee := .builtin .append, args := #[s, x], argTypes := #[t, t] })
    (base : Nat) (e : TypeId) (i : TypeInfo) (z : Value) (size bytes : Nat) (ht : P.underlying t = some (.slice e)) (hi : P.info? e = some i) (hz : i.zero = some z)
    (hsize : i.size = size) (hby : i.bytes = bytes) (hzs : z.cells.size = size) (hsz : 0 < size)
    (v : Value) (n : Nat) (xs : List Value) (hs : a.eval s = v) (hown : w.ownsRow base e size v n xs)
    (A : Option Addr) (m c : Nat) (news : List Value) (hx : a.eval x = .slice A m c) (hl : news.length = m * size) (hnone : A = none → m = 0)
    (hnews : ∀ ad, A = some ad → ∀ (j : Nat) u, news[j]? = some u → w.cell? (ad.add j) = some u) (h1 : ∀ u ∈ news, u.oneCell' = true)
    (h63 : n + m ≤ maxLen) (hbytes : (n + m) * bytes ≤ 140737488355328) (hbase : base ≤ w.heap.size)
    (h : ∀ v' w', w'.ownsRow base e size v' (n + m) (xs ++ news) → w.grownBy w' v.ownBlock → K (a.put o.dst v') w') :
    if Region.wanted o (yielded ops a.tmps) = true then Oper.wp P o a w K Q else E := by
  rw [if_pos hw]
  cases A with
  | none =>
    obtain rfl := hnone rfl
    obtain rfl : news = [] := List.eq_nil_of_length_eq_zero (by rw [hl, Nat.zero_mul])
    have hv : ∃ P' cap, v = .slice P' n cap ∧ n ≤ cap := by
      rcases hown.2 with ⟨q, h0⟩ | ⟨g, cap', cur, q, hb, hg, hc, hm, hs, hx⟩
      · exact ⟨none, 0, by rw [q, h0], by omega⟩
      · exact ⟨_, _, q, hc⟩
    obtain ⟨P', cap, rfl, hle⟩ := hv
    have hr := run_append_nothing (P := P) w t t o.type e i ht hi P' n cap hle (.slice none 0 c) (Go.Src.ofNil w ht c)
    unfold Oper.wp execOp
    simp only [ho, resolve, invoke, builtin, Sem.run_bind, Sem.run_pure, Result.andThen_ok, List.map_toArray, List.map_cons, List.map_nil, hs, hx, hr]
    exact h _ _ (by rw [List.append_nil]; exact hown) (grown_refl _ _)
  | some ad =>
    obtain ⟨v', w', hr, h2, h3, -⟩ := run_append_own (P := P) w base t o.type e i z size bytes ht hi hz hsize hby hzs hsz v n xs hown ad m c news hl (hnews ad rfl) h1 h63 hbytes hbase
    unfold Oper.wp execOp
    simp only [ho, resolve, invoke, builtin, Sem.run_bind, Sem.run_pure, Result.andThen_ok, List.map_toArray, List.map_cons, List.map_nil, hs, hx, hr]
    exact h v' w' h2 h3
end Go.Proofs.YtfnlgfacadmjpaaGreatDoor.Bu
