/- A text that ends anywhere: the lines that are complete, and what is left. The walk of BulletinTorn. -/
import Derived.Test.YtfnlgfacadmjpaaGreatDoorBMa
namespace Go.Proofs.YtfnlgfacadmjpaaGreatDoor.Bu
open Go.RowKit

/-- Lines and bytes behind the last line feed. -/
def wstep (s : Nat × Nat) (b : UInt8) : Nat × Nat := if b = 10 then (s.1 + 1, 0) else (s.1, s.2 + 1)
def wo (l : List UInt8) : Nat × Nat := l.foldl wstep (0, 0)
theorem wo_more (l : List UInt8) (b : UInt8) : wo (l ++ [b]) = wstep (wo l) b := by simp [wo]
theorem wo_free : ∀ (a : List UInt8) (s : Nat × Nat), (∀ b ∈ a, b ≠ 10) → a.foldl wstep s = (s.1, s.2 + a.length)
  | [], s, _ => by simp
  | c :: r, s, h => by
    rw [List.foldl_cons, wo_free r _ (fun x hx => h x (by simp [hx]))]
    unfold wstep
    rw [if_neg (h c (by simp))]
    simp; omega
theorem line_free {r : Rp} (h : Vd r.k r.nm r.t r.F r.A r.B r.C r.L) : ∀ b ∈ gtx r.k r.nm r.t r.F r.A r.B r.L ++ [61], b ≠ 10 := fun b hb => by
  rcases List.mem_append.1 hb with q | q
  · intro e; exact gtx_fr10 h (e ▸ q)
  · rw [List.mem_singleton.1 q]; decide
theorem bdy_cons (r : Rp) (R : List Rp) : bdy (r :: R) = (gtx r.k r.nm r.t r.F r.A r.B r.L ++ [61]) ++ 10 :: bdy R := by
  unfold bdy
  simp [ends]
theorem wo_bdy : ∀ (R : List Rp) (s : Nat × Nat) (p : List UInt8), (∀ r ∈ R, Vd r.k r.nm r.t r.F r.A r.B r.C r.L) → (∀ b ∈ p, b ≠ 10) → (R = [] → s.2 = 0) → (bdy R ++ p).foldl wstep s = (s.1 + R.length, p.length)
  | [], s, p, _, hp, hs => by
    show (bdy [] ++ p).foldl wstep s = _
    rw [show bdy [] = [] from rfl, List.nil_append, wo_free p s hp, hs rfl]
    simp
  | r :: R, s, p, h, hp, _ => by
    rw [bdy_cons, List.append_assoc, List.foldl_append, wo_free _ _ (line_free (h r (by simp))), List.cons_append, List.foldl_cons]
    have e : wstep (s.1, s.2 + (gtx r.k r.nm r.t r.F r.A r.B r.L ++ [61]).length) 10 = (s.1 + 1, 0) := rfl
    rw [e, wo_bdy R (s.1 + 1, 0) p (fun x hx => h x (by simp [hx])) hp (fun _ => rfl)]
    simp; omega
theorem torn : ∀ (R : List Rp) (m : Nat), (∀ r ∈ R, Vd r.k r.nm r.t r.F r.A r.B r.C r.L) → m ≤ (bdy R).length → ∃ j, j ≤ R.length ∧ ∃ p, (bdy R).take m = bdy (R.take j) ++ p ∧ (∀ b ∈ p, b ≠ 10) ∧ p.length ≤ m
  | [], m, _, hm => ⟨0, Nat.le_refl _, [], by rw [show bdy [] = [] from rfl]; simp [bdy], fun b hb => absurd hb List.not_mem_nil, Nat.zero_le _⟩
  | r :: R, m, h, hm => by
    rw [bdy_cons] at hm ⊢
    have hl := line_free (h r (by simp))
    generalize hG : gtx r.k r.nm r.t r.F r.A r.B r.L ++ [61] = G at *
    by_cases hlt : m ≤ G.length
    · refine ⟨0, Nat.zero_le _, G.take m, ?_, fun b hb => hl b (List.mem_of_mem_take hb), by rw [List.length_take]; omega⟩
      rw [List.take_append_of_le_length hlt]
      rfl
    · have hm' : m - G.length - 1 ≤ (bdy R).length := by simp only [List.length_append, List.length_cons] at hm; omega
      obtain ⟨j, hj, p, e, hp, hpl⟩ := torn R (m - G.length - 1) (fun x hx => h x (by simp [hx])) hm'
      refine ⟨j + 1, by simp; omega, p, ?_, hp, by omega⟩
      rw [List.take_succ_cons, bdy_cons, hG, List.take_append, List.take_of_length_le (by omega)]
      obtain ⟨q, hq⟩ : ∃ q, m - G.length = q + 1 := ⟨m - G.length - 1, by omega⟩
      rw [hq] at e ⊢
      rw [List.take_succ_cons, show q + 1 - 1 = q by omega] at *
      rw [e]
      simp
theorem goods_app (near : Int) (xs ys : List (Nat × List UInt8)) : goods near (xs ++ ys) = goods near xs ++ goods near ys ∧ bads near (xs ++ ys) = bads near xs ++ bads near ys := by
  simp [goods, bads, List.filterMap_append]
theorem rdl_free {near : Int} {p : List UInt8} (h : ∀ b ∈ p, b ≠ 10) : rdl near p = none := rdl_no fun k nm t F A B C L ⟨x, e, _⟩ => by
  have : (10 : UInt8) ∈ p := by rw [e]; simp [ends]
  exact h 10 this rfl
/-- What is read of a torn text. -/
theorem torn_read {R : List Rp} {near : Int} {p : List UInt8} (h : ∀ r ∈ R, Vd r.k r.nm r.t r.F r.A r.B r.C r.L ∧ Rdb r.t near) (hp : ∀ b ∈ p, b ≠ 10) : goods near (nums 1 (lns (bdy R ++ p))) = R.map Rp.key ∧ bads near (nums 1 (lns (bdy R ++ p))) = (if p = [] then [] else [((R.length : Int) + 1)]) ∧ (lns (bdy R ++ p)).length ≤ R.length + 1 := by
  rw [lns_bdy (fun r hr => (h r hr).1), lns_last hp, nums_app, (goods_app _ _ _).1, (goods_app _ _ _).2]
  obtain ⟨g1, g2⟩ := reps_read h 1
  rw [g1, g2]
  by_cases hz : p = []
  · rw [if_pos hz, if_pos hz]
    simp [nums, goods, bads]
  · rw [if_neg hz, if_neg hz]
    simp only [nums, goods, bads, List.filterMap_cons, List.filterMap_nil, rdl_free hp, List.length_map, List.append_nil, List.nil_append, List.length_append, List.length_cons, List.length_nil]
    refine ⟨trivial, ?_, by omega⟩
    congr 1
    omega
theorem RpsIn.take {W : World} {A : Option Addr} {n cap : Nat} {R : List Rp} (h : RpsIn W (.slice A n cap) R) {j : Nat} (hj : j ≤ R.length) : RpsIn W (.slice A j cap) (R.take j) := by
  obtain ⟨A', cap', e, h2, h3, h4⟩ := h
  injection e with e1 e2 e3
  subst e1; subst e3
  have hl : (R.take j).length = j := by rw [List.length_take]; omega
  refine ⟨A, cap, by rw [hl], by omega, h3, fun i hi => ?_⟩
  have hi' : i < R.length := by omega
  obtain ⟨g, off, q1, q2, q3, q4⟩ := h4 i hi'
  have hx : (R.take j)[i] = R[i] := List.getElem_take
  exact ⟨g, off, q1, q2, by rw [hx]; exact q3, by rw [hx]; exact q4⟩
/-- Blocks from n on lie as they lay. -/
def Up (n : Nat) (W Y : World) : Prop := W.heap.size ≤ Y.heap.size ∧ ∀ i, n ≤ i → i < W.heap.size → Y.heap[i]? = W.heap[i]?
theorem Up.refl (n : Nat) (W : World) : Up n W W := ⟨Nat.le_refl _, fun _ _ _ => rfl⟩
theorem Up.under {n : Nat} {W Y Y' : World} (h : Up n W Y) (hb : Below Y.heap.size Y Y') : Up n W Y' := ⟨Nat.le_trans h.1 hb.size, fun i h1 h2 => (hb.block i (Nat.lt_of_lt_of_le h2 h.1)).trans (h.2 i h1 h2)⟩
theorem Up.set {n g : Nat} {W Y : World} (h : Up n W Y) (hg : g < n ∨ W.heap.size ≤ g) (j : Nat) (u : Value) : Up n W (Y.setCell ⟨g, j, none⟩ u) :=
  ⟨by have := (KeepsWalks.setCell Y ⟨g, j, none⟩ u).size; have := h.1; omega, fun i h1 h2 => (Below.heap_setCell Y ⟨g, j, none⟩ u i (by simp only; omega)).trans (h.2 i h1 h2)⟩
/-- The text of a valid bulletin, cut anywhere behind its first line, is read. -/
theorem parse_torn (c : List UInt8) (t cor del : Int) (R : List Rp) (j : Nat) (p : List UInt8) (w : World) (hE : Env w) (hV : VdB (S c) t cor del R) (hl : R.length ≤ 6) (hj : j ≤ R.length) (hp : ∀ b ∈ p, b ≠ 10) (hpl : p.length ≤ 1000) :
    Calls Tryz.prog 22 #[.string (S (hdT c t cor del ++ 10 :: (bdy (R.take j) ++ p))), .int .i64 t] w fun e w' => ∃ (R' : List Rp) (A : Option Addr) (ca : Nat) (B : Option Addr) (d : Nat), R'.map Rp.key = (R.take j).map Rp.key ∧ e = .returned (.tuple #[bulV (S c) t cor del (.slice A R'.length ca), .slice B (if p = [] then [] else [((j : Int) + 1)]).length d, .int .i64 0]) ∧ (∀ Y, Up w.heap.size w' Y → RpsIn Y (.slice A R'.length ca) R' ∧ NumsIn Y (.slice B (if p = [] then [] else [((j : Int) + 1)]).length d) (if p = [] then [] else [((j : Int) + 1)])) ∧ Below w.heap.size w w' := by
  have hjl : (R.take j).length = j := by rw [List.length_take]; omega
  have hh := hdT_len hV.hctr hV.htime hV.hcor hV.hdel hV.hone
  have hmem : ∀ r ∈ R.take j, Vd r.k r.nm r.t r.F r.A r.B r.C r.L ∧ Rdb r.t t := fun r hr => ⟨(hV.hreps r (List.mem_of_mem_take hr)).1, rdb_iff.1 (hV.hreps r (List.mem_of_mem_take hr)).2⟩
  have hb := bdy_len (R.take j) (fun r hr => (hmem r hr).1)
  obtain ⟨g1, g2, g3⟩ := torn_read (near := t) hmem hp
  rw [hjl] at hb g2 g3
  refine (parse_text (hdT c t cor del) (bdy (R.take j) ++ p) t w hE hV.htime (hdT_fr10 hV.hctr hV.htime hV.hcor hV.hdel) (by rw [List.length_append]; omega) (by omega)).mono ?_
  have hH := hdr_hdT (near := t) hV.hctr hV.htime hV.hcor hV.hdel hV.hone (rdb_near hV.htime hV.htime (by omega) (by omega))
  rintro e w' (⟨c', t', cor', del', R', vr, vd, hH', hk, rfl, o1, o2, hrd, hg⟩ | ⟨hno, -, -⟩)
  · obtain ⟨rfl, rfl, rfl, rfl⟩ := hH.one hH'
    rw [g1] at hk
    rw [g2] at o2
    obtain ⟨B, d, rfl⟩ := row_form o2
    obtain ⟨A, ca, rfl⟩ := row_form o1
    refine ⟨R', A, ca, B, d, hk, rfl, fun Y hY => ⟨RpsIn.own (own_heap o1 fun i hi => hY.2 i (row_base o1 hi) (row_size o1 hi)) fun r hr => ?_, NumsIn.own (own_heap o2 fun i hi => hY.2 i (row_base o2 hi) (row_size o2 hi))⟩, hg⟩
    exact rdIn_kept (hrd r hr).1 hY.1 (fun hL i hi => hY.2 i ((hrd r hr).2 hL i hi) (rdIn_block (hrd r hr).1 hL hi).1)
  · exact absurd hH (hno _ _ _ _)
/-- Counts of a text's beginning. -/
theorem wo_le : ∀ (l : List UInt8) (s : Nat × Nat), (l.foldl wstep s).1 ≤ s.1 + l.length ∧ (l.foldl wstep s).2 ≤ s.2 + l.length
  | [], s => ⟨Nat.le_refl _, Nat.le_refl _⟩
  | b :: l, s => by
    obtain ⟨h1, h2⟩ := wo_le l (wstep s b)
    rw [List.foldl_cons]
    have h3 : (wstep s b).1 ≤ s.1 + 1 ∧ (wstep s b).2 ≤ s.2 + 1 := by
      unfold wstep
      split <;> constructor <;> simp <;> omega
    simp only [List.length_cons]
    omega
end Go.Proofs.YtfnlgfacadmjpaaGreatDoor.Bu
namespace Go.Proofs.YtfnlgfacadmjpaaGreatDoor.Bu
open Go.RowKit

def Aside (n0 : Nat) (X1 : World) (ga : Nat) : Prop := ga < n0 ∨ X1.heap.size ≤ ga
/-- A bulletin stored in its new box. -/
theorem tn_store {w : World} {b base g4 ga n0 : Nat} {R : List Rp} {v : Value} {cs : Array Value} {X1 Y : World} (h : (RM w b base R v Y ∧ Row Y g4 24 cs) ∧ Row Y ga 24 (bulC ⟨#[]⟩ 0 0 0 (.slice none 0 0)) ∧ Up n0 X1 Y ∧ (ga ≠ b ∧ ga ≠ g4 ∧ w.heap.size ≤ ga ∧ Aside n0 X1 ga)) (u0 u1 u2 u3 u4 : Value) :
    (RM w b base R v (((((Y.setCell ⟨ga, 0, none⟩ u0).setCell ⟨ga, 1, none⟩ u1).setCell ⟨ga, 2, none⟩ u2).setCell ⟨ga, 3, none⟩ u3).setCell ⟨ga, 4, none⟩ u4) ∧ Row (((((Y.setCell ⟨ga, 0, none⟩ u0).setCell ⟨ga, 1, none⟩ u1).setCell ⟨ga, 2, none⟩ u2).setCell ⟨ga, 3, none⟩ u3).setCell ⟨ga, 4, none⟩ u4) g4 24 cs) ∧ Row (((((Y.setCell ⟨ga, 0, none⟩ u0).setCell ⟨ga, 1, none⟩ u1).setCell ⟨ga, 2, none⟩ u2).setCell ⟨ga, 3, none⟩ u3).setCell ⟨ga, 4, none⟩ u4) ga 24 #[u0, u1, u2, u3, u4] ∧ Up n0 X1 (((((Y.setCell ⟨ga, 0, none⟩ u0).setCell ⟨ga, 1, none⟩ u1).setCell ⟨ga, 2, none⟩ u2).setCell ⟨ga, 3, none⟩ u3).setCell ⟨ga, 4, none⟩ u4) := by
  obtain ⟨⟨hrm, r4⟩, ra, hu, hb, h4, hw, hd⟩ := h
  have a0 := ra.put 0 u0
  have a1 := a0.put 1 u1
  have a2 := a1.put 2 u2
  have a3 := a2.put 3 u3
  exact ⟨⟨((((hrm.set ra hw hb 0 u0).set a0 hw hb 1 u1).set a1 hw hb 2 u2).set a2 hw hb 3 u3).set a3 hw hb 4 u4, ((((r4.far (p := ⟨ga, 0, none⟩) h4 u0).far (p := ⟨ga, 1, none⟩) h4 u1).far (p := ⟨ga, 2, none⟩) h4 u2).far (p := ⟨ga, 3, none⟩) h4 u3).far (p := ⟨ga, 4, none⟩) h4 u4⟩, set5_row u0 u1 u2 u3 u4 ra, ((((hu.set hd 0 u0).set hd 1 u1).set hd 2 u2).set hd 3 u3).set hd 4 u4⟩
set_option maxRecDepth 100000 in
set_option maxHeartbeats 4000000 in
theorem bulletinTorn_any (v : Value) (x : Int) (w : World) (hE : Env w) (hl : ListIn w v) (hx : I64 x) :
    Calls Tryz.prog 7 #[v, .int .i64 x] w fun e w' => e = .returned (.bool true) ∧ Below w.heap.size w w' := by
  have HE := Lib.hid hE
  clear hE
  go_enter Tryz.func7, Tryz.ntmps7
  go_wp2_with fail
  refine (new_any _ _ hl).mono ?_
  rintro e w1 ⟨rfl, s1, -⟩
  have hbw : w.heap.size ≤ w1.heap.size := s1.below.size
  obtain ⟨b, hb0⟩ : ∃ b, w.heap.size = b := ⟨_, rfl⟩
  have HB0 := Lib.hid hb0
  rw [hb0] at s1 ⊢
  clear hb0
  go_wp2_with fail
  refine (made_any w b w1 6 s1 (by decide)).mono ?_
  rintro e w2 ⟨c, t, cor, del, R, vr, base, rfl, hV, hR6, hM⟩
  obtain ⟨Ar, cr, er⟩ := row_form hM.own
  subst er
  have hb3 : Below w2.heap.size w2 (w2.alloc (.cells (bulC (S c) t cor del (.slice Ar R.length cr)) 24)) := (Below.refl _ _).alloc (Nat.le_refl _) _
  have H3 := Lib.hid (⟨hM.under hb3, Row.new _ _ _⟩ : RM w b base R (.slice Ar R.length cr) (w2.alloc (.cells (bulC (S c) t cor del (.slice Ar R.length cr)) 24)) ∧ Row (w2.alloc (.cells (bulC (S c) t cor del (.slice Ar R.length cr)) 24)) w2.heap.size 24 (bulC (S c) t cor del (.slice Ar R.length cr)))
  have h4b' : w2.heap.size ≠ b := by have := src_lt hM.src; omega
  have HV := Lib.hid hV
  have HFo := Lib.hid (fun Y (hY : Below w.heap.size w Y) (hR : RpsIn Y (.slice Ar R.length cr) R) => format_bul c t cor del (.slice Ar R.length cr) R Y (HE.out.under hY) hR hV (by omega))
  have HPA := Lib.hid (fun j p Y (hY : Below w.heap.size w Y) (hj : j ≤ R.length) (hp : ∀ b ∈ p, b ≠ 10) (hpl : p.length ≤ 1000) => parse_torn c t cor del R j p Y (HE.out.under hY) hV hR6 hj hp hpl)
  have HTO := Lib.hid (fun m (hm : m ≤ (bdy R).length) => torn R m (fun r hr => (hV.hreps r hr).1) hm)
  have HWB := Lib.hid (fun j (p : List UInt8) (hp : ∀ b ∈ p, b ≠ 10) => wo_bdy (R.take j) (0, 0) p (fun r hr => (hV.hreps r (List.mem_of_mem_take hr)).1) hp (fun _ => rfl))
  have htm := hV.htime
  have HHd := Lib.hid (hdT_fr10 hV.hctr hV.htime hV.hcor hV.hdel)
  have hhl := hdT_len hV.hctr hV.htime hV.hcor hV.hdel hV.hone
  have hbl := bdy_len R (fun r hr => (hV.hreps r hr).1)
  have HX := Lib.hid hx
  clear hM hb3 hV s1 hx
  generalize hsc : S c = sc at *
  have HSC := Lib.hid hsc
  clear hsc
  generalize hhh : hdT c t cor del = H at *
  have HHH := Lib.hid hhh
  clear hhh
  go_upto_region 3 with fail
  refine forget (fun V => Hid (RM w b base R (.slice Ar R.length cr) V ∧ Row V w2.heap.size 24 (bulC sc t cor del (.slice Ar R.length cr)))) H3 ?_
  clear H3
  generalize w2.heap.size = g4 at *
  have h4b := h4b'
  intro w3 H3
  obtain ⟨q0, q1, q2, q3, q4⟩ := row5 H3.out.2
  go_wp2_with fail
  refine (HFo.out _ H3.out.1.src.below H3.out.1.ins).mono ?_
  rintro e w4 ⟨rfl, hb⟩
  have H4 := Lib.hid (⟨H3.out.1.under hb, H3.out.2.under hb⟩ : RM w b base R (.slice Ar R.length cr) w4 ∧ Row w4 g4 24 (bulC sc t cor del (.slice Ar R.length cr)))
  clear hb H3 HFo q0 q1 q2 q3 q4
  obtain ⟨TX, hTX⟩ : ∃ TX, H ++ 10 :: bdy R = TX := ⟨_, rfl⟩
  rw [hTX]
  have HTX := Lib.hid hTX
  obtain ⟨hn, hhn⟩ : ∃ hn, H.length = hn := ⟨_, rfl⟩
  obtain ⟨bn, hbn⟩ : ∃ bn, (bdy R).length = bn := ⟨_, rfl⟩
  have HHN := Lib.hid hhn
  have HBN := Lib.hid hbn
  have hTl : (S TX).size = hn + bn + 1 := by rw [S_size, ← hTX, ← hhn, ← hbn]; simp; omega
  have HA : Hid (∀ k (h : k < (S TX).size), TX[k]? = some ((S TX)[k]'h)) := Lib.hid (fun k h => by
    have h' : k < TX.length := by rw [S_size] at h; exact h
    rw [List.getElem?_eq_getElem h']
    rfl)
  have HA1 : Hid (∀ k, k < hn → ∃ u : UInt8, TX[k]? = some u ∧ u ≠ 10) := Lib.hid (fun k hk => by
    have hk' : k < H.length := by omega
    refine ⟨H[k], ?_, HHd.out _ (List.getElem_mem hk')⟩
    rw [← hTX, List.getElem?_append_left hk', List.getElem?_eq_getElem hk'])
  have HA2 : Hid (TX[hn]? = some 10) := Lib.hid (by rw [← hTX, ← hhn, List.getElem?_append_right (Nat.le_refl _)]; simp)
  have HA3 : Hid (∀ k, TX[hn + 1 + k]? = (bdy R)[k]?) := Lib.hid (fun k => by rw [← hTX, ← hhn, List.getElem?_append_right (by omega), show H.length + 1 + k - H.length = k + 1 by omega, List.getElem?_cons_succ])
  have HST := Lib.hid (show ∀ m, m ≤ bn → (S TX).extract 0 (hn + 1 + m) = S (H ++ 10 :: (bdy R).take m) from fun m hm => by
    rw [S_extract, List.drop_zero, ← hTX, ← hhn, List.take_append, List.take_of_length_le (by omega), show H.length + 1 + m - H.length = m + 1 by omega, List.take_succ_cons])
  rw [hhn] at hhl
  rw [hbn] at hbl
  clear hTX hhn hbn
  generalize S TX = tx at *
  go_upto_region 7 with fail
  go_loopw [9] (fun u Y => ∃ k : Nat, k ≤ hn ∧ u = .int .i64 k ∧ Y = w4) (fun u _ => hn - (intOf u).toNat)
  case atStart => exact ⟨0, Nat.zero_le _, rfl, rfl⟩
  case round =>
    obtain ⟨k, hk, rfl, rfl⟩ := hrel
    have k0 : (0 : Int) ≤ (k : Int) := by omega
    have hkn : (k : Int) < (tx.size : Int) := by omega
    have k1 : k < tx.size := by omega
    by_cases hlt : k < hn
    · have hne : ((tx[k].toNat : Int) != 10) = true := by
        obtain ⟨u, hu, hu2⟩ := HA1.out k hlt
        rw [HA.out k k1] at hu
        injection hu with hu
        rw [hu, bne_iff_ne]
        intro e
        exact hu2 (UInt8.toNat_inj.1 (by rw [show (10 : UInt8).toNat = 10 from rfl]; omega))
      go_wp2_with fail
      go_roundw
      case rel => exact ⟨k + 1, by omega, by go_num, trivial⟩
      case measure => simp [intOf]; omega
    · obtain rfl : k = hn := by omega
      have hne : ((tx[k].toNat : Int) != 10) = false := by
        have hu := HA2.out
        rw [HA.out k k1] at hu
        injection hu with hu
        rw [hu]; rfl
      go_wp2_with fail
      refine (mod_any x _ _ HX.out (by omega) (by omega)).mono ?_
      rintro e w5 ⟨rfl, e5⟩
      have z1 : 0 ≤ x % ((k : Int) + (bn : Int) + 1 - (k : Int)) := Int.emod_nonneg x (by omega)
      have z2 : x % ((k : Int) + (bn : Int) + 1 - (k : Int)) < (k : Int) + (bn : Int) + 1 - (k : Int) := Int.emod_lt_of_pos x (by omega)
      obtain ⟨m, hm⟩ : ∃ m : Nat, x % ((k : Int) + (bn : Int) + 1 - (k : Int)) = (m : Int) := ⟨(x % ((k : Int) + (bn : Int) + 1 - (k : Int))).toNat, by omega⟩
      rw [hm] at z1 z2 ⊢
      have hmb : m ≤ bn := by omega
      have HM := Lib.hid hm
      clear hm z1 z2
      subst e5
      go_upto_region 14 with fail
      go_loopw [11, 12, 13] (fun a o i Y => ∃ q r ac oc : Nat, (q ≤ m ∧ r ≤ k + 1 + q ∧ k + 1 + q ≤ r) ∧ Hid (wo ((bdy R).take q) = (ac, oc)) ∧ a = .int .i64 (ac : Int) ∧ o = .int .i64 (oc : Int) ∧ i = .int .i64 (r : Int) ∧ Y = wr) (fun _ _ i _ => m - ((intOf i).toNat - (k + 1)))
      case atStart => exact ⟨0, k + 1, 0, 0, ⟨Nat.zero_le _, by omega, by omega⟩, Lib.hid rfl, rfl, rfl, by simp, rfl⟩
      case round =>
        obtain ⟨q, r, ac, oc, ⟨hq, r1, r2⟩, hwo, rfl, rfl, rfl, rfl⟩ := hrel
        obtain ⟨s1, s2⟩ : ac ≤ q ∧ oc ≤ q := by
          obtain ⟨s1, s2⟩ := wo_le ((bdy R).take q) (0, 0)
          have s0 : ((bdy R).take q).length ≤ q := by rw [List.length_take]; omega
          have e : List.foldl wstep (0, 0) ((bdy R).take q) = (ac, oc) := hwo.out
          rw [e] at s1 s2
          simp only at s1 s2
          omega
        have HBL : Hid ((bdy R).length = bn) := HBN
        by_cases hlt : q < m
        · have i0 : (0 : Int) ≤ (r : Int) := by omega
          have i1 : (r : Int) < (tx.size : Int) := by omega
          have i2 : (r : Int) < (k : Int) + 1 + (m : Int) := by omega
          have i3 : r < tx.size := by omega
          have hstep : Hid (wo ((bdy R).take (q + 1)) = wstep (ac, oc) tx[r]) := by
            refine Lib.hid ?_
            have h1 := HA.out r i3
            obtain rfl : r = k + 1 + q := by omega
            rw [HA3.out q] at h1
            rw [List.take_add_one, h1]
            rw [← hwo.out]
            exact wo_more _ _
          by_cases hb : tx[r] = 10
          · have hne : ((tx[r].toNat : Int) == 10) = true := by rw [hb]; rfl
            have hst2 : Hid (wo ((bdy R).take (q + 1)) = (ac + 1, 0)) := Lib.hid (by rw [hstep.out]; unfold wstep; rw [if_pos hb])
            clear hstep hb
            go_wp2_with fail
            go_roundw
            case rel => exact ⟨q + 1, r + 1, ac + 1, 0, ⟨by omega, by omega, by omega⟩, hst2, by go_num, by go_num, by go_num, trivial⟩
            case measure => simp [intOf]; omega
          · have hne : ((tx[r].toNat : Int) == 10) = false := by
              rw [beq_eq_false_iff_ne]
              intro e
              exact hb (UInt8.toNat_inj.1 (by rw [show (10 : UInt8).toNat = 10 from rfl]; omega))
            have hst2 : Hid (wo ((bdy R).take (q + 1)) = (ac, oc + 1)) := Lib.hid (by rw [hstep.out]; unfold wstep; rw [if_neg hb])
            clear hstep hb
            go_wp2_with fail
            go_roundw
            case rel => exact ⟨q + 1, r + 1, ac, oc + 1, ⟨by omega, by omega, by omega⟩, hst2, by go_num, by go_num, by go_num, trivial⟩
            case measure => simp [intOf]; omega
        · obtain rfl : q = m := by omega
          obtain rfl : r = k + 1 + q := by omega
          have i2 : ¬ (((k + 1 + q : Nat) : Int)) < (k : Int) + 1 + (q : Int) := by omega
          obtain ⟨j, hj, p, hp0, hp1, hp2⟩ := HTO.out q (by rw [HBN.out]; exact hmb)
          have hab : ac = j ∧ oc = p.length := by
            have e : List.foldl wstep (0, 0) ((bdy R).take q) = (ac, oc) := hwo.out
            rw [hp0, HWB.out j p hp1] at e
            have hjl : (R.take j).length = j := by rw [List.length_take]; omega
            rw [hjl] at e
            injection e with e1 e2
            omega
          have HPB := Lib.hid (fun Y (hY : Below w.heap.size w Y) => HPA.out j p Y hY hj hp1 (by omega))
          have hTH := HST.out q hmb
          rw [hp0] at hTH
          rw [← hTH] at HPB
          obtain ⟨rfl, rfl⟩ := hab
          have HP0 : Hid (p.length = 0 ↔ p = []) := Lib.hid List.length_eq_zero_iff
          generalize hbd : (if p = [] then [] else [((ac : Int) + 1)]) = bd at *
          have HBD := Lib.hid hbd
          clear hbd hTH hp0 hp1 HPA HTO HWB hwo
          clear HA HA1 HA2 HA3 HST HHN HHH HHd HTX HM HBN HBL
          go_upto_region 19 with fail
          go_cut [14, 15, 16] from 69 to 78 (fun pp d e X => ∃ (R' : List Rp) (A : Option Addr) (ca : Nat) (B : Option Addr) (dd : Nat) (ga : Nat), pp = .pointer (some ⟨ga, 0, none⟩) ∧ d = .slice B bd.length dd ∧ e = .int .i64 0 ∧ Hid (R'.map Rp.key = (R.take ac).map Rp.key ∧ RM w b base R (.slice Ar R.length cr) X ∧ Row X g4 24 (bulC sc t cor del (.slice Ar R.length cr)) ∧ Row X ga 24 (bulC sc t cor del (.slice A R'.length ca)) ∧ RpsIn X (.slice A R'.length ca) R' ∧ NumsIn X (.slice B bd.length dd) bd))
          case first =>
            have J0 : Hid (RM w b base R (.slice Ar R.length cr) wr.drew ∧ Row wr.drew g4 24 (bulC sc t cor del (.slice Ar R.length cr))) := Lib.hid ⟨H4.out.1.under (below_drewN (Below.refl _ _) 1), H4.out.2.under (below_drewN (Below.refl _ _) 1)⟩
            refine wp_region_held_drew (S := fun Y : World => Y.cell? ⟨g4, 1, none⟩ = some (.int .i64 t)) (by kernel_rfl) ((J0.out.2.cell 1).trans rfl) (fun hS => ?_)
            clear H4
            generalize wr.drew = X at *
            have i3 : (k : Int) + 1 + (q : Int) ≤ (k : Int) + (bn : Int) + 1 := by omega
            have i5 : ((k : Int) + 1 + (q : Int)).toNat = k + 1 + q := by omega
            have i4 : (0 : Int) ≤ (k : Int) + 1 + (q : Int) := by omega
            refine wpAnyH_take (i := 0) (oi := ⟨some 70, _, _, _, _, none⟩) (v := ?_) rfl (by kernel_rfl) (by kernel_rfl) (by kernel_rfl) (fun _ _ _ h => h) (Or.inl ⟨by rfl, ?_⟩) (by assumption) ?_
            case refine_2 => (intro wx hSx; (try dsimp only at hSx); go_simp; first | done | with_reducible rfl)
            try simp only [Act.put, List.setIfInBounds_toArray, List.set_cons_zero, List.set_cons_succ]
            refine wpAnyH_take (i := 1) (oi := ⟨some 71, _, _, _, _, none⟩) (v := ?_) rfl (by kernel_rfl) (by kernel_rfl) (by kernel_rfl) (fun _ _ _ h => h) (Or.inl ⟨by rfl, ?_⟩) (by assumption) ?_
            case refine_2 => (intro wx hSx; (try dsimp only at hSx); go_simp; first | done | with_reducible rfl)
            try simp only [Act.put, List.setIfInBounds_toArray, List.set_cons_zero, List.set_cons_succ]
            refine wpAnyH_take (i := 2) (oi := ⟨some 72, _, _, _, _, none⟩) (v := ?_) rfl (by kernel_rfl) (by kernel_rfl) (by kernel_rfl) (fun _ _ _ h => h) (Or.inl ⟨by rfl, ?_⟩) (by assumption) ?_
            case refine_2 => (intro wx hSx; (try dsimp only at hSx); go_simp; first | done | with_reducible rfl)
            try simp only [Act.put, List.setIfInBounds_toArray, List.set_cons_zero, List.set_cons_succ]
            refine wpAnyH_take (i := 3) (oi := ⟨some 73, _, _, _, _, none⟩) (v := ?_) rfl (by kernel_rfl) (by kernel_rfl) (by kernel_rfl) (fun _ _ _ h => h) (Or.inl ⟨by rfl, ?_⟩) (by assumption) ?_
            case refine_2 => (intro wx hSx; (try dsimp only at hSx); go_simp; first | done | with_reducible rfl)
            try simp only [Act.put, List.setIfInBounds_toArray, List.set_cons_zero, List.set_cons_succ]
            refine wpAnyH_take (i := 4) (oi := ⟨some 74, _, _, _, _, none⟩) (v := ?_) rfl (by kernel_rfl) (by kernel_rfl) (by kernel_rfl) (fun _ _ _ h => h) (Or.inl ⟨by rfl, ?_⟩) (by assumption) ?_
            case refine_2 => (intro wx hSx; (try dsimp only at hSx); go_simp; first | done | with_reducible rfl)
            try simp only [Act.put, List.setIfInBounds_toArray, List.set_cons_zero, List.set_cons_succ]
            refine wpAnyH_ready (rs := [5, 10]) (by kernel_rfl) (by simp) ?_
            refine AllReadyH.cons (o := ⟨some 75, _, _, _, _, none⟩) rfl (fun K hK => ?_) (AllReadyH.cons (o := ⟨some 14, _, _, _, _, none⟩) rfl (fun K hK => ?_) AllReadyH.nil)
            · go_simp
              refine (HPB.out X J0.out.1.src.below).mono ?_
              rintro e X1 ⟨R', A, ca, B, dd, hk, rfl, hU, hb⟩
              have J1 : Hid (RM w b base R (.slice Ar R.length cr) X1 ∧ Row X1 g4 24 (bulC sc t cor del (.slice Ar R.length cr))) := Lib.hid ⟨J0.out.1.under hb, J0.out.2.under hb⟩
              have HU : Hid (R'.map Rp.key = (R.take ac).map Rp.key ∧ (∀ Y, Up X.heap.size X1 Y → RpsIn Y (.slice A R'.length ca) R' ∧ NumsIn Y (.slice B bd.length dd) bd)) := Lib.hid ⟨hk, hU⟩
              clear hb hk hU J0 hS HPB
              go_wp2_with fail
              refine hK.out _ _ ((J1.out.2.cell 1).trans rfl) (fun _ => ?_)
              clear hK K
              try simp only [Act.put, List.setIfInBounds_toArray, List.set_cons_zero, List.set_cons_succ]
              have hS : X1.cell? ⟨g4, 1, none⟩ = some (.int .i64 t) := (J1.out.2.cell 1).trans rfl
              refine wpAnyH_take (i := 6) (oi := ⟨some 69, _, _, _, _, none⟩) (v := ?_) rfl (by kernel_rfl) (by kernel_rfl) (by kernel_rfl) (fun _ _ _ h => h) (Or.inl ⟨by rfl, ?_⟩) (by assumption) ?_
              case refine_2 => (intro wx hSx; (try dsimp only at hSx); go_simp; first | done | with_reducible rfl)
              try simp only [Act.put, List.setIfInBounds_toArray, List.set_cons_zero, List.set_cons_succ]
              refine wpAnyH_take (i := 7) (oi := ⟨some 76, _, _, _, _, none⟩) (v := ?_) rfl (by kernel_rfl) (by kernel_rfl) (by kernel_rfl) (fun _ _ _ h => h) (Or.inl ⟨by rfl, ?_⟩) (by assumption) ?_
              case refine_2 => (intro wx hSx; (try dsimp only at hSx); go_simp; first | done | with_reducible rfl)
              try simp only [Act.put, List.setIfInBounds_toArray, List.set_cons_zero, List.set_cons_succ]
              refine wpAnyH_take (i := 8) (oi := ⟨some 77, _, _, _, _, none⟩) (v := ?_) rfl (by kernel_rfl) (by kernel_rfl) (by kernel_rfl) (fun _ _ _ h => h) (Or.inl ⟨by rfl, ?_⟩) (by assumption) ?_
              case refine_2 => (intro wx hSx; (try dsimp only at hSx); go_simp; first | done | with_reducible rfl)
              try simp only [Act.put, List.setIfInBounds_toArray, List.set_cons_zero, List.set_cons_succ]
              refine wpAnyH_take (i := 9) (oi := ⟨some 78, _, _, _, _, none⟩) (v := ?_) rfl (by kernel_rfl) (by kernel_rfl) (by kernel_rfl) (fun _ _ _ h => h) (Or.inl ⟨by rfl, ?_⟩) (by assumption) ?_
              case refine_2 => (intro wx hSx; (try dsimp only at hSx); go_simp; first | done | with_reducible rfl)
              try simp only [Act.put, List.setIfInBounds_toArray, List.set_cons_zero, List.set_cons_succ]
              refine wpAnyH_ready (rs := [10]) (by kernel_rfl) (by simp) ?_
              refine AllReadyH.cons (o := ⟨some 14, _, _, _, _, none⟩) rfl (fun K hK => ?_) AllReadyH.nil
              have hb7 : Below X1.heap.size X1 (X1.alloc (.cells (bulC ⟨#[]⟩ 0 0 0 (.slice none 0 0)) 24)) := (Below.refl _ _).alloc (Nat.le_refl _) _
              have K3 := Lib.hid (⟨⟨J1.out.1.under hb7, J1.out.2.under hb7⟩, Row.new X1 (bulC ⟨#[]⟩ 0 0 0 (.slice none 0 0)) 24, (Up.refl X.heap.size X1).under hb7, ⟨Nat.ne_of_gt (src_lt J1.out.1.src), Nat.ne_of_gt J1.out.2.lt, J1.out.1.src.below.size, .inr (Nat.le_refl _)⟩⟩ : (RM w b base R (.slice Ar R.length cr) (X1.alloc (.cells (bulC ⟨#[]⟩ 0 0 0 (.slice none 0 0)) 24)) ∧ Row (X1.alloc (.cells (bulC ⟨#[]⟩ 0 0 0 (.slice none 0 0)) 24)) g4 24 (bulC sc t cor del (.slice Ar R.length cr))) ∧ Row (X1.alloc (.cells (bulC ⟨#[]⟩ 0 0 0 (.slice none 0 0)) 24)) X1.heap.size 24 (bulC ⟨#[]⟩ 0 0 0 (.slice none 0 0)) ∧ Up X.heap.size X1 (X1.alloc (.cells (bulC ⟨#[]⟩ 0 0 0 (.slice none 0 0)) 24)) ∧ (X1.heap.size ≠ b ∧ X1.heap.size ≠ g4 ∧ w.heap.size ≤ X1.heap.size ∧ Aside X.heap.size X1 X1.heap.size))
              clear hb7
              go_simp
              refine hK.out _ _ ((K3.out.1.2.cell 1).trans rfl) (fun _ => ?_)
              clear hK K J1 hS
              try simp only [Act.put, List.setIfInBounds_toArray, List.set_cons_zero, List.set_cons_succ]
              generalize X1.heap.size = ga at *
              refine El.genH (fun X2 => (RM w b base R (.slice Ar R.length cr) X2 ∧ Row X2 g4 24 (bulC sc t cor del (.slice Ar R.length cr))) ∧ Row X2 ga 24 (bulC ⟨#[]⟩ 0 0 0 (.slice none 0 0)) ∧ Up X.heap.size X1 X2 ∧ (ga ≠ b ∧ ga ≠ g4 ∧ w.heap.size ≤ ga ∧ Aside X.heap.size X1 ga)) K3.out ?_
              clear K3
              rintro X3 K3
              have K3 := Lib.hid K3

              have hS : X3.cell? ⟨g4, 1, none⟩ = some (.int .i64 t) := (K3.out.1.2.cell 1).trans rfl
              refine wpAnyH_ready (rs := [11]) (by kernel_rfl) (by simp) ?_
              refine AllReadyH.cons (o := ⟨none, _, _, _, _, none⟩) rfl (fun K hK => ?_) AllReadyH.nil
              have f0 := K3.out.2.1.thaw 0
              have f1 := K3.out.2.1.thaw 1
              have f2 := K3.out.2.1.thaw 2
              have f3 := K3.out.2.1.thaw 3
              have f4 := K3.out.2.1.thaw 4
              obtain ⟨q0, q1, q2, q3, q4⟩ := row5 K3.out.2.1
              have L3 := Lib.hid (tn_store K3.out (.string sc) (.int .i64 t) (.int .i64 cor) (.int .i64 del) (.slice A R'.length ca))
              go_simp
              refine hK.out _ _ ((L3.out.1.2.cell 1).trans rfl) (fun _ => ?_)
              clear hK K
              try simp only [Act.put, List.setIfInBounds_toArray, List.set_cons_zero, List.set_cons_succ]
              clear f0 f1 f2 f3 f4 q0 q1 q2 q3 q4 K3 hS
              refine El.genH (fun X => R'.map Rp.key = (R.take ac).map Rp.key ∧ RM w b base R (.slice Ar R.length cr) X ∧ Row X g4 24 (bulC sc t cor del (.slice Ar R.length cr)) ∧ Row X ga 24 (bulC sc t cor del (.slice A R'.length ca)) ∧ RpsIn X (.slice A R'.length ca) R' ∧ NumsIn X (.slice B bd.length dd) bd) ⟨HU.out.1, L3.out.1.1, L3.out.1.2, L3.out.2.1, (HU.out.2 _ L3.out.2.2).1, (HU.out.2 _ L3.out.2.2).2⟩ ?_
              clear L3 HU
              rintro X4 HF
              have HF := Lib.hid HF
              have hS : X4.cell? ⟨g4, 1, none⟩ = some (.int .i64 t) := (HF.out.2.2.1.cell 1).trans rfl
              refine wpAnyH_take (i := 12) (oi := ⟨some 15, _, _, _, _, none⟩) (v := ?_) rfl (by kernel_rfl) (by kernel_rfl) (by kernel_rfl) (fun _ _ _ h => h) (Or.inl ⟨by rfl, ?_⟩) (by assumption) ?_
              case refine_2 => (intro wx hSx; (try dsimp only at hSx); go_simp; first | done | with_reducible rfl)
              try simp only [Act.put, List.setIfInBounds_toArray, List.set_cons_zero, List.set_cons_succ]
              refine wpAnyH_take (i := 13) (oi := ⟨some 16, _, _, _, _, none⟩) (v := ?_) rfl (by kernel_rfl) (by kernel_rfl) (by kernel_rfl) (fun _ _ _ h => h) (Or.inl ⟨by rfl, ?_⟩) (by assumption) ?_
              case refine_2 => (intro wx hSx; (try dsimp only at hSx); go_simp; first | done | with_reducible rfl)
              try simp only [Act.put, List.setIfInBounds_toArray, List.set_cons_zero, List.set_cons_succ]
              refine wpAnyH_done (by kernel_rfl) ?_ _
              clear hS
              go_wp2_with fail
              go_meet
              exact ⟨R', A, ca, B, dd, ga, rfl, rfl, rfl, HF⟩
            · have hb7 : Below X.heap.size X (X.alloc (.cells (bulC ⟨#[]⟩ 0 0 0 (.slice none 0 0)) 24)) := (Below.refl _ _).alloc (Nat.le_refl _) _
              have K2 := Lib.hid (⟨⟨J0.out.1.under hb7, J0.out.2.under hb7⟩, Row.new X (bulC ⟨#[]⟩ 0 0 0 (.slice none 0 0)) 24, ⟨Nat.ne_of_gt (src_lt J0.out.1.src), Nat.ne_of_gt J0.out.2.lt, J0.out.1.src.below.size⟩⟩ : (RM w b base R (.slice Ar R.length cr) (X.alloc (.cells (bulC ⟨#[]⟩ 0 0 0 (.slice none 0 0)) 24)) ∧ Row (X.alloc (.cells (bulC ⟨#[]⟩ 0 0 0 (.slice none 0 0)) 24)) g4 24 (bulC sc t cor del (.slice Ar R.length cr))) ∧ Row (X.alloc (.cells (bulC ⟨#[]⟩ 0 0 0 (.slice none 0 0)) 24)) X.heap.size 24 (bulC ⟨#[]⟩ 0 0 0 (.slice none 0 0)) ∧ (X.heap.size ≠ b ∧ X.heap.size ≠ g4 ∧ w.heap.size ≤ X.heap.size))
              clear hb7
              go_simp
              refine hK.out _ _ ((K2.out.1.2.cell 1).trans rfl) (fun _ => ?_)
              clear hK K J0 hS
              try simp only [Act.put, List.setIfInBounds_toArray, List.set_cons_zero, List.set_cons_succ]
              generalize X.heap.size = ga at *
              refine El.genH (fun X2 => (RM w b base R (.slice Ar R.length cr) X2 ∧ Row X2 g4 24 (bulC sc t cor del (.slice Ar R.length cr))) ∧ Row X2 ga 24 (bulC ⟨#[]⟩ 0 0 0 (.slice none 0 0)) ∧ (ga ≠ b ∧ ga ≠ g4 ∧ w.heap.size ≤ ga)) K2.out ?_
              clear K2
              rintro X2 K2
              have K2 := Lib.hid K2
              refine wpAnyH_ready (rs := [5]) (by kernel_rfl) (by simp) ?_
              refine AllReadyH.cons (o := ⟨some 75, _, _, _, _, none⟩) rfl (fun K hK => ?_) AllReadyH.nil
              go_simp
              refine (HPB.out X2 K2.out.1.1.src.below).mono ?_
              rintro e X1 ⟨R', A, ca, B, dd, hk, rfl, hU, hb⟩
              have K3 : Hid ((RM w b base R (.slice Ar R.length cr) X1 ∧ Row X1 g4 24 (bulC sc t cor del (.slice Ar R.length cr))) ∧ Row X1 ga 24 (bulC ⟨#[]⟩ 0 0 0 (.slice none 0 0)) ∧ Up X2.heap.size X1 X1 ∧ (ga ≠ b ∧ ga ≠ g4 ∧ w.heap.size ≤ ga ∧ Aside X2.heap.size X1 ga)) := Lib.hid ⟨⟨K2.out.1.1.under hb, K2.out.1.2.under hb⟩, K2.out.2.1.under hb, Up.refl _ _, K2.out.2.2.1, K2.out.2.2.2.1, K2.out.2.2.2.2, .inl K2.out.2.1.lt⟩
              have HU : Hid (R'.map Rp.key = (R.take ac).map Rp.key ∧ (∀ Y, Up X2.heap.size X1 Y → RpsIn Y (.slice A R'.length ca) R' ∧ NumsIn Y (.slice B bd.length dd) bd)) := Lib.hid ⟨hk, hU⟩
              clear hb hk hU HPB
              go_wp2_with fail
              refine hK.out _ _ ((K3.out.1.2.cell 1).trans rfl) (fun _ => ?_)
              clear hK K K2
              try simp only [Act.put, List.setIfInBounds_toArray, List.set_cons_zero, List.set_cons_succ]
              refine El.genH (fun X3 => (RM w b base R (.slice Ar R.length cr) X3 ∧ Row X3 g4 24 (bulC sc t cor del (.slice Ar R.length cr))) ∧ Row X3 ga 24 (bulC ⟨#[]⟩ 0 0 0 (.slice none 0 0)) ∧ Up X2.heap.size X1 X3 ∧ (ga ≠ b ∧ ga ≠ g4 ∧ w.heap.size ≤ ga ∧ Aside X2.heap.size X1 ga)) K3.out ?_
              clear K3
              rintro X3 K3
              have K3 := Lib.hid K3
              have hS : X3.cell? ⟨g4, 1, none⟩ = some (.int .i64 t) := (K3.out.1.2.cell 1).trans rfl
              refine wpAnyH_take (i := 6) (oi := ⟨some 69, _, _, _, _, none⟩) (v := ?_) rfl (by kernel_rfl) (by kernel_rfl) (by kernel_rfl) (fun _ _ _ h => h) (Or.inl ⟨by rfl, ?_⟩) (by assumption) ?_
              case refine_2 => (intro wx hSx; (try dsimp only at hSx); go_simp; first | done | with_reducible rfl)
              try simp only [Act.put, List.setIfInBounds_toArray, List.set_cons_zero, List.set_cons_succ]
              refine wpAnyH_take (i := 7) (oi := ⟨some 76, _, _, _, _, none⟩) (v := ?_) rfl (by kernel_rfl) (by kernel_rfl) (by kernel_rfl) (fun _ _ _ h => h) (Or.inl ⟨by rfl, ?_⟩) (by assumption) ?_
              case refine_2 => (intro wx hSx; (try dsimp only at hSx); go_simp; first | done | with_reducible rfl)
              try simp only [Act.put, List.setIfInBounds_toArray, List.set_cons_zero, List.set_cons_succ]
              refine wpAnyH_take (i := 8) (oi := ⟨some 77, _, _, _, _, none⟩) (v := ?_) rfl (by kernel_rfl) (by kernel_rfl) (by kernel_rfl) (fun _ _ _ h => h) (Or.inl ⟨by rfl, ?_⟩) (by assumption) ?_
              case refine_2 => (intro wx hSx; (try dsimp only at hSx); go_simp; first | done | with_reducible rfl)
              try simp only [Act.put, List.setIfInBounds_toArray, List.set_cons_zero, List.set_cons_succ]
              refine wpAnyH_take (i := 9) (oi := ⟨some 78, _, _, _, _, none⟩) (v := ?_) rfl (by kernel_rfl) (by kernel_rfl) (by kernel_rfl) (fun _ _ _ h => h) (Or.inl ⟨by rfl, ?_⟩) (by assumption) ?_
              case refine_2 => (intro wx hSx; (try dsimp only at hSx); go_simp; first | done | with_reducible rfl)
              try simp only [Act.put, List.setIfInBounds_toArray, List.set_cons_zero, List.set_cons_succ]
              clear hS

              have hS : X3.cell? ⟨g4, 1, none⟩ = some (.int .i64 t) := (K3.out.1.2.cell 1).trans rfl
              refine wpAnyH_ready (rs := [11]) (by kernel_rfl) (by simp) ?_
              refine AllReadyH.cons (o := ⟨none, _, _, _, _, none⟩) rfl (fun K hK => ?_) AllReadyH.nil
              have f0 := K3.out.2.1.thaw 0
              have f1 := K3.out.2.1.thaw 1
              have f2 := K3.out.2.1.thaw 2
              have f3 := K3.out.2.1.thaw 3
              have f4 := K3.out.2.1.thaw 4
              obtain ⟨q0, q1, q2, q3, q4⟩ := row5 K3.out.2.1
              have L3 := Lib.hid (tn_store K3.out (.string sc) (.int .i64 t) (.int .i64 cor) (.int .i64 del) (.slice A R'.length ca))
              go_simp
              refine hK.out _ _ ((L3.out.1.2.cell 1).trans rfl) (fun _ => ?_)
              clear hK K
              try simp only [Act.put, List.setIfInBounds_toArray, List.set_cons_zero, List.set_cons_succ]
              clear f0 f1 f2 f3 f4 q0 q1 q2 q3 q4 K3 hS
              refine El.genH (fun X => R'.map Rp.key = (R.take ac).map Rp.key ∧ RM w b base R (.slice Ar R.length cr) X ∧ Row X g4 24 (bulC sc t cor del (.slice Ar R.length cr)) ∧ Row X ga 24 (bulC sc t cor del (.slice A R'.length ca)) ∧ RpsIn X (.slice A R'.length ca) R' ∧ NumsIn X (.slice B bd.length dd) bd) ⟨HU.out.1, L3.out.1.1, L3.out.1.2, L3.out.2.1, (HU.out.2 _ L3.out.2.2).1, (HU.out.2 _ L3.out.2.2).2⟩ ?_
              clear L3 HU
              rintro X4 HF
              have HF := Lib.hid HF
              have hS : X4.cell? ⟨g4, 1, none⟩ = some (.int .i64 t) := (HF.out.2.2.1.cell 1).trans rfl
              refine wpAnyH_take (i := 12) (oi := ⟨some 15, _, _, _, _, none⟩) (v := ?_) rfl (by kernel_rfl) (by kernel_rfl) (by kernel_rfl) (fun _ _ _ h => h) (Or.inl ⟨by rfl, ?_⟩) (by assumption) ?_
              case refine_2 => (intro wx hSx; (try dsimp only at hSx); go_simp; first | done | with_reducible rfl)
              try simp only [Act.put, List.setIfInBounds_toArray, List.set_cons_zero, List.set_cons_succ]
              refine wpAnyH_take (i := 13) (oi := ⟨some 16, _, _, _, _, none⟩) (v := ?_) rfl (by kernel_rfl) (by kernel_rfl) (by kernel_rfl) (fun _ _ _ h => h) (Or.inl ⟨by rfl, ?_⟩) (by assumption) ?_
              case refine_2 => (intro wx hSx; (try dsimp only at hSx); go_simp; first | done | with_reducible rfl)
              try simp only [Act.put, List.setIfInBounds_toArray, List.set_cons_zero, List.set_cons_succ]
              refine wpAnyH_done (by kernel_rfl) ?_ _
              clear hS
              go_wp2_with fail
              go_meet
              exact ⟨R', A, ca, B, dd, ga, rfl, rfl, rfl, HF⟩
          case rest =>
            obtain ⟨R', A, ca, B, dd, ga, rfl, rfl, rfl, HF⟩ := hcut
            clear HPB H4
            obtain ⟨cr1, cr2⟩ : R.length ≤ cr ∧ cr ≤ 9223372036854775807 := by
              obtain ⟨A', cap', e, h1, h2, -⟩ := HF.out.2.1.ins
              injection e with _ _ e
              subst e
              exact ⟨h1, h2⟩
            have j1 : ¬ (R.length : Int) < (ac : Int) := by omega
            have j2 : (ac : Int) ≤ (cr : Int) := by omega
            have j3 : (0 : Int) ≤ (ac : Int) := by omega
            go_upto_region 20 with fail
            have hd : Below wc.heap.size wc wc.drew := below_drewN (Below.refl _ _) 1
            have H20 := Lib.hid (⟨HF.out.2.1.under hd, HF.out.2.2.1.under hd, HF.out.2.2.2.1.under hd, HF.out.2.2.2.2.1.under hd, HF.out.2.2.2.2.2.under hd⟩ : RM w b base R (.slice Ar R.length cr) wc.drew ∧ Row wc.drew g4 24 (bulC sc t cor del (.slice Ar R.length cr)) ∧ Row wc.drew ga 24 (bulC sc t cor del (.slice A R'.length ca)) ∧ RpsIn wc.drew (.slice A R'.length ca) R' ∧ NumsIn wc.drew (.slice B bd.length dd) bd)
            have HK := Lib.hid HF.out.1
            clear hd HF
            refine wp_region_held_drew (S := fun Y : World => Y.cell? ⟨g4, 4, none⟩ = some (.slice Ar R.length cr) ∧ Y.cell? ⟨ga, 4, none⟩ = some (.slice A R'.length ca)) (by kernel_rfl) ⟨(H20.out.2.1.cell 4).trans rfl, (H20.out.2.2.1.cell 4).trans rfl⟩ (fun hS => ?_)
            generalize wc.drew = X at *
            have HSA := Lib.hid (sameAll_yes _ _ R' (R.take ac) X H20.out.2.2.2.1 (H20.out.1.ins.take hj) HK.out)
            refine wpAnyH_take (i := 0) (oi := ⟨some 79, _, _, _, _, none⟩) (v := ?_) rfl (by kernel_rfl) (by kernel_rfl) (by kernel_rfl) (fun _ _ _ h => h) (Or.inl ⟨by rfl, ?_⟩) (by assumption) ?_
            case refine_2 => (intro wx hSx; (try dsimp only at hSx); go_simp; first | done | with_reducible rfl)
            try simp only [Act.put, List.setIfInBounds_toArray, List.set_cons_zero, List.set_cons_succ]
            refine wpAnyH_take (i := 1) (oi := ⟨some 80, _, _, _, _, none⟩) (v := ?_) rfl (by kernel_rfl) (by kernel_rfl) (by kernel_rfl) (fun _ _ _ h => h) (Or.inl ⟨by rfl, ?_⟩) (by assumption) ?_
            case refine_2 => (intro wx hSx; (try dsimp only at hSx); go_simp; first | done | with_reducible rfl)
            try simp only [Act.put, List.setIfInBounds_toArray, List.set_cons_zero, List.set_cons_succ]
            refine wpAnyH_take (i := 2) (oi := ⟨some 81, _, _, _, _, none⟩) (v := ?_) rfl (by kernel_rfl) (by kernel_rfl) (by kernel_rfl) (fun _ _ _ h => h) (Or.inl ⟨by rfl, ?_⟩) (by assumption) ?_
            case refine_2 => (intro wx hSx; (try dsimp only at hSx); go_simp; first | done | with_reducible rfl)
            try simp only [Act.put, List.setIfInBounds_toArray, List.set_cons_zero, List.set_cons_succ]
            refine wpAnyH_take (i := 3) (oi := ⟨some 82, _, _, _, _, some _⟩) (v := ?_) rfl (by kernel_rfl) (by kernel_rfl) (by kernel_rfl) (fun _ _ _ h => h) (Or.inl ⟨by rfl, ?_⟩) (by assumption) ?_
            case refine_2 => (intro wx hSx; (try dsimp only at hSx); go_simp; first | done | with_reducible rfl)
            try simp only [Act.put, List.setIfInBounds_toArray, List.set_cons_zero, List.set_cons_succ]
            refine wpAnyH_take (i := 4) (oi := ⟨some 83, _, _, _, _, some _⟩) (v := ?_) rfl (by kernel_rfl) (by kernel_rfl) (by kernel_rfl) (fun _ _ _ h => h) (Or.inl ⟨by rfl, ?_⟩) (by assumption) ?_
            case refine_2 => (intro wx hSx; (try dsimp only at hSx); go_simp; first | done | with_reducible rfl)
            try simp only [Act.put, List.setIfInBounds_toArray, List.set_cons_zero, List.set_cons_succ]
            refine wpAnyH_take (i := 5) (oi := ⟨some 84, _, _, _, _, some _⟩) (v := ?_) rfl (by kernel_rfl) (by kernel_rfl) (by kernel_rfl) (fun _ _ _ h => h) (Or.inl ⟨by rfl, ?_⟩) (by assumption) ?_
            case refine_2 => (intro wx hSx; (try dsimp only at hSx); go_simp; first | done | with_reducible rfl)
            try simp only [Act.put, List.setIfInBounds_toArray, List.set_cons_zero, List.set_cons_succ]
            refine wpAnyH_take (i := 6) (oi := ⟨some 85, _, _, _, _, some _⟩) (v := ?_) rfl (by kernel_rfl) (by kernel_rfl) (by kernel_rfl) (fun _ _ _ h => h) (Or.inl ⟨by rfl, ?_⟩) (by assumption) ?_
            case refine_2 => (intro wx hSx; (try dsimp only at hSx); go_simp; first | done | with_reducible rfl)
            try simp only [Act.put, List.setIfInBounds_toArray, List.set_cons_zero, List.set_cons_succ]
            refine wpAnyH_take (i := 7) (oi := ⟨some 86, _, _, _, _, some _⟩) (v := ?_) rfl (by kernel_rfl) (by kernel_rfl) (by kernel_rfl) (fun _ _ _ h => h) (Or.inl ⟨by rfl, ?_⟩) (by assumption) ?_
            case refine_2 => (intro wx hSx; (try dsimp only at hSx); go_simp; first | done | with_reducible rfl)
            try simp only [Act.put, List.setIfInBounds_toArray, List.set_cons_zero, List.set_cons_succ]
            refine wpAnyH_take (i := 8) (oi := ⟨some 87, _, _, _, _, none⟩) (v := ?_) rfl (by kernel_rfl) (by kernel_rfl) (by kernel_rfl) (fun _ _ _ h => h) (Or.inl ⟨by rfl, ?_⟩) (by assumption) ?_
            case refine_2 => (intro wx hSx; (try dsimp only at hSx); go_simp; first | done | with_reducible rfl)
            try simp only [Act.put, List.setIfInBounds_toArray, List.set_cons_zero, List.set_cons_succ]
            refine wpAnyH_take (i := 9) (oi := ⟨some 88, _, _, _, _, none⟩) (v := ?_) rfl (by kernel_rfl) (by kernel_rfl) (by kernel_rfl) (fun _ _ _ h => h) (Or.inl ⟨by rfl, ?_⟩) (by assumption) ?_
            case refine_2 => (intro wx hSx; (try dsimp only at hSx); go_simp; first | done | with_reducible rfl)
            try simp only [Act.put, List.setIfInBounds_toArray, List.set_cons_zero, List.set_cons_succ]
            refine wpAnyH_take (i := 10) (oi := ⟨some 89, _, _, _, _, some _⟩) (v := ?_) rfl (by kernel_rfl) (by kernel_rfl) (by kernel_rfl) (fun _ _ _ h => h) (Or.inl ⟨by rfl, ?_⟩) (by assumption) ?_
            case refine_2 => (intro wx hSx; (try dsimp only at hSx); go_simp; first | done | with_reducible rfl)
            try simp only [Act.put, List.setIfInBounds_toArray, List.set_cons_zero, List.set_cons_succ]
            refine wpAnyH_take (i := 11) (oi := ⟨some 90, _, _, _, _, some _⟩) (v := ?_) rfl (by kernel_rfl) (by kernel_rfl) (by kernel_rfl) (fun _ _ _ h => h) (Or.inl ⟨by rfl, ?_⟩) (by assumption) ?_
            case refine_2 => (intro wx hSx; (try dsimp only at hSx); go_simp; first | done | with_reducible rfl)
            try simp only [Act.put, List.setIfInBounds_toArray, List.set_cons_zero, List.set_cons_succ]
            refine wpAnyH_take (i := 12) (oi := ⟨some 91, _, _, _, _, some _⟩) (v := ?_) rfl (by kernel_rfl) (by kernel_rfl) (by kernel_rfl) (fun _ _ _ h => h) (Or.inl ⟨by rfl, ?_⟩) (by assumption) ?_
            case refine_2 => (intro wx hSx; (try dsimp only at hSx); go_simp; first | done | with_reducible rfl)
            try simp only [Act.put, List.setIfInBounds_toArray, List.set_cons_zero, List.set_cons_succ]
            refine wpAnyH_take (i := 13) (oi := ⟨some 92, _, _, _, _, some _⟩) (v := ?_) rfl (by kernel_rfl) (by kernel_rfl) (by kernel_rfl) (fun _ _ _ h => h) (Or.inl ⟨by rfl, ?_⟩) (by assumption) ?_
            case refine_2 => (intro wx hSx; (try dsimp only at hSx); go_simp; first | done | with_reducible rfl)
            try simp only [Act.put, List.setIfInBounds_toArray, List.set_cons_zero, List.set_cons_succ]
            refine wpAnyH_take (i := 14) (oi := ⟨some 93, _, _, _, _, some _⟩) (v := ?_) rfl (by kernel_rfl) (by kernel_rfl) (by kernel_rfl) (fun _ _ _ h => h) (Or.inl ⟨by rfl, ?_⟩) (by assumption) ?_
            case refine_2 => (intro wx hSx; (try dsimp only at hSx); go_simp; first | done | with_reducible rfl)
            try simp only [Act.put, List.setIfInBounds_toArray, List.set_cons_zero, List.set_cons_succ]
            refine wpAnyH_take (i := 15) (oi := ⟨some 94, _, _, _, _, some _⟩) (v := ?_) rfl (by kernel_rfl) (by kernel_rfl) (by kernel_rfl) (fun _ _ _ h => h) (Or.inl ⟨by rfl, ?_⟩) (by assumption) ?_
            case refine_2 => (intro wx hSx; (try dsimp only at hSx); go_simp; first | done | with_reducible rfl)
            try simp only [Act.put, List.setIfInBounds_toArray, List.set_cons_zero, List.set_cons_succ]
            refine wpAnyH_ready (rs := [16]) (by kernel_rfl) (by simp) ?_
            refine AllReadyH.cons (o := ⟨some 95, _, _, _, _, some _⟩) rfl (fun K hK => ?_) AllReadyH.nil
            go_simp
            refine HSA.out.mono ?_
            rintro e X1 ⟨rfl, hb⟩
            have H21 := Lib.hid (⟨H20.out.1.src.below.trans (hb.mono H20.out.1.src.below.size), H20.out.2.1.under hb, H20.out.2.2.1.under hb, H20.out.2.2.2.2.under hb⟩ : Below w.heap.size w X1 ∧ Row X1 g4 24 (bulC sc t cor del (.slice Ar R.length cr)) ∧ Row X1 ga 24 (bulC sc t cor del (.slice A R'.length ca)) ∧ NumsIn X1 (.slice B bd.length dd) bd)
            clear hb H20 HSA hS
            go_wp2_with fail
            refine hK.out _ _ ⟨(H21.out.2.1.cell 4).trans rfl, (H21.out.2.2.1.cell 4).trans rfl⟩ (fun hS => ?_)
            clear hK K
            try simp only [Act.put, List.setIfInBounds_toArray, List.set_cons_zero, List.set_cons_succ]
            refine wpAnyH_take (i := 17) (oi := ⟨some 96, _, _, _, _, some _⟩) (v := ?_) rfl (by kernel_rfl) (by kernel_rfl) (by kernel_rfl) (fun _ _ _ h => h) (Or.inl ⟨by rfl, ?_⟩) (by assumption) ?_
            case refine_2 => (intro wx hSx; (try dsimp only at hSx); go_simp; first | done | with_reducible rfl)
            try simp only [Act.put, List.setIfInBounds_toArray, List.set_cons_zero, List.set_cons_succ]
            refine wpAnyH_take (i := 18) (oi := ⟨some 97, _, _, _, _, none⟩) (v := ?_) rfl (by kernel_rfl) (by kernel_rfl) (by kernel_rfl) (fun _ _ _ h => h) (Or.inl ⟨by rfl, ?_⟩) (by assumption) ?_
            case refine_2 => (intro wx hSx; (try dsimp only at hSx); go_simp; first | done | with_reducible rfl)
            try simp only [Act.put, List.setIfInBounds_toArray, List.set_cons_zero, List.set_cons_succ]
            refine wpAnyH_done (by kernel_rfl) ?_ _
            clear hS
            by_cases hz : p.length = 0
            · have hbd0 : bd = [] := by rw [← HBD.out, if_pos (HP0.out.1 hz)]
              subst hbd0
              rw [hz]
              clear hz
              go_wp2_with fail
              refine (awake_from (w0 := w) X1 (HE.out.under H21.out.1) H21.out.1).mono ?_
              rintro e XA ⟨rfl, hb⟩
              have HFin := Lib.hid hb
              clear hb
              go_wp2_with fail
              go_ret
              exact ⟨rfl, HFin.out⟩
            · have hbd0 : bd = [((ac : Int) + 1)] := by rw [← HBD.out, if_neg (fun e => hz (HP0.out.2 e))]
              subst hbd0
              have hz1 : ((p.length : Int) == 0) = false := by rw [beq_eq_false_iff_ne]; omega
              have hb3 : Below X1.heap.size X1 (X1.alloc (.cells #[.int .i64 ((ac : Int) + 1)] 3)) := (Below.refl _ _).alloc (Nat.le_refl _) _
              have HI := ints_yes (.slice B 1 dd) (.slice (some ⟨X1.heap.size, 0, none⟩) 1 1) [((ac : Int) + 1)] _ (H21.out.2.2.2.under hb3) (NumsIn.one (Row.new X1 #[.int .i64 ((ac : Int) + 1)] 3))
              have H22 := Lib.hid (⟨H21.out.1.trans (hb3.mono H21.out.1.size), HI⟩ : Below w.heap.size w (X1.alloc (.cells #[.int .i64 ((ac : Int) + 1)] 3)) ∧ Calls Tryz.prog 24 #[.slice B 1 dd, .slice (some ⟨X1.heap.size, 0, none⟩) 1 1] (X1.alloc (.cells #[.int .i64 ((ac : Int) + 1)] 3)) fun e w' => e = .returned (.bool true) ∧ Below (X1.alloc (.cells #[.int .i64 ((ac : Int) + 1)] 3)).heap.size (X1.alloc (.cells #[.int .i64 ((ac : Int) + 1)] 3)) w')
              clear HI hb3 H21
              go_wp2_with fail
              refine H22.out.2.mono ?_
              rintro e X2 ⟨rfl, hb⟩
              have H23 := Lib.hid (H22.out.1.trans (hb.mono H22.out.1.size))
              clear hb H22
              go_wp2_with fail
              refine (awake_from (w0 := w) X2 (HE.out.under H23.out) H23.out).mono ?_
              rintro e XA ⟨rfl, hb⟩
              have HFin := Lib.hid hb
              clear hb
              go_wp2_with fail
              go_ret
              exact ⟨rfl, HFin.out⟩
end Go.Proofs.YtfnlgfacadmjpaaGreatDoor.Bu
