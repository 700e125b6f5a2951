/- The program's readHeading, at any text. -/
import Derived.Test.YtfnlgfacadmjpaaGreatDoorBSp
namespace Go.Proofs.YtfnlgfacadmjpaaGreatDoor.Bu
open Go.RowKit

abbrev bulC (c : ByteArray) (t cor del : Int) (u : Value) : Array Value := #[.string c, .int .i64 t, .int .i64 cor, .int .i64 del, u]
abbrev bulV (c : ByteArray) (t cor del : Int) (u : Value) : Value := .agg #[.string c, .int .i64 t, .int .i64 cor, .int .i64 del, u]
theorem set5_row {w : World} {g : Nat} {t : TypeId} {y0 y1 y2 y3 y4 : Value} (u0 u1 u2 u3 u4 : Value) (h : Row w g t #[y0, y1, y2, y3, y4]) :
    Row (((((w.setCell ⟨g, 0, none⟩ u0).setCell ⟨g, 1, none⟩ u1).setCell ⟨g, 2, none⟩ u2).setCell ⟨g, 3, none⟩ u3).setCell ⟨g, 4, none⟩ u4) g t #[u0, u1, u2, u3, u4] := by
  have h0 : Row (w.setCell ⟨g, 0, none⟩ u0) g t #[u0, y1, y2, y3, y4] := h.put 0 _
  have h1 : Row ((w.setCell ⟨g, 0, none⟩ u0).setCell ⟨g, 1, none⟩ u1) g t #[u0, u1, y2, y3, y4] := h0.put 1 _
  have h2 : Row (((w.setCell ⟨g, 0, none⟩ u0).setCell ⟨g, 1, none⟩ u1).setCell ⟨g, 2, none⟩ u2) g t #[u0, u1, u2, y3, y4] := h1.put 2 _
  have h3 : Row ((((w.setCell ⟨g, 0, none⟩ u0).setCell ⟨g, 1, none⟩ u1).setCell ⟨g, 2, none⟩ u2).setCell ⟨g, 3, none⟩ u3) g t #[u0, u1, u2, u3, y4] := h2.put 3 _
  exact h3.put 4 _
theorem set5_below {n g : Nat} {w w' : World} {u0 u1 u2 u3 u4 : Value} (hb : Below n w w') (hg : n ≤ g) :
    Below n w (((((w'.setCell ⟨g, 0, none⟩ u0).setCell ⟨g, 1, none⟩ u1).setCell ⟨g, 2, none⟩ u2).setCell ⟨g, 3, none⟩ u3).setCell ⟨g, 4, none⟩ u4) :=
  ((((hb.setCell (p := ⟨g, 0, none⟩) hg u0).setCell (p := ⟨g, 1, none⟩) hg u1).setCell (p := ⟨g, 2, none⟩) hg u2).setCell (p := ⟨g, 3, none⟩) hg u3).setCell (p := ⟨g, 4, none⟩) hg u4
/-- A heading's reading. -/
def Hdr (ws : List (List UInt8)) (near : Int) (c : List UInt8) (t cor del : Int) : Prop :=
  ∃ st rest, ws = sy :: c :: st :: rest ∧ ctr (S c) = true ∧ Stm st near t ∧ ((rest = [] ∧ cor = 0 ∧ del = 0) ∨ ∃ x, rest = [x] ∧ cor = cnt [67, 67] x ∧ del = cnt [82, 82] x ∧ ¬ (cor = 0 ∧ del = 0))
/-- What readHeading leaves. -/
def HdO (ws : List (List UInt8)) (near : Int) (w : World) (e : Ending) (w' : World) : Prop :=
  (∃ c t cor del, Hdr ws near c t cor del ∧ e = .returned (.tuple #[bulV (S c) t cor del (.slice none 0 0), .int .i64 0]) ∧ Below w.heap.size w w') ∨
  ((∀ c t cor del, ¬ Hdr ws near c t cor del) ∧ e = .returned (.tuple #[bulV ⟨#[]⟩ 0 0 0 (.slice none 0 0), .int .i64 3]) ∧ Below w.heap.size w w')
set_option maxRecDepth 100000 in
set_option maxHeartbeats 4000000 in
theorem readHeading_any (s : List UInt8) (near : Int) (w : World) (hE : Env w) (hn : 0 ≤ near ∧ near ≤ 52595999) (hs : s.length ≤ 100000) :
    Calls Tryz.prog 52 #[.string (S s), .int .i64 near] w (HdO (hws s) near w) := by
  have HSp := Lib.hid (fun w hE => split4_any s w hs hE)
  have HPO : Hid (∀ e w', HdO (hws s) near w e w' = ((∃ c t cor del, Hdr (hws s) near c t cor del ∧ e = .returned (.tuple #[bulV (S c) t cor del (.slice none 0 0), .int .i64 0]) ∧ Below w.heap.size w w') ∨
  ((∀ c t cor del, ¬ Hdr (hws s) near c t cor del) ∧ e = .returned (.tuple #[bulV ⟨#[]⟩ 0 0 0 (.slice none 0 0), .int .i64 3]) ∧ Below w.heap.size w w'))) := Lib.hid (fun _ _ => rfl)
  have HL := Lib.hid (hws_len s)
  have HLS := Lib.hid hs
  generalize hq : HdO (hws s) near w = QQ at *
  generalize hws s = ws at *
  generalize min 4 (s.length + 1) = cap at *
  generalize S s = sv at *
  clear hq hs
  have b4 := (Below.refl w.heap.size w).alloc (Nat.le_refl _) (.cells #[.string ⟨#[]⟩, .int .i64 0, .int .i64 0, .int .i64 0, .slice none 0 0] 24)
  have r4 := Row.new w #[.string ⟨#[]⟩, .int .i64 0, .int .i64 0, .int .i64 0, .slice none 0 0] 24
  have hE4 := hE.under b4
  go_enter Tryz.func52, Tryz.ntmps52
  go_wp2_with fail
  generalize w.alloc (.cells #[.string ⟨#[]⟩, .int .i64 0, .int .i64 0, .int .i64 0, .slice none 0 0] 24) = W0 at *
  refine (HSp.out _ hE4).mono ?_
  rintro e w1 ⟨rfl, hw1, g1⟩
  have BW := b4.trans (g1.mono b4.size)
  have RW := r4.under g1
  have hE5 := hE4.under g1
  clear HSp g1 b4 r4 hE4
  by_cases h3 : ws.length < 3
  · have n1 : (ws.length : Int) < 3 := by omega
    have HNO := Lib.hid (show ∀ c t cor del, ¬ Hdr ws near c t cor del from fun c t cor del ⟨st, rest, e, _⟩ => by rw [e] at h3; simp at h3; omega)
    clear h3 hw1 hE5
    have f0 := RW.thaw 0
    have f1 := RW.thaw 1
    have f2 := RW.thaw 2
    have f3 := RW.thaw 3
    have f4 := RW.thaw 4
    obtain ⟨q0, q1, q2, q3, q4⟩ := row5 RW
    have HZ := Lib.hid (set5_row (.string ⟨#[]⟩) (.int .i64 0) (.int .i64 0) (.int .i64 0) (.slice none 0 0) RW)
    have HF := Lib.hid (set5_below (u0 := .string ⟨#[]⟩) (u1 := .int .i64 0) (u2 := .int .i64 0) (u3 := .int .i64 0) (u4 := .slice none 0 0) BW (Nat.le_refl _))
    clear RW BW
    go_wp2_with fail
    clear f0 f1 f2 f3 f4 q0 q1 q2 q3 q4
    exact bodyPost_ret (v := .tuple #[bulV ⟨#[]⟩ 0 0 0 (.slice none 0 0), .int .i64 3]) (by obtain ⟨z0, z1, z2, z3, z4⟩ := row5 HZ.out; simp [results, Tryz.results52, z0, z1, z2, z3, z4, go_sem]) rfl (by rw [HPO.out]; exact .inr ⟨HNO.out, rfl, HF.out⟩)
  have hcell : ∀ i (h : i < ws.length), w1.cell? ⟨W0.heap.size, i, none⟩ = some (.string (S ws[i])) ∧ W0.heap.size < w1.heap.size := by
    obtain ⟨A', cap', e, h1, h2, hk⟩ := hw1
    cases e
    intro i hi
    obtain ⟨g, off, e4, hg, hcc⟩ := hk i hi
    cases e4
    rw [Nat.zero_add] at hcc
    exact ⟨hcc, hg⟩
  clear hw1
  generalize W0.heap.size = g at *
  obtain ⟨n, hnl⟩ : ∃ n, ws.length = n := ⟨_, rfl⟩
  rw [hnl] at h3 ⊢
  have HNL := Lib.hid hnl
  clear hnl
  obtain ⟨x0, x1, x2, rest, rfl⟩ : ∃ a b c r, ws = a :: b :: c :: r := by
    have := HNL.out
    rcases ws with _ | ⟨a, _ | ⟨b, _ | ⟨c, r⟩⟩⟩
    · simp at this; omega
    · simp at this; omega
    · simp at this; omega
    · exact ⟨a, b, c, r, rfl⟩
  obtain ⟨k0, hg⟩ := hcell 0 (by simp)
  obtain ⟨k1, -⟩ := hcell 1 (by simp)
  obtain ⟨k2, -⟩ := hcell 2 (by simp)
  have HC := Lib.hid hcell
  clear hcell
  simp only [List.getElem_cons_zero, List.getElem_cons_succ] at k0 k1 k2
  have n1 : ¬ (n : Int) < 3 := by omega
  have n2 : (0 : Int) < (n : Int) := by omega
  have n3 : (1 : Int) < (n : Int) := by omega
  have n4 : (2 : Int) < (n : Int) := by omega
  clear h3
  by_cases hx0 : x0 = sy
  case neg =>
    have hne : ¬ (S x0).toList = [83, 89, 78, 79, 80] := fun e => hx0 (by rw [ByteArray.toList_eq, S_list] at e; exact e)
    have HNO := Lib.hid (show ∀ c t cor del, ¬ Hdr (x0 :: x1 :: x2 :: rest) near c t cor del from fun c t cor del ⟨st, rest', e, _⟩ => by
      injection e with e1 e2
      exact hx0 e1)
    clear hx0 HC k1 k2 hE5
    have f0 := RW.thaw 0
    have f1 := RW.thaw 1
    have f2 := RW.thaw 2
    have f3 := RW.thaw 3
    have f4 := RW.thaw 4
    obtain ⟨q0, q1, q2, q3, q4⟩ := row5 RW
    have HZ := Lib.hid (set5_row (.string ⟨#[]⟩) (.int .i64 0) (.int .i64 0) (.int .i64 0) (.slice none 0 0) RW)
    have HF := Lib.hid (set5_below (u0 := .string ⟨#[]⟩) (u1 := .int .i64 0) (u2 := .int .i64 0) (u3 := .int .i64 0) (u4 := .slice none 0 0) BW (Nat.le_refl _))
    clear RW BW
    go_wp2_with fail
    clear f0 f1 f2 f3 f4 q0 q1 q2 q3 q4
    exact bodyPost_ret (v := .tuple #[bulV ⟨#[]⟩ 0 0 0 (.slice none 0 0), .int .i64 3]) (by obtain ⟨z0, z1, z2, z3, z4⟩ := row5 HZ.out; simp [results, Tryz.results52, z0, z1, z2, z3, z4, go_sem]) rfl (by rw [HPO.out]; exact .inr ⟨HNO.out, rfl, HF.out⟩)
  subst hx0
  have heq : (S sy).toList = [83, 89, 78, 79, 80] := by rw [ByteArray.toList_eq, S_list]; rfl
  obtain ⟨vb, hvb⟩ : ∃ b, ctr (S x1) = b := ⟨_, rfl⟩
  have HV := Lib.hid (fun W => validCentre_any (S x1) W)
  rw [hvb] at HV
  have HVB := Lib.hid hvb
  clear hvb
  go_wp2_with fail
  refine (HV.out _).mono ?_
  rintro e w2 ⟨rfl, g2⟩
  have c2 := (g2.cell (p := ⟨g, 2, none⟩) hg).trans k2
  have c1 := (g2.cell (p := ⟨g, 1, none⟩) hg).trans k1
  have hg2 := Nat.lt_of_lt_of_le hg g2.size
  have HC2 := Lib.hid (fun i (h : i < (sy :: x1 :: x2 :: rest).length) => (g2.cell (p := ⟨g, i, none⟩) hg).trans (HC.out i h).1)
  replace BW := BW.trans (g2.mono BW.size)
  replace RW := RW.under g2
  have hE6 := hE5.under g2
  clear k0 k1 k2 HV HC g2 hg hE5 heq
  cases vb
  case false =>
    have HNO := Lib.hid (show ∀ c t cor del, ¬ Hdr (sy :: x1 :: x2 :: rest) near c t cor del from fun c t cor del ⟨st, rest', e, hcc, _⟩ => by
      injection e with e1 e2
      injection e2 with e2 e3
      rw [← e2, HVB.out] at hcc
      cases hcc)
    clear HC2 c1 c2 hE6
    have f0 := RW.thaw 0
    have f1 := RW.thaw 1
    have f2 := RW.thaw 2
    have f3 := RW.thaw 3
    have f4 := RW.thaw 4
    obtain ⟨q0, q1, q2, q3, q4⟩ := row5 RW
    have HZ := Lib.hid (set5_row (.string ⟨#[]⟩) (.int .i64 0) (.int .i64 0) (.int .i64 0) (.slice none 0 0) RW)
    have HF := Lib.hid (set5_below (u0 := .string ⟨#[]⟩) (u1 := .int .i64 0) (u2 := .int .i64 0) (u3 := .int .i64 0) (u4 := .slice none 0 0) BW (Nat.le_refl _))
    clear RW BW
    go_wp2_with fail
    clear f0 f1 f2 f3 f4 q0 q1 q2 q3 q4
    exact bodyPost_ret (v := .tuple #[bulV ⟨#[]⟩ 0 0 0 (.slice none 0 0), .int .i64 3]) (by obtain ⟨z0, z1, z2, z3, z4⟩ := row5 HZ.out; simp [results, Tryz.results52, z0, z1, z2, z3, z4, go_sem]) rfl (by rw [HPO.out]; exact .inr ⟨HNO.out, rfl, HF.out⟩)
  go_wp2_with fail
  refine (stampP_any x2 near _ hE6.ck hn).mono ?_
  rintro e w3 ⟨hst, g3⟩
  have HC3 := Lib.hid (fun i (h : i < (sy :: x1 :: x2 :: rest).length) => (g3.cell (p := ⟨g, i, none⟩) hg2).trans (HC2.out i h))
  have c1' := (g3.cell (p := ⟨g, 1, none⟩) hg2).trans c1
  have hg3 := Nat.lt_of_lt_of_le hg2 g3.size
  replace BW := BW.trans (g3.mono BW.size)
  replace RW := RW.under g3
  clear c1 c2 HC2 g3 hg2 hE6
  rcases hst with ⟨a, hst, rfl⟩ | ⟨hst, rfl⟩
  case inr =>
    have HNO := Lib.hid (show ∀ c t cor del, ¬ Hdr (sy :: x1 :: x2 :: rest) near c t cor del from fun c t cor del ⟨st, rest', e, hcc, hs, _⟩ => by
      injection e with e1 e2
      injection e2 with e2 e3
      injection e3 with e3 e4
      subst e3
      exact hst _ hs)
    clear hst HC3 c1'
    have f0 := RW.thaw 0
    have f1 := RW.thaw 1
    have f2 := RW.thaw 2
    have f3 := RW.thaw 3
    have f4 := RW.thaw 4
    obtain ⟨q0, q1, q2, q3, q4⟩ := row5 RW
    have HZ := Lib.hid (set5_row (.string ⟨#[]⟩) (.int .i64 0) (.int .i64 0) (.int .i64 0) (.slice none 0 0) RW)
    have HF := Lib.hid (set5_below (u0 := .string ⟨#[]⟩) (u1 := .int .i64 0) (u2 := .int .i64 0) (u3 := .int .i64 0) (u4 := .slice none 0 0) BW (Nat.le_refl _))
    clear RW BW
    go_wp2_with fail
    clear f0 f1 f2 f3 f4 q0 q1 q2 q3 q4
    exact bodyPost_ret (v := .tuple #[bulV ⟨#[]⟩ 0 0 0 (.slice none 0 0), .int .i64 3]) (by obtain ⟨z0, z1, z2, z3, z4⟩ := row5 HZ.out; simp [results, Tryz.results52, z0, z1, z2, z3, z4, go_sem]) rfl (by rw [HPO.out]; exact .inr ⟨HNO.out, rfl, HF.out⟩)
  have HST := Lib.hid hst
  clear hst
  by_cases hr : rest = []
  · subst hr
    obtain rfl : n = 3 := by have := HNL.out; simp at this; omega
    clear n1 n2 n3 n4 HC3
    have ba := (Below.refl w3.heap.size w3).alloc (Nat.le_refl _) (.cells (bulC (S x1) a 0 0 (.slice none 0 0)) 24)
    have rb := Row.new w3 (bulC (S x1) a 0 0 (.slice none 0 0)) 24
    replace BW := BW.trans (ba.mono BW.size)
    replace RW := RW.under ba
    clear ba
    go_upto_region 8 with fail
    clear c1'
    generalize w3.alloc (.cells (bulC (S x1) a 0 0 (.slice none 0 0)) 24) = w4 at *
    obtain ⟨d0, d1, d2, d3, d4⟩ := row5 rb
    clear rb
    generalize w3.heap.size = gb at *
    have f0 := RW.thaw 0
    have f1 := RW.thaw 1
    have f2 := RW.thaw 2
    have f3 := RW.thaw 3
    have f4 := RW.thaw 4
    obtain ⟨q0, q1, q2, q3, q4⟩ := row5 RW
    have HZ := Lib.hid (set5_row (.string (S x1)) (.int .i64 a) (.int .i64 0) (.int .i64 0) (.slice none 0 0) RW)
    have HF := Lib.hid (set5_below (u0 := .string (S x1)) (u1 := .int .i64 a) (u2 := .int .i64 0) (u3 := .int .i64 0) (u4 := .slice none 0 0) BW (Nat.le_refl _))
    clear RW BW
    go_wp2_with fail
    clear f0 f1 f2 f3 f4 q0 q1 q2 q3 q4 d0 d1 d2 d3 d4
    exact bodyPost_ret (v := .tuple #[bulV (S x1) a 0 0 (.slice none 0 0), .int .i64 0]) (by obtain ⟨z0, z1, z2, z3, z4⟩ := row5 HZ.out; simp [results, Tryz.results52, z0, z1, z2, z3, z4, go_sem]) rfl (by rw [HPO.out]; exact .inl ⟨x1, a, 0, 0, ⟨x2, [], rfl, HVB.out, HST.out, .inl ⟨rfl, rfl, rfl⟩⟩, rfl, HF.out⟩)
  · obtain ⟨x3, rest', rfl⟩ : ∃ x r, rest = x :: r := List.exists_cons_of_ne_nil hr
    obtain rfl : rest' = [] := by
      have := HL.out.1
      rcases rest' with _ | ⟨y, r⟩
      · rfl
      · simp at this
    obtain rfl : n = 4 := by have := HNL.out; simp at this; omega
    clear n1 n2 n3 n4 hr
    have c3 := HC3.out 3 (by simp)
    simp only [List.getElem_cons_zero, List.getElem_cons_succ] at c3
    have hx3 : x3.length ≤ 100000 := Nat.le_trans (HL.out.2 x3 (by simp)) HLS.out
    have HK1 : Hid (∀ W, Calls Tryz.prog 89 #[.string (S x3), .string ⟨#[67, 67]⟩] W fun e w' => e = .returned (.int .i64 (cnt [67, 67] x3)) ∧ W = w') := Lib.hid (fun W => count_any x3 [67, 67] W hx3)
    have HK2 : Hid (∀ W, Calls Tryz.prog 89 #[.string (S x3), .string ⟨#[82, 82]⟩] W fun e w' => e = .returned (.int .i64 (cnt [82, 82] x3)) ∧ W = w') := Lib.hid (fun W => count_any x3 [82, 82] W hx3)
    obtain ⟨v1, hv1⟩ : ∃ v, cnt [67, 67] x3 = v := ⟨_, rfl⟩
    obtain ⟨v2, hv2⟩ : ∃ v, cnt [82, 82] x3 = v := ⟨_, rfl⟩
    rw [hv1] at HK1
    rw [hv2] at HK2
    have HV1 := Lib.hid hv1
    have HV2 := Lib.hid hv2
    clear hv1 hv2 hx3 HC3
    have ba := (Below.refl w3.heap.size w3).alloc (Nat.le_refl _) (.cells (bulC (S x1) a 0 0 (.slice none 0 0)) 24)
    have rb := Row.new w3 (bulC (S x1) a 0 0 (.slice none 0 0)) 24
    replace BW := BW.trans (ba.mono BW.size)
    have hgb : w.heap.size < w3.heap.size := RW.lt
    replace RW := RW.under ba
    have k3 := (ba.cell (p := ⟨g, 3, none⟩) hg3).trans c3
    have hgg : g ≠ w3.heap.size := Nat.ne_of_lt hg3
    clear ba c3
    go_upto_region 8 with fail
    clear c1'
    generalize w3.alloc (.cells (bulC (S x1) a 0 0 (.slice none 0 0)) 24) = w4 at *
    generalize w3.heap.size = gb at *
    have f2 := rb.thaw 2
    obtain ⟨d0, d1, d2, d3, d4⟩ := row5 rb
    go_wp2_with fail
    refine (HK1.out _).mono ?_
    rintro e w5 ⟨rfl, rfl⟩
    have rb2 : Row (w4.setCell ⟨gb, 2, none⟩ (.int .i64 v1)) gb 24 (bulC (S x1) a v1 0 (.slice none 0 0)) := rb.put 2 _
    have k3b : (w4.setCell ⟨gb, 2, none⟩ (.int .i64 v1)).cell? ⟨g, 3, none⟩ = some (.string (S x3)) := (World.cell?_setCell_other w4 _ _ _ (by intro e; cases e)).trans k3
    have BW2 := BW.setCell (p := ⟨gb, 2, none⟩) (Nat.le_of_lt hgb) (.int .i64 v1)
    have RW2 := RW.far (p := ⟨gb, 2, none⟩) (Nat.ne_of_gt hgb) (.int .i64 v1)
    go_upto_region 11 with fail
    clear f2 d0 d1 d2 d3 d4 rb k3 BW RW
    generalize w4.setCell ⟨gb, 2, none⟩ (.int .i64 v1) = w5 at *
    have f3 := rb2.thaw 3
    obtain ⟨d0, d1, d2, d3, d4⟩ := row5 rb2
    go_wp2_with fail
    refine (HK2.out _).mono ?_
    rintro e w6 ⟨rfl, rfl⟩
    have rb3 : Row (w5.setCell ⟨gb, 3, none⟩ (.int .i64 v2)) gb 24 (bulC (S x1) a v1 v2 (.slice none 0 0)) := rb2.put 3 _
    have BW := BW2.setCell (p := ⟨gb, 3, none⟩) (Nat.le_of_lt hgb) (.int .i64 v2)
    have RW := RW2.far (p := ⟨gb, 3, none⟩) (Nat.ne_of_gt hgb) (.int .i64 v2)
    go_upto_region 12 with fail
    clear f3 d0 d1 d2 d3 d4 rb2 k3b BW2 RW2 HK1 HK2
    generalize w5.setCell ⟨gb, 3, none⟩ (.int .i64 v2) = w6 at *
    obtain ⟨d0, d1, d2, d3, d4⟩ := row5 rb3
    by_cases hz : v1 = 0 ∧ v2 = 0
    · obtain ⟨rfl, rfl⟩ := hz
      have HNO := Lib.hid (show ∀ c t cor del, ¬ Hdr [sy, x1, x2, x3] near c t cor del from fun c t cor del ⟨st, rest', e, hcc, hs, h⟩ => by
        injection e with e1 e2
        injection e2 with e2 e3
        injection e3 with e3 e4
        subst e4
        rcases h with ⟨h, -⟩ | ⟨x, h, h1, h2, h3⟩
        · cases h
        · injection h with h h'
          subst h
          exact h3 ⟨h1.trans HV1.out, h2.trans HV2.out⟩)
      clear rb3
      have f0 := RW.thaw 0
      have f1 := RW.thaw 1
      have f2 := RW.thaw 2
      have f3 := RW.thaw 3
      have f4 := RW.thaw 4
      obtain ⟨q0, q1, q2, q3, q4⟩ := row5 RW
      have HZ := Lib.hid (set5_row (.string ⟨#[]⟩) (.int .i64 0) (.int .i64 0) (.int .i64 0) (.slice none 0 0) RW)
      have HF := Lib.hid (set5_below (u0 := .string ⟨#[]⟩) (u1 := .int .i64 0) (u2 := .int .i64 0) (u3 := .int .i64 0) (u4 := .slice none 0 0) BW (Nat.le_refl _))
      clear RW BW
      go_wp2_with fail
      clear f0 f1 f2 f3 f4 q0 q1 q2 q3 q4
      exact bodyPost_ret (v := .tuple #[bulV ⟨#[]⟩ 0 0 0 (.slice none 0 0), .int .i64 3]) (by obtain ⟨z0, z1, z2, z3, z4⟩ := row5 HZ.out; simp [results, Tryz.results52, z0, z1, z2, z3, z4, go_sem]) rfl (by rw [HPO.out]; exact .inr ⟨HNO.out, rfl, HF.out⟩)
    · clear rb3
      have f0 := RW.thaw 0
      have f1 := RW.thaw 1
      have f2 := RW.thaw 2
      have f3 := RW.thaw 3
      have f4 := RW.thaw 4
      obtain ⟨q0, q1, q2, q3, q4⟩ := row5 RW
      have HZ := Lib.hid (set5_row (.string (S x1)) (.int .i64 a) (.int .i64 v1) (.int .i64 v2) (.slice none 0 0) RW)
      have HF := Lib.hid (set5_below (u0 := .string (S x1)) (u1 := .int .i64 a) (u2 := .int .i64 v1) (u3 := .int .i64 v2) (u4 := .slice none 0 0) BW (Nat.le_refl _))
      have HH := Lib.hid (show Hdr [sy, x1, x2, x3] near x1 a v1 v2 from ⟨x2, [x3], rfl, HVB.out, HST.out, .inr ⟨x3, rfl, HV1.out.symm, HV2.out.symm, hz⟩⟩)
      clear RW BW
      by_cases e1 : v1 = 0
      · subst e1
        have e2 : (v2 == 0) = false := beq_eq_false_iff_ne.2 (fun e => hz ⟨rfl, e⟩)
        clear hz
        go_wp2_with fail
        clear f0 f1 f2 f3 f4 q0 q1 q2 q3 q4 d0 d1 d2 d3 d4
        exact bodyPost_ret (v := .tuple #[bulV (S x1) a 0 v2 (.slice none 0 0), .int .i64 0]) (by obtain ⟨z0, z1, z2, z3, z4⟩ := row5 HZ.out; simp [results, Tryz.results52, z0, z1, z2, z3, z4, go_sem]) rfl (by rw [HPO.out]; exact .inl ⟨x1, a, 0, v2, HH.out, rfl, HF.out⟩)
      · have e1' : (v1 == 0) = false := beq_eq_false_iff_ne.2 e1
        clear hz e1
        go_wp2_with fail
        clear f0 f1 f2 f3 f4 q0 q1 q2 q3 q4 d0 d1 d2 d3 d4
        exact bodyPost_ret (v := .tuple #[bulV (S x1) a v1 v2 (.slice none 0 0), .int .i64 0]) (by obtain ⟨z0, z1, z2, z3, z4⟩ := row5 HZ.out; simp [results, Tryz.results52, z0, z1, z2, z3, z4, go_sem]) rfl (by rw [HPO.out]; exact .inl ⟨x1, a, v1, v2, HH.out, rfl, HF.out⟩)
end Go.Proofs.YtfnlgfacadmjpaaGreatDoor.Bu
