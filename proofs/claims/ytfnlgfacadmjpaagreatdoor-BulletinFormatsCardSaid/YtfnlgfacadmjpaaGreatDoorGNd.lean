/- Whatever the reading, whatever the text: Format and Parse of the program and of the reference answer the same. Contracts of the program's readPlace and readReadings at any words. Contract of the program's read at any words. Texts of words with single spaces between them: in plain lists. Contract of the program's Parse at the text of a valid report. Contract of the program's Parse at any text. -/
import Derived.Test.YtfnlgfacadmjpaaGreatDoorERParse
import Derived.Test.YtfnlgfacadmjpaaGreatDoorGNa
import Derived.Lib.Split
import Derived.Lib.Join
namespace Go.Proofs.YtfnlgfacadmjpaaGreatDoor.El
open Go.RowKit

set_option maxRecDepth 100000 in
set_option maxHeartbeats 1000000 in
theorem refParse_size (s : ByteArray) (w : World) (h : ¬ (2 ≤ s.size ∧ s.size ≤ 8)) :
    Calls Tryz.prog 96 #[.string s] w fun e w' => e = .returned (.tuple #[rdV 0 0, .int .i64 3]) ∧ Below w.heap.size w w' := by
  have b0 : Below w.heap.size w (w.alloc (.cells #[.int .i64 0, .int .i64 0] 99)) := (Below.refl _ _).alloc (Nat.le_refl _) _
  by_cases h2 : 2 ≤ s.size
  · have h8 : 8 < s.size := by omega
    have h2' : ¬ (s.size : Int) < 2 := by omega
    have h8' : (8 : Int) < (s.size : Int) := by omega
    clear h
    go_enter Tryz.func96, Tryz.ntmps96
    go_wp2_with fail
    exact bodyPost_ret (v := .tuple #[rdV 0 0, .int .i64 3]) (by simp [results, Tryz.results96, go_sem]) rfl ⟨rfl, b0⟩
  · have h2' : (s.size : Int) < 2 := by omega
    clear h
    go_enter Tryz.func96, Tryz.ntmps96
    go_wp2_with fail
    exact bodyPost_ret (v := .tuple #[rdV 0 0, .int .i64 3]) (by simp [results, Tryz.results96, go_sem]) rfl ⟨rfl, b0⟩
set_option maxRecDepth 100000 in
set_option maxHeartbeats 1000000 in
theorem refParse_none (s : ByteArray) (w : World) (h2 : 2 ≤ s.size) (h8 : s.size ≤ 8) (h : ∀ c, Elt.Ex c → s.extract 0 1 ≠ S [Elt.lt c]) :
    Calls Tryz.prog 96 #[.string s] w fun e w' => e = .returned (.tuple #[rdV 0 0, .int .i64 3]) ∧ Below w.heap.size w w' := by
  have b0 : Below w.heap.size w (w.alloc (.cells #[.int .i64 0, .int .i64 0] 99)) := (Below.refl _ _).alloc (Nat.le_refl _) _
  have r0 := Row.new w #[.int .i64 0, .int .i64 0] 99
  have HL := Lib.hid (fun W => refByLetter_no (s.extract 0 1) W h)
  clear h
  generalize hs1 : s.extract 0 1 = s1 at *
  go_enter Tryz.func96, Tryz.ntmps96
  go_wp2_with fail
  generalize w.alloc (.cells #[.int .i64 0, .int .i64 0] 99) = W00 at *
  refine (HL.out _).mono ?_
  rintro e W0 ⟨rfl, g0⟩
  have B0 := Lib.hid (b0.trans (g0.mono b0.size))
  have R0 := Lib.hid (r0.under g0)
  clear b0 r0 g0
  have f0 := R0.out.thaw 0
  have f1 := R0.out.thaw 1
  obtain ⟨q0, q1⟩ := row2 R0.out
  have HZ := Lib.hid (set2_row (.int .i64 0) (.int .i64 0) R0.out)
  go_wp2_with fail
  exact bodyPost_ret (v := .tuple #[rdV 0 0, .int .i64 3]) (by obtain ⟨z0, z1⟩ := row2 HZ.out; simp [results, Tryz.results96, z0, z1, go_sem]) rfl ⟨rfl, set2_below B0.out (Nat.le_refl _)⟩
theorem tail_neg (c v : Int) : neg (S (Elt.txt c v)) = decide (v < 0) ∨ Elt.dg c = 0 := by
  by_cases hd : Elt.dg c = 0
  · exact .inr hd
  · left
    obtain ⟨k, hk⟩ : ∃ k, Elt.dg c = k + 1 := ⟨Elt.dg c - 1, by omega⟩
    unfold neg stOf
    rw [show Elt.txt c v = Elt.lt c :: Elt.tail c v from rfl, ext_tail, S_list]
    unfold Elt.tail
    by_cases hv : v < 0
    · rw [show Elt.sg v = [45] from if_pos hv, decide_eq_true hv]; rfl
    · rw [show Elt.sg v = [] from if_neg hv, decide_eq_false hv, hk]
      obtain ⟨d, r, hd10, he⟩ := @Elt.ddn_head v.natAbs k
      rw [he, List.nil_append, List.head?_cons, beq_eq_false_iff_ne]
      intro e
      injection e with e
      have := Elt.b10_toNat hd10
      rw [e] at this
      have h45 : (45 : UInt8).toNat = 45 := rfl
      omega
theorem pout_yes {c v : Int} (h : Elt.Val c v) : pout (S (Elt.txt c v)) c = (c, v, 0) := by
  obtain ⟨b1, -, -, -⟩ := Elt.val_bd h
  obtain ⟨-, f6, f7, -⟩ := Elt.facts h.1
  have hn : neg (S (Elt.txt c v)) = decide (v < 0) := (tail_neg c v).resolve_right (by omega)
  have hdec : dec (Elt.ddn v.natAbs (Elt.dg c)) = some v.natAbs := by
    unfold dec; rw [Elt.ddn_dec, Nat.mod_eq_of_lt b1]; simp
  have hst : stOf (S (Elt.txt c v)) = S (Elt.tail c v) := ext_tail _ _
  have hr : restOf (S (Elt.txt c v)) = S (Elt.ddn v.natAbs (Elt.dg c)) ∧ signOf (S (Elt.txt c v)) * (v.natAbs : Int) = v := by
    unfold restOf signOf
    rw [hn, hst]
    by_cases hv : v < 0
    · rw [decide_eq_true hv, if_pos rfl, if_pos rfl]
      refine ⟨?_, by omega⟩
      unfold Elt.tail
      rw [show Elt.sg v = [45] from if_pos hv]
      exact ext_tail _ _
    · rw [decide_eq_false hv, if_neg (by decide), if_neg (by decide)]
      refine ⟨?_, by omega⟩
      unfold Elt.tail
      rw [show Elt.sg v = [] from if_neg hv, List.nil_append]
  unfold pout
  rw [hr.1, S_list, hdec]
  simp only
  rw [hr.2, if_pos ⟨h, rfl⟩]
theorem pout_no {s : ByteArray} (c : Int) (h : NoTxt s) : pout s c = (0, 0, 3) := by
  unfold pout
  cases dec (restOf s).data.toList with
  | none => rfl
  | some n => simp only; rw [if_neg (fun hh => h _ _ hh.1 hh.2.symm)]
theorem refParse_yes (c v : Int) (w : World) (h : Elt.Val c v) :
    Calls Tryz.prog 96 #[.string (S (Elt.txt c v))] w fun e w' => e = .returned (.tuple #[rdV c v, .int .i64 0]) ∧ Below w.heap.size w w' := by
  obtain ⟨l1, l2⟩ := Elt.tail_len h
  have hs : (S (Elt.txt c v)).size = 1 + (Elt.tail c v).length := by rw [S_size]; unfold Elt.txt; rw [List.length_cons]; omega
  have := refParse_letter (S (Elt.txt c v)) c w h.1 (by omega) (by omega) (ext_head _ _)
  rw [pout_yes h] at this
  exact this
theorem refParse_no (s : ByteArray) (w : World) (h : NoTxt s) :
    Calls Tryz.prog 96 #[.string s] w fun e w' => e = .returned (.tuple #[rdV 0 0, .int .i64 3]) ∧ Below w.heap.size w w' := by
  by_cases hs : 2 ≤ s.size ∧ s.size ≤ 8
  · by_cases hl : ∃ c, Elt.Ex c ∧ s.extract 0 1 = S [Elt.lt c]
    · obtain ⟨c, hc, hl⟩ := hl
      have := refParse_letter s c w hc hs.1 hs.2 hl
      rw [pout_no c h] at this
      exact this
    · exact refParse_none s w hs.1 hs.2 (fun c hc e => hl ⟨c, hc, e⟩)
  · exact refParse_size s w hs
/-- Whatever the text: both functions answer the same. -/
theorem both_parse (s : ByteArray) (hs : s.size ≤ 100000) : ∃ c v r : Int,
    (∀ w, Env w → Calls Tryz.prog 190 #[.string s] w fun e w' => e = .returned (.tuple #[rdV c v, .int .i64 r]) ∧ Below w.heap.size w w') ∧
    (∀ w, Calls Tryz.prog 96 #[.string s] w fun e w' => e = .returned (.tuple #[rdV c v, .int .i64 r]) ∧ Below w.heap.size w w') := by
  by_cases h : ∃ c v, Elt.Val c v ∧ s = S (Elt.txt c v)
  · obtain ⟨c, v, hv, rfl⟩ := h
    exact ⟨c, v, 0, fun w hE => parse_yes c v w hE hv, fun w => refParse_yes c v w hv⟩
  · have hn : NoTxt s := fun c v hv e => h ⟨c, v, hv, e⟩
    exact ⟨0, 0, 3, fun w hE => parse_no s w hE hs hn, fun w => refParse_no s w hn⟩
/-- Whatever the reading: both functions answer the same. -/
theorem both_format (c v : Int) : ∃ (t : ByteArray) (r : Int),
    (∀ w, Env w → Calls Tryz.prog 68 #[rdV c v] w fun e w' => e = .returned (.tuple #[.string t, .int .i64 r]) ∧ Below w.heap.size w w') ∧
    (∀ w, Calls Tryz.prog 73 #[rdV c v] w fun e w' => e = .returned (.tuple #[.string t, .int .i64 r]) ∧ Below w.heap.size w w') := by
  by_cases h : Elt.chk c v = 0
  · exact ⟨_, _, fun w hE => format_yes c v w hE (Elt.val_of h), fun w => refFormat_yes c v w (Elt.val_of h)⟩
  · exact ⟨_, _, fun w hE => format_no c v w hE.tab h, fun w => refFormat_no c v w h⟩
end Go.Proofs.YtfnlgfacadmjpaaGreatDoor.El
namespace Go.Proofs.YtfnlgfacadmjpaaGreatDoor
open Go.RowKit

open Classical in
/-- What both sides' Parse of elements answers to a word. -/
noncomputable def eP (x : List UInt8) : Int × Int × Int := if h : ∃ p : Int × Int, El.Elt.Val p.1 p.2 ∧ x = El.Elt.txt p.1 p.2 then ((Classical.choose h).1, (Classical.choose h).2, 0) else (0, 0, 3)
noncomputable def eRd (x : List UInt8) : El.Elt.R := ((eP x).1, (eP x).2.1)
theorem eP_cases (x : List UInt8) : (∃ c v, El.Elt.Val c v ∧ x = El.Elt.txt c v ∧ eP x = (c, v, 0)) ∨ ((∀ c v, El.Elt.Val c v → x ≠ El.Elt.txt c v) ∧ eP x = (0, 0, 3)) := by
  unfold eP
  split
  · rename_i h
    have := Classical.choose_spec h
    exact .inl ⟨_, _, this.1, this.2, rfl⟩
  · rename_i h
    exact .inr ⟨fun c v hv e => h ⟨(c, v), hv, e⟩, rfl⟩
theorem eP_go (x : List UInt8) (h : x.length ≤ 100000) (w : World) (hE : El.Env w) :
    Calls Tryz.prog 190 #[.string (S x)] w fun e w' => e = .returned (.tuple #[El.rdV (eP x).1 (eP x).2.1, .int .i64 (eP x).2.2]) ∧ Below w.heap.size w w' := by
  rcases eP_cases x with ⟨c, v, hv, rfl, e⟩ | ⟨hn, e⟩
  · rw [e]; exact El.parse_yes c v w hE hv
  · rw [e]; exact El.parse_no (S x) w hE (by rw [S_size]; exact h) (fun c v hv e => hn c v hv (S_inj e))
theorem eP_ref (x : List UInt8) (w : World) :
    Calls Tryz.prog 96 #[.string (S x)] w fun e w' => e = .returned (.tuple #[El.rdV (eP x).1 (eP x).2.1, .int .i64 (eP x).2.2]) ∧ Below w.heap.size w w' := by
  rcases eP_cases x with ⟨c, v, hv, rfl, e⟩ | ⟨hn, e⟩
  · rw [e]; exact El.refParse_yes c v w hv
  · rw [e]; exact El.refParse_no (S x) w (fun c v hv e => hn c v hv (S_inj e))
/-- What both sides' Parse of places answers to a word. -/
def pP (x : List UInt8) : Int × Int × Int × Int × Int :=
  if x.length = 8 ∧ Pl.digs x = true ∧ Pl.vb (Pl.fld (S x) 0 2) (Pl.fld (S x) 2 5) (Pl.fld (S x) 5 8) (840 - Pl.fld (S x) 2 5 - Pl.fld (S x) 5 8) = true
  then (Pl.fld (S x) 0 2, Pl.fld (S x) 2 5, Pl.fld (S x) 5 8, 840 - Pl.fld (S x) 2 5 - Pl.fld (S x) 5 8, 0) else (0, 0, 0, 0, 3)
theorem pP_cases (x : List UInt8) : (S x).size ≠ 8 ∧ pP x = (0, 0, 0, 0, 3) ∨ (S x).size = 8 ∧ Pl.digs (S x).data.toList = false ∧ pP x = (0, 0, 0, 0, 3) ∨
    (S x).size = 8 ∧ Pl.digs (S x).data.toList = true ∧ Pl.vb (Pl.fld (S x) 0 2) (Pl.fld (S x) 2 5) (Pl.fld (S x) 5 8) (840 - Pl.fld (S x) 2 5 - Pl.fld (S x) 5 8) = false ∧ pP x = (0, 0, 0, 0, 3) ∨
    (S x).size = 8 ∧ Pl.digs (S x).data.toList = true ∧ Pl.vb (Pl.fld (S x) 0 2) (Pl.fld (S x) 2 5) (Pl.fld (S x) 5 8) (840 - Pl.fld (S x) 2 5 - Pl.fld (S x) 5 8) = true ∧ pP x = (Pl.fld (S x) 0 2, Pl.fld (S x) 2 5, Pl.fld (S x) 5 8, 840 - Pl.fld (S x) 2 5 - Pl.fld (S x) 5 8, 0) := by
  rw [S_size, S_list]
  by_cases h8 : x.length = 8
  · cases hd : Pl.digs x
    · exact .inr (.inl ⟨h8, rfl, by unfold pP; rw [if_neg (fun h => by rw [hd] at h; cases h.2.1)]⟩)
    · cases hv : Pl.vb (Pl.fld (S x) 0 2) (Pl.fld (S x) 2 5) (Pl.fld (S x) 5 8) (840 - Pl.fld (S x) 2 5 - Pl.fld (S x) 5 8)
      · exact .inr (.inr (.inl ⟨h8, rfl, rfl, by unfold pP; rw [if_neg (fun h => by rw [hv] at h; cases h.2.2)]⟩))
      · exact .inr (.inr (.inr ⟨h8, rfl, rfl, by unfold pP; rw [if_pos ⟨h8, hd, hv⟩]⟩))
  · exact .inl ⟨h8, by unfold pP; rw [if_neg (fun h => h8 h.1)]⟩
theorem pP_go (x : List UInt8) (w : World) :
    Calls Tryz.prog 189 #[.string (S x)] w fun e w' => e = .returned (.tuple #[.agg #[.int .i64 (pP x).1, .int .i64 (pP x).2.1, .int .i64 (pP x).2.2.1, .int .i64 (pP x).2.2.2.1], .int .i64 (pP x).2.2.2.2]) ∧ Below w.heap.size w w' := by
  rcases pP_cases x with ⟨h, e⟩ | ⟨h, hd, e⟩ | ⟨h, hd, hv, e⟩ | ⟨h, hd, hv, e⟩
  · rw [e]; exact Pl.parse_len _ w h
  · rw [e]; exact Pl.parse_bad _ w h hd
  · rw [e]; exact Pl.parse_inv _ w h hd hv
  · rw [e]; exact Pl.parse_val _ w h hd hv
theorem pP_ref (x : List UInt8) (w : World) :
    Calls Tryz.prog 95 #[.string (S x)] w fun e w' => e = .returned (.tuple #[.agg #[.int .i64 (pP x).1, .int .i64 (pP x).2.1, .int .i64 (pP x).2.2.1, .int .i64 (pP x).2.2.2.1], .int .i64 (pP x).2.2.2.2]) ∧ Below w.heap.size w w' := by
  rcases pP_cases x with ⟨h, e⟩ | ⟨h, hd, e⟩ | ⟨h, hd, hv, e⟩ | ⟨h, hd, hv, e⟩
  · rw [e]; exact Pl.refParse_len _ w h
  · rw [e]; exact Pl.refParse_bad _ w h hd
  · rw [e]; exact Pl.refParse_inv _ w h hd hv
  · rw [e]; exact Pl.refParse_val _ w h hd hv
set_option maxRecDepth 100000 in
set_option maxHeartbeats 1000000 in
theorem readPl_word (k : Int) (hk : k ≠ 1) (v : Value) (x : List UInt8) (F A B C r : Int) (ws : List (List UInt8)) (w : World) (hW : WIn w v (x :: ws)) (hP : ∀ w, Calls Tryz.prog 189 #[.string (S x)] w fun e w' => e = .returned (.tuple #[.agg #[.int .i64 F, .int .i64 A, .int .i64 B, .int .i64 C], .int .i64 r]) ∧ Below w.heap.size w w') :
    Calls Tryz.prog 169 #[.int .i64 k, v] w fun e w' => ∃ v', e = .returned (.tuple #[.agg #[.int .i64 F, .int .i64 A, .int .i64 B, .int .i64 C], v', .int .i64 r]) ∧ WIn w' v' ws ∧ Below w.heap.size w w' := by
  obtain ⟨g, off, cap, rfl, h1, h2, hg, c0, hrest⟩ := hW.one
  have q : (k == 1) = false := beq_eq_false_iff_ne.2 hk
  have HP := Lib.hid hP
  have HR := Lib.hid hrest
  have n0 : ¬ ((ws.length : Int) + 1 = 0) := by omega
  have n1 : (1 : Int) ≤ (ws.length : Int) + 1 := by omega
  have n2 : (ws.length : Int) + 1 ≤ (cap : Int) := by omega
  have n3 : (1 : Int) ≤ (cap : Int) := by omega
  have n4 : ((ws.length : Int) + 1 - 1).toNat = ws.length := by omega
  generalize S x = tx at *
  clear hW hP hrest hk
  have r4 := Row.new w #[.int .i64 0, .int .i64 0, .int .i64 0, .int .i64 0] 50
  have b4 := (Below.refl w.heap.size w).alloc (Nat.le_refl _) (.cells #[.int .i64 0, .int .i64 0, .int .i64 0, .int .i64 0] 50)
  go_enter Tryz.func169, Tryz.ntmps169
  go_wp2_with fail
  generalize w.alloc (.cells #[.int .i64 0, .int .i64 0, .int .i64 0, .int .i64 0] 50) = W0 at *
  refine (HP.out _).mono ?_
  rintro e w2 ⟨rfl, g2⟩
  have r5 := (r4.under g2).alloc (.cells #[.int .i64 F, .int .i64 A, .int .i64 B, .int .i64 C] 50)
  have b5 := (b4.trans (g2.mono b4.size)).alloc (Nat.le_trans b4.size g2.size) (.cells #[.int .i64 F, .int .i64 A, .int .i64 B, .int .i64 C] 50)
  have rn := Row.new w2 #[.int .i64 F, .int .i64 A, .int .i64 B, .int .i64 C] 50
  have hne : w.heap.size ≠ w2.heap.size := Nat.ne_of_lt (Nat.lt_of_lt_of_le r4.lt g2.size)
  go_upto_region 6 with fail
  generalize w2.alloc (.cells #[.int .i64 F, .int .i64 A, .int .i64 B, .int .i64 C] 50) = W5 at *
  generalize w2.heap.size = g7 at *
  clear r4 b4 c0 g2
  have f0 := r5.thaw 0
  have f1 := r5.thaw 1
  have f2 := r5.thaw 2
  have f3 := r5.thaw 3
  obtain ⟨q0, q1, q2, q3⟩ := row4 r5
  obtain ⟨p0, p1, p2, p3⟩ := row4 rn
  have HZ := Lib.hid ((set4_row (.int .i64 F) (.int .i64 A) (.int .i64 B) (.int .i64 C) r5).drew)
  have HB := Lib.hid b5
  have RN := Lib.hid rn
  clear r5 rn b5
  refine wp_region_held_drew (S := fun w' : World => w'.cell? ⟨g7, 0, none⟩ = some (.int .i64 F) ∧ w'.cell? ⟨g7, 1, none⟩ = some (.int .i64 A) ∧ w'.cell? ⟨g7, 2, none⟩ = some (.int .i64 B) ∧ w'.cell? ⟨g7, 3, none⟩ = some (.int .i64 C)) (by kernel_rfl) ⟨p0, p1, p2, p3⟩ (fun hHeld => ?_)
  refine wpAnyH_take (i := 0) (v := ?_) rfl (by kernel_rfl) (by kernel_rfl) (by kernel_rfl) (fun _ _ _ h => h) (Or.inl ⟨by rfl, ?_⟩) (by assumption) ?_
  case refine_2 => (intro wx hSx; (try dsimp only at hSx); go_simp; first | done | with_reducible rfl)
  try simp only [Act.put]
  refine wpAnyH_take (i := 1) (v := ?_) rfl (by kernel_rfl) (by kernel_rfl) (by kernel_rfl) (fun _ _ _ h => h) (Or.inl ⟨by rfl, ?_⟩) (by assumption) ?_
  case refine_2 => (intro wx hSx; (try dsimp only at hSx); go_simp; first | done | with_reducible rfl)
  try simp only [Act.put]
  refine wpAnyH_take (i := 2) (v := ?_) rfl (by kernel_rfl) (by kernel_rfl) (by kernel_rfl) (fun _ _ _ h => h) (Or.inl ⟨by rfl, ?_⟩) (by assumption) ?_
  case refine_2 => (intro wx hSx; (try dsimp only at hSx); go_simp; first | done | with_reducible rfl)
  try simp only [Act.put]
  refine wpAnyH_take (i := 3) (v := ?_) rfl (by kernel_rfl) (by kernel_rfl) (by kernel_rfl) (fun _ _ _ h => h) (Or.inl ⟨by rfl, ?_⟩) (by assumption) ?_
  case refine_2 => (intro wx hSx; (try dsimp only at hSx); go_simp; first | done | with_reducible rfl)
  try simp only [Act.put]
  refine wpAnyH_ready (rs := [4]) (by kernel_rfl) (by simp) ?_
  refine AllReadyH.cons (o := ⟨none, _, _, _, _, none⟩) rfl (fun K hK => ?_) AllReadyH.nil
  go_simp
  refine hK.out _ _ (row4 (set4_far _ _ _ _ RN.out.drew hne)) (fun hHeld2 => ?_)
  clear hK K hHeld
  try simp only [Act.put]
  refine wpAnyH_take (i := 5) (oi := ⟨some 5, _, _, _, _, none⟩) (v := ?_) rfl (by kernel_rfl) (by kernel_rfl) (by kernel_rfl) (fun _ _ _ h => h) (Or.inl ⟨by rfl, ?_⟩) (by assumption) ?_
  case refine_2 => (intro wx hSx; (try dsimp only at hSx); go_simp; first | done | with_reducible rfl)
  try simp only [Act.put]
  refine wpAnyH_take (i := 6) (oi := ⟨some 6, _, _, _, _, none⟩) (v := ?_) rfl (by kernel_rfl) (by kernel_rfl) (by kernel_rfl) (fun _ _ _ h => h) (Or.inl ⟨by rfl, ?_⟩) (by assumption) ?_
  case refine_2 => (intro wx hSx; (try dsimp only at hSx); go_simp; first | done | with_reducible rfl)
  try simp only [Act.put]
  refine wpAnyH_done (by kernel_rfl) ?_ _
  clear f0 f1 f2 f3 q0 q1 q2 q3 p0 p1 p2 p3
  go_wp2_with fail
  · have HF := Lib.hid (set4_below (u0 := .int .i64 F) (u1 := .int .i64 A) (u2 := .int .i64 B) (u3 := .int .i64 C) HB.out (Nat.le_refl _)).drew
    have l0 : ws.length = 0 := by omega
    exact bodyPost_ret (v := .tuple #[.agg #[.int .i64 F, .int .i64 A, .int .i64 B, .int .i64 C], .slice (some ⟨g, off, none⟩) ws.length 0, .int .i64 r]) (by obtain ⟨z0, z1, z2, z3⟩ := row4 HZ.out; simp [results, Tryz.results169, z0, z1, z2, z3, go_sem]) rfl
      ⟨_, rfl, ⟨_, 0, rfl, by omega, by omega, fun i hi => absurd hi (by omega)⟩, HF.out⟩
  · have HF := Lib.hid (set4_below (u0 := .int .i64 F) (u1 := .int .i64 A) (u2 := .int .i64 B) (u3 := .int .i64 C) HB.out (Nat.le_refl _)).drew
    exact bodyPost_ret (v := .tuple #[.agg #[.int .i64 F, .int .i64 A, .int .i64 B, .int .i64 C], .slice (some ⟨g, off + 1, none⟩) ws.length (cap - 1), .int .i64 r]) (by obtain ⟨z0, z1, z2, z3⟩ := row4 HZ.out; simp [results, Tryz.results169, z0, z1, z2, z3, go_sem]) rfl
      ⟨_, rfl, ⟨_, cap - 1, rfl, by omega, by omega, fun i hi => ⟨g, off + 1, rfl, Nat.lt_of_lt_of_le hg HF.out.size, by
        rw [show off + 1 + i = off + (i + 1) by omega]
        exact (HF.out.cell (p := ⟨g, off + (i + 1), none⟩) hg).trans (HR.out i hi)⟩⟩, HF.out⟩
set_option maxHeartbeats 400000 in
theorem readPl_none (k : Int) (hk : k ≠ 1) (A : Option Addr) (c : Nat) (w : World) :
    Calls Tryz.prog 169 #[.int .i64 k, .slice A 0 c] w fun e w' => e = .returned (.tuple #[.agg #[.int .i64 0, .int .i64 0, .int .i64 0, .int .i64 0], .slice none 0 0, .int .i64 3]) ∧ Below w.heap.size w w' := by
  have q : (k == 1) = false := beq_eq_false_iff_ne.2 hk
  clear hk
  have r4 := Row.new w #[.int .i64 0, .int .i64 0, .int .i64 0, .int .i64 0] 50
  have b4 := (Below.refl w.heap.size w).alloc (Nat.le_refl _) (.cells #[.int .i64 0, .int .i64 0, .int .i64 0, .int .i64 0] 50)
  go_enter Tryz.func169, Tryz.ntmps169
  go_upto_region 1 with fail
  generalize w.alloc (.cells #[.int .i64 0, .int .i64 0, .int .i64 0, .int .i64 0] 50) = W0 at *
  have f0 := r4.thaw 0
  have f1 := r4.thaw 1
  have f2 := r4.thaw 2
  have f3 := r4.thaw 3
  obtain ⟨q0, q1, q2, q3⟩ := row4 r4
  have HZ := Lib.hid (set4_row (.int .i64 0) (.int .i64 0) (.int .i64 0) (.int .i64 0) r4)
  have HB := Lib.hid b4
  clear r4 b4
  go_wp2_with fail
  clear f0 f1 f2 f3 q0 q1 q2 q3
  exact bodyPost_ret (v := .tuple #[.agg #[.int .i64 0, .int .i64 0, .int .i64 0, .int .i64 0], .slice none 0 0, .int .i64 3]) (by obtain ⟨z0, z1, z2, z3⟩ := row4 HZ.out; simp [results, Tryz.results169, z0, z1, z2, z3, go_sem]) rfl ⟨rfl, set4_below HB.out (Nat.le_refl _)⟩
set_option maxHeartbeats 2000000 in
theorem readRs_any (v : Value) (ws : List (List UInt8)) (w : World) (hW : WIn w v ws) (hE : Env w) (hl : ws.length ≤ 15) (hs : ∀ x ∈ ws, x.length ≤ 100000) :
    Calls Tryz.prog 170 #[v] w fun e w' => ∃ (u : Value) (r : Int), e = .returned (.tuple #[u, .int .i64 r]) ∧ ((r = 0 ∧ (∀ x ∈ ws, (eP x).2.2 = 0) ∧ Rl w (ws.map eRd) u w') ∨ (r ≠ 0 ∧ (∃ x ∈ ws, (eP x).2.2 ≠ 0) ∧ Below w.heap.size w w')) := by
  obtain ⟨i0, hi, hz0, hz1, hz2⟩ := info_parts El.infoReading
  obtain ⟨A, cap, rfl, h1, h2, h3⟩ := hW
  have H3 := Lib.hid h3
  have HS := Lib.hid hs
  clear h3 hs
  go_enter Tryz.func170, Tryz.ntmps170
  go_wp2_with fail
  go_loopw [4, 6, 7, 8, 11] (fun u _ _ _ t wr => ∃ k : Nat, k ≤ ws.length ∧ t = .int .i64 k ∧ (∀ x ∈ ws.take k, (eP x).2.2 = 0) ∧ Rl w ((ws.take k).map eRd) u wr) (fun _ _ _ _ t _ => ws.length - (intOf t).toNat)
  case atStart => exact ⟨0, Nat.zero_le _, rfl, fun x hx => by simp at hx, Below.refl _ _, World.ownsRow_nil _ _ _ _⟩
  case round =>
    obtain ⟨k, hk, rfl, hok, hr⟩ := hrel
    have HR := Lib.hid hr; clear hr
    have HOK := Lib.hid hok; clear hok
    by_cases hlt : k < ws.length
    · obtain ⟨g, off, rfl, hg, c0⟩ := H3.out k hlt
      have c0 := (HR.out.below.cell (p := ⟨g, off + k, none⟩) hg).trans c0
      have k0 : (0 : Int) ≤ (k : Int) := by omega
      have k1 : (k : Int) < (ws.length : Int) := by omega
      have x1 : IntKind.i64.wrap (k : Int) = (k : Int) := IntWalk.i64_in _ (by omega)
      have hsz := HS.out _ (List.getElem_mem hlt)
      have hmem := Lib.hid (List.getElem_mem hlt)
      have hn := Lib.hid (show ws.take (k + 1) = ws.take k ++ [ws[k]] from List.take_succ_eq_append_getElem hlt)
      have hml : ((ws.take k).map eRd).length ≤ 15 := by rw [List.length_map, List.length_take]; omega
      generalize ws[k] = x at *
      have HP := Lib.hid (eP_go x hsz _ (hE.under HR.out.below).el)
      have hx : eRd x = ((eP x).1, (eP x).2.1) := rfl
      have HX := Lib.hid hx; clear hx
      obtain ⟨er, her⟩ : ∃ r, (eP x).2.2 = r := ⟨_, rfl⟩
      rw [her] at HP
      have HER := Lib.hid her; clear her
      generalize (eP x).1 = x0 at *
      generalize (eP x).2.1 = x2 at *
      generalize S x = tx at *
      clear hsz
      go_wp2_with fail
      refine HP.out.mono ?_
      rintro e w6 ⟨rfl, g6⟩
      have r6 := Row.new w6 #[.int .i64 x0, .int .i64 x2] 99
      have R7 := Lib.hid ((HR.out.under g6).under ((Below.refl _ _).alloc (Nat.le_refl _) (.cells #[.int .i64 x0, .int .i64 x2] 99)))
      have R8 := Lib.hid (R7.out.under ((Below.refl _ _).alloc (Nat.le_refl _) (.cells #[.int .i64 x0, .int .i64 x2] 99)))
      obtain ⟨d0, d1⟩ := row2 r6
      clear HP g6 HR
      by_cases he : er = 0
      · subst he
        generalize hM : (ws.take k).map eRd = M at *
        have HM := Lib.hid hM; clear hM
        go_wp2_with (at_builtin; refine wpList_append_lies _ rfl (.tmp 23) (.tmp 25) 51 rfl w.heap.size 99 i0 _ 2 16 Tryz.underlying51 hi hz0 hz1 hz2 rfl (by decide) «u4» M.length (El.rdc M) rfl R8.out.own ⟨w6.heap.size + 1, 0, none⟩ 1 1 [.int .i64 x0, .int .i64 x2] rfl rfl (World.news_of_block (cs := #[.int .i64 x0, .int .i64 x2]) (t := 99) (fr := (0, 0)) (by have := heap_alloc_new (w6.alloc (.cells #[.int .i64 x0, .int .i64 x2] 99)) (.cells #[.int .i64 x0, .int .i64 x2] 99); simpa using this)) (by simp [Value.oneCell']) (by omega) (by unfold maxLen; omega) (by omega) R8.out.below.size (w6.heap.size + 2) (by simp) ?_; intro g' cap' w8 hown8 hgrow8 hat8 hlt8; have R9 := Lib.hid (R8.out.more (x := (x0, x2)) hown8 hgrow8); clear hown8 hgrow8 hat8 hlt8)
        go_roundw
        case rel =>
          refine ⟨k + 1, by omega, by go_num, fun y hy => ?_, ?_⟩
          · rw [hn.out] at hy
            rcases List.mem_append.1 hy with hy | hy
            · exact HOK.out y hy
            · rw [List.mem_singleton.1 hy]; exact HER.out
          · rw [hn.out, List.map_append, HM.out, List.map_cons, List.map_nil, HX.out]; exact R9.out
        case measure => simp [intOf]; omega
      · have q : (er != 0) = true := by rw [bne_iff_ne]; exact he
        have HB := Lib.hid R7.out.below
        have HE' := Lib.hid he
        clear R8 he
        go_wp2_with fail
        go_ret2
        exact ⟨_, er, rfl, .inr ⟨HE'.out, ⟨x, hmem.out, by rw [HER.out]; exact HE'.out⟩, HB.out⟩⟩
    · have hke : k = ws.length := by omega
      have k1 : ¬ ((k : Int) < (ws.length : Int)) := by omega
      subst hke
      rw [List.take_length] at HR HOK
      go_wp2_with fail
      go_ret2
      exact ⟨_, 0, rfl, .inl ⟨rfl, HOK.out, HR.out⟩⟩
end Go.Proofs.YtfnlgfacadmjpaaGreatDoor
namespace Go.Proofs.YtfnlgfacadmjpaaGreatDoor
open Go.RowKit

/-- What stands behind the time: a place, or none, and the readings' words. -/
def Plx (k : Int) (rest : List (List UInt8)) (F A B C : Int) (rs : List (List UInt8)) : Prop :=
  (k = 1 ∧ F = 0 ∧ A = 0 ∧ B = 0 ∧ C = 0 ∧ rest = rs) ∨ (k ≠ 1 ∧ ∃ x, rest = x :: rs ∧ pP x = (F, A, B, C, 0))
/-- These words are a report's, near a minute. -/
def Rdd (ws : List (List UInt8)) (near k : Int) (nm : List UInt8) (t F A B C : Int) (L : List El.Elt.R) : Prop :=
  ∃ st rest rs, ws = kw k :: nm :: st :: rest ∧ (1 ≤ k ∧ k ≤ 3) ∧ Stm st near t ∧ Plx k rest F A B C rs ∧ (∀ y ∈ rs, (eP y).2.2 = 0) ∧ L = rs.map eRd
theorem Plx.sub {k : Int} {rest rs : List (List UInt8)} {F A B C : Int} (h : Plx k rest F A B C rs) : (∀ y ∈ rs, y ∈ rest) ∧ rs.length ≤ rest.length := by
  rcases h with ⟨-, -, -, -, -, rfl⟩ | ⟨-, x, rfl, -⟩
  · exact ⟨fun y h => h, Nat.le_refl _⟩
  · exact ⟨fun y h => List.mem_cons_of_mem _ h, by simp⟩
theorem Plx.one {k : Int} {rest rs rs' : List (List UInt8)} {F A B C F' A' B' C' : Int} (h : Plx k rest F A B C rs) (h' : Plx k rest F' A' B' C' rs') : rs = rs' := by
  rcases h with ⟨e, -, -, -, -, rfl⟩ | ⟨e, x, rfl, -⟩
  · rcases h' with ⟨-, -, -, -, -, e2⟩ | ⟨e2, -⟩
    · exact e2
    · exact absurd e e2
  · rcases h' with ⟨e2, -⟩ | ⟨-, y, e3, -⟩
    · exact absurd e2 e
    · injection e3
theorem readPl_any (k : Int) (g off cap : Nat) (rest : List (List UInt8)) (w : World) (hW : WIn w (.slice (some ⟨g, off, none⟩) rest.length cap) rest) :
    Calls Tryz.prog 169 #[.int .i64 k, .slice (some ⟨g, off, none⟩) rest.length cap] w fun e w' => ∃ (F A B C r : Int) (v' : Value), e = .returned (.tuple #[.agg #[.int .i64 F, .int .i64 A, .int .i64 B, .int .i64 C], v', .int .i64 r]) ∧ Below w.heap.size w w' ∧
      ((r = 0 ∧ ∃ rs, WIn w' v' rs ∧ Plx k rest F A B C rs) ∨ (r ≠ 0 ∧ ∀ F A B C rs, ¬ Plx k rest F A B C rs)) := by
  by_cases hk : k = 1
  · subst hk
    exact (readPl_land _ w).mono fun e w' ⟨he, hg⟩ => ⟨0, 0, 0, 0, 0, _, he, hg, .inl ⟨rfl, rest, hW.under hg, .inl ⟨rfl, rfl, rfl, rfl, rfl, rfl⟩⟩⟩
  · cases rest with
    | nil =>
      refine (readPl_none k hk (some ⟨g, off, none⟩) cap w).mono fun e w' ⟨he, hg⟩ => ⟨0, 0, 0, 0, 3, _, he, hg, .inr ⟨by decide, fun F A B C rs h => ?_⟩⟩
      rcases h with ⟨e, -⟩ | ⟨-, x, e, -⟩
      · exact hk e
      · cases e
    | cons x rs =>
      refine (readPl_word k hk _ x _ _ _ _ _ rs w hW (pP_go x)).mono fun e w' ⟨v', he, hw, hg⟩ => ⟨_, _, _, _, _, v', he, hg, ?_⟩
      by_cases hr : (pP x).2.2.2.2 = 0
      · exact .inl ⟨hr, rs, hw, .inr ⟨hk, x, rfl, by rw [← hr]⟩⟩
      · refine .inr ⟨hr, fun F A B C rs' h => ?_⟩
        rcases h with ⟨e, -⟩ | ⟨-, y, e, hy⟩
        · exact hk e
        · injection e with e1 e2
          subst e1
          rw [hy] at hr
          exact hr rfl
/-- What read leaves. -/
def RdO (ws : List (List UInt8)) (near : Int) (w : World) (e : Ending) (w' : World) : Prop :=
  (∃ (k : Int) (nm : List UInt8) (t F A B C : Int) (L : List El.Elt.R) (u : Value), Rdd ws near k nm t F A B C L ∧ e = .returned (.tuple #[repV k (S nm) t F A B C u, .int .i64 0]) ∧ El.RdIn w' u L ∧ (∀ i, u.ownBlock = some i → w.heap.size ≤ i) ∧ Below w.heap.size w w') ∨
  ((∀ k nm t F A B C L, ¬ Rdd ws near k nm t F A B C L) ∧ ∃ r : Int, r ≠ 0 ∧ e = .returned (.tuple #[repV 0 ⟨#[]⟩ 0 0 0 0 0 (.slice none 0 0), .int .i64 r]) ∧ Below w.heap.size w w')
theorem kw_cases (s : List UInt8) : (∃ k : Int, (1 ≤ k ∧ k ≤ 3) ∧ s = kw k) ∨ (S s ≠ S (kw 1) ∧ S s ≠ S (kw 2) ∧ S s ≠ S (kw 3)) := by
  by_cases h1 : s = kw 1
  · exact .inl ⟨1, by omega, h1⟩
  · by_cases h2 : s = kw 2
    · exact .inl ⟨2, by omega, h2⟩
    · by_cases h3 : s = kw 3
      · exact .inl ⟨3, by omega, h3⟩
      · exact .inr ⟨fun e => h1 (S_inj e), fun e => h2 (S_inj e), fun e => h3 (S_inj e)⟩
theorem kw_inj {k k' : Int} (h : 1 ≤ k ∧ k ≤ 3) (h' : 1 ≤ k' ∧ k' ≤ 3) (e : kw k = kw k') : k = k' := by
  rcases (by omega : k = 1 ∨ k = 2 ∨ k = 3) with rfl | rfl | rfl <;> rcases (by omega : k' = 1 ∨ k' = 2 ∨ k' = 3) with rfl | rfl | rfl <;> first | rfl | exact absurd e (by decide)
set_option maxRecDepth 100000 in
set_option maxHeartbeats 4000000 in
theorem read_any (ws : List (List UInt8)) (near : Int) (g off cap : Nat) (w : World) (hE : Env w) (hn : 0 ≤ near ∧ near ≤ 52595999) (hcap : 4 ≤ cap ∨ ws.length < 3 ∨ ∀ x ∈ ws, x = []) (hl : ws.length ≤ 15) (hs : ∀ x ∈ ws, x.length ≤ 100000)
    (hW : WIn w (.slice (some ⟨g, off, none⟩) ws.length cap) ws) :
    Calls Tryz.prog 140 #[.slice (some ⟨g, off, none⟩) ws.length cap, .int .i64 near] w (RdO ws near w) := by
  have b4 := (Below.refl w.heap.size w).alloc (Nat.le_refl _) (.cells (repC 0 ⟨#[]⟩ 0 0 0 0 0 (.slice none 0 0)) 53)
  have r4 := Row.new w (repC 0 ⟨#[]⟩ 0 0 0 0 0 (.slice none 0 0)) 53
  have hE4 := hE.under b4
  by_cases h3 : ws.length < 3
  · have n1 : (ws.length : Int) < 3 := by omega
    have hno : ∀ k nm t F A B C L, ¬ Rdd ws near k nm t F A B C L := fun k nm t F A B C L ⟨st, rest, rs, e, _⟩ => by rw [e] at h3; simp at h3; omega
    have HNO := Lib.hid hno
    clear hno h3 hcap hl hs hW hE hE4 hn
    go_enter Tryz.func140, Tryz.ntmps140
    go_upto_region 1 with fail
    generalize w.alloc (.cells (repC 0 ⟨#[]⟩ 0 0 0 0 0 (.slice none 0 0)) 53) = W0 at *
    have f0 := r4.thaw 0
    have f1 := r4.thaw 1
    have f2 := r4.thaw 2
    have f3 := r4.thaw 3
    have f4 := r4.thaw 4
    have f5 := r4.thaw 5
    have f6 := r4.thaw 6
    have f7 := r4.thaw 7
    obtain ⟨q0, q1, q2, q3, q4, q5, q6, q7⟩ := row8 r4
    have HZ := Lib.hid (set8_row (.int .i64 0) (.string ⟨#[]⟩) (.int .i64 0) (.int .i64 0) (.int .i64 0) (.int .i64 0) (.int .i64 0) (.slice none 0 0) r4)
    have HF := Lib.hid (set8_below (u0 := .int .i64 0) (u1 := .string ⟨#[]⟩) (u2 := .int .i64 0) (u3 := .int .i64 0) (u4 := .int .i64 0) (u5 := .int .i64 0) (u6 := .int .i64 0) (u7 := .slice none 0 0) b4 (Nat.le_refl _))
    clear b4 r4
    go_wp2_with fail
    clear f0 f1 f2 f3 f4 f5 f6 f7 q0 q1 q2 q3 q4 q5 q6 q7
    exact bodyPost_ret (v := .tuple #[repV 0 ⟨#[]⟩ 0 0 0 0 0 (.slice none 0 0), .int .i64 3]) (by obtain ⟨z0, z1, z2, z3, z4, z5, z6, z7⟩ := row8 HZ.out; simp [results, Tryz.results140, z0, z1, z2, z3, z4, z5, z6, z7, go_sem]) rfl (.inr ⟨HNO.out, 3, by omega, rfl, HF.out⟩)
  obtain ⟨x0, x1, x2, rest, rfl⟩ : ∃ a b c r, ws = a :: b :: c :: r := by
    rcases ws with _ | ⟨a, _ | ⟨b, _ | ⟨c, r⟩⟩⟩
    · exact absurd (by simp) h3
    · exact absurd (by simp) h3
    · exact absurd (by simp) h3
    · exact ⟨a, b, c, r, rfl⟩
  clear h3
  have hcap : 4 ≤ cap ∨ x0 = [] := by
    rcases hcap with h | h | h
    · exact .inl h
    · simp at h; omega
    · exact .inr (h x0 (by simp))
  obtain ⟨A', cap', he, h1, h2, h3⟩ := hW
  obtain ⟨rfl, rfl⟩ : (some ⟨g, off, none⟩ : Option Addr) = A' ∧ cap = cap' := by injection he with e1 e2 e3; exact ⟨e1, e3⟩
  clear he
  have key : ∀ i (h : i < (x0 :: x1 :: x2 :: rest).length), g < w.heap.size ∧ w.cell? ⟨g, off + i, none⟩ = some (.string (S (x0 :: x1 :: x2 :: rest)[i])) := fun i hi => by
    obtain ⟨g', off', e, hg, hc⟩ := h3 i hi
    obtain ⟨rfl, rfl⟩ : g = g' ∧ off = off' := by injection e with e; injection e with e1 e2; exact ⟨e1, e2⟩
    exact ⟨hg, hc⟩
  have hg := (key 0 (by simp)).1
  have c0 : w.cell? ⟨g, off, none⟩ = some (.string (S x0)) := (key 0 (by simp)).2
  have c1 : w.cell? ⟨g, off + 1, none⟩ = some (.string (S x1)) := (key 1 (by simp)).2
  have c2 : w.cell? ⟨g, off + 2, none⟩ = some (.string (S x2)) := (key 2 (by simp)).2
  have HR := Lib.hid (show ∀ i (h : i < rest.length), w.cell? ⟨g, off + (i + 3), none⟩ = some (.string (S rest[i])) from fun i hi => (key (i + 3) (by simp; omega)).2)
  have hlen : (x0 :: x1 :: x2 :: rest).length = rest.length + 3 := by simp
  rw [hlen] at h1 hl ⊢
  have hsr := Lib.hid (show ∀ y ∈ rest, y.length ≤ 100000 from fun y hy => hs y (by simp [hy]))
  clear h3 key hlen hs
  have n1 : ¬ ((rest.length : Int) + 3 < 3) := by omega
  have n2 : (3 : Int) ≤ (rest.length : Int) + 3 := by omega
  have n3 : (rest.length : Int) + 3 ≤ (cap : Int) := by omega
  have n6 : ((rest.length : Int) + 3 - 3).toNat = rest.length := by omega
  have C0 := Lib.hid c0
  have C1 := Lib.hid c1
  have C2 := Lib.hid c2
  have HS := Lib.hid (fun W hT => stampP_any x2 near W hT hn)
  have HP := Lib.hid (fun k W hw => readPl_any k g (off + 3) (cap - 3) rest W hw)
  clear hE
  rcases kw_cases x0 with ⟨k, hk, rfl⟩ | ⟨k1, k2, k3⟩
  case inr =>
    have HNO := Lib.hid (show ∀ k nm t F A B C L, ¬ Rdd (x0 :: x1 :: x2 :: rest) near k nm t F A B C L from fun k nm t F A B C L ⟨st, rest', rs, e, hk, _⟩ => by
      injection e with e1 e2
      subst e1
      rcases kind_cases hk with rfl | rfl | rfl
      · exact k1 rfl
      · exact k2 rfl
      · exact k3 rfl)
    have HK := Lib.hid (fun W hE => kindOf_no (S x0) W hE k1 k2 k3)
    clear k1 k2 k3
    generalize S x0 = wk at *
    generalize S x1 = nm at *
    generalize S x2 = wst at *
    go_enter Tryz.func140, Tryz.ntmps140
    go_wp2_with fail
    generalize w.alloc (.cells (repC 0 ⟨#[]⟩ 0 0 0 0 0 (.slice none 0 0)) 53) = W0 at *
    refine (HK.out _ hE4).mono ?_
    rintro e w1 ⟨rfl, rfl⟩
    clear c0 c1 c2
    have f0 := r4.thaw 0
    have f1 := r4.thaw 1
    have f2 := r4.thaw 2
    have f3 := r4.thaw 3
    have f4 := r4.thaw 4
    have f5 := r4.thaw 5
    have f6 := r4.thaw 6
    have f7 := r4.thaw 7
    obtain ⟨q0, q1, q2, q3, q4, q5, q6, q7⟩ := row8 r4
    have HZ := Lib.hid (set8_row (.int .i64 0) (.string ⟨#[]⟩) (.int .i64 0) (.int .i64 0) (.int .i64 0) (.int .i64 0) (.int .i64 0) (.slice none 0 0) r4)
    have HF := Lib.hid (set8_below (u0 := .int .i64 0) (u1 := .string ⟨#[]⟩) (u2 := .int .i64 0) (u3 := .int .i64 0) (u4 := .int .i64 0) (u5 := .int .i64 0) (u6 := .int .i64 0) (u7 := .slice none 0 0) b4 (Nat.le_refl _))
    clear b4 r4
    go_wp2_with fail
    clear f0 f1 f2 f3 f4 f5 f6 f7 q0 q1 q2 q3 q4 q5 q6 q7
    exact bodyPost_ret (v := .tuple #[repV 0 ⟨#[]⟩ 0 0 0 0 0 (.slice none 0 0), .int .i64 3]) (by obtain ⟨z0, z1, z2, z3, z4, z5, z6, z7⟩ := row8 HZ.out; simp [results, Tryz.results140, z0, z1, z2, z3, z4, z5, z6, z7, go_sem]) rfl (.inr ⟨HNO.out, 3, by omega, rfl, HF.out⟩)
  have HK := Lib.hid (fun W hE => kindOf_yes k hk W hE)
  have HKK := Lib.hid hk
  have hc4 : 4 ≤ cap := by
    rcases hcap with h | h
    · exact h
    · rcases kind_cases hk with rfl | rfl | rfl <;> exact absurd h (by decide)
  have n4 : (3 : Int) < (cap : Int) := by omega
  have n5 : ¬ (cap - 3 = 0) := by omega
  clear hcap
  generalize hwk : S (kw k) = wk at *
  generalize hwn : S x1 = nm at *
  generalize S x2 = wst at *
  have HWN := Lib.hid hwn
  clear hwk hwn hk
  go_enter Tryz.func140, Tryz.ntmps140
  go_wp2_with fail
  generalize w.alloc (.cells (repC 0 ⟨#[]⟩ 0 0 0 0 0 (.slice none 0 0)) 53) = W0 at *
  refine (HK.out _ hE4).mono ?_
  rintro e w1 ⟨rfl, rfl⟩
  have d2 := (b4.cell (p := ⟨g, off + 2, none⟩) hg).trans C2.out
  clear c0 c1 c2
  go_wp2_with fail
  refine (HS.out _ hE4.ck).mono ?_
  rintro e w2 ⟨hst, g2⟩
  have b5 := b4.trans (g2.mono b4.size)
  have r5 := r4.under g2
  have hE5 := hE4.under g2
  clear g2 b4 r4 hE4 d2 HK HS
  rcases hst with ⟨a, hst, rfl⟩ | ⟨hst, rfl⟩
  case inr =>
    have HNO := Lib.hid (show ∀ k' nm t F A B C L, ¬ Rdd (kw k :: x1 :: x2 :: rest) near k' nm t F A B C L from fun k' nm t F A B C L ⟨st, rest', rs, e, _, hs, _⟩ => by
      injection e with e1 e2
      injection e2 with e2 e3
      injection e3 with e3 e4
      subst e3
      exact hst _ hs)
    clear hst hE5
    have f0 := r5.thaw 0
    have f1 := r5.thaw 1
    have f2 := r5.thaw 2
    have f3 := r5.thaw 3
    have f4 := r5.thaw 4
    have f5 := r5.thaw 5
    have f6 := r5.thaw 6
    have f7 := r5.thaw 7
    obtain ⟨q0, q1, q2, q3, q4, q5, q6, q7⟩ := row8 r5
    have HZ := Lib.hid (set8_row (.int .i64 0) (.string ⟨#[]⟩) (.int .i64 0) (.int .i64 0) (.int .i64 0) (.int .i64 0) (.int .i64 0) (.slice none 0 0) r5)
    have HF := Lib.hid (set8_below (u0 := .int .i64 0) (u1 := .string ⟨#[]⟩) (u2 := .int .i64 0) (u3 := .int .i64 0) (u4 := .int .i64 0) (u5 := .int .i64 0) (u6 := .int .i64 0) (u7 := .slice none 0 0) b5 (Nat.le_refl _))
    clear b5 r5
    go_wp2_with fail
    clear f0 f1 f2 f3 f4 f5 f6 f7 q0 q1 q2 q3 q4 q5 q6 q7
    exact bodyPost_ret (v := .tuple #[repV 0 ⟨#[]⟩ 0 0 0 0 0 (.slice none 0 0), .int .i64 3]) (by obtain ⟨z0, z1, z2, z3, z4, z5, z6, z7⟩ := row8 HZ.out; simp [results, Tryz.results140, z0, z1, z2, z3, z4, z5, z6, z7, go_sem]) rfl (.inr ⟨HNO.out, 3, by omega, rfl, HF.out⟩)
  have HST := Lib.hid hst; clear hst
  have hwi : WIn w2 (.slice (some ⟨g, off + 3, none⟩) rest.length (cap - 3)) rest := ⟨_, _, rfl, by omega, by omega, fun i hi => ⟨g, off + 3, rfl, Nat.lt_of_lt_of_le hg b5.size, by
    rw [show off + 3 + i = off + (i + 3) by omega]
    exact (b5.cell (p := ⟨g, off + (i + 3), none⟩) hg).trans (HR.out i hi)⟩⟩
  go_wp2_with fail
  refine (HP.out _ _ hwi).mono ?_
  rintro e w3 ⟨F, A, B, C, r, v', rfl, g3, hpl⟩
  have b6 := (b5.trans (g3.mono b5.size)).alloc (Nat.le_trans b5.size g3.size) (.cells #[.int .i64 F, .int .i64 A, .int .i64 B, .int .i64 C] 50)
  have r6 := (r5.under g3).alloc (.cells #[.int .i64 F, .int .i64 A, .int .i64 B, .int .i64 C] 50)
  have rp := Row.new w3 #[.int .i64 F, .int .i64 A, .int .i64 B, .int .i64 C] 50
  have hE6 := (hE5.under g3).alloc (.cells #[.int .i64 F, .int .i64 A, .int .i64 B, .int .i64 C] 50)
  have hne : w.heap.size ≠ w3.heap.size := Nat.ne_of_lt (Nat.lt_of_lt_of_le r5.lt g3.size)
  clear b5 r5 hE5 hwi HP
  rcases hpl with ⟨rfl, rs, hw3, hpl⟩ | ⟨hr, hpl⟩
  case inr =>
    have HNO := Lib.hid (show ∀ k' nm t F A B C L, ¬ Rdd (kw k :: x1 :: x2 :: rest) near k' nm t F A B C L from fun k' nm t F A B C L ⟨st, rest', rs, e, hk', _, hp, _⟩ => by
      injection e with e1 e2
      injection e2 with e2 e3
      injection e3 with e3 e4
      subst e4
      rw [← kw_inj HKK.out hk' e1] at hp
      exact hpl _ _ _ _ _ hp)
    have q : (r != 0) = true := by rw [bne_iff_ne]; exact hr
    have HRN := Lib.hid hr
    clear hpl g3 hE6 rp hne hr
    go_upto_region 10 with fail
    generalize w3.alloc (.cells #[.int .i64 F, .int .i64 A, .int .i64 B, .int .i64 C] 50) = W6 at *
    have f0 := r6.thaw 0
    have f1 := r6.thaw 1
    have f2 := r6.thaw 2
    have f3 := r6.thaw 3
    have f4 := r6.thaw 4
    have f5 := r6.thaw 5
    have f6 := r6.thaw 6
    have f7 := r6.thaw 7
    obtain ⟨q0, q1, q2, q3, q4, q5, q6, q7⟩ := row8 r6
    have HZ := Lib.hid (set8_row (.int .i64 0) (.string ⟨#[]⟩) (.int .i64 0) (.int .i64 0) (.int .i64 0) (.int .i64 0) (.int .i64 0) (.slice none 0 0) r6)
    have HF := Lib.hid (set8_below (u0 := .int .i64 0) (u1 := .string ⟨#[]⟩) (u2 := .int .i64 0) (u3 := .int .i64 0) (u4 := .int .i64 0) (u5 := .int .i64 0) (u6 := .int .i64 0) (u7 := .slice none 0 0) b6 (Nat.le_refl _))
    clear r6 b6
    go_wp2_with fail
    clear f0 f1 f2 f3 f4 f5 f6 f7 q0 q1 q2 q3 q4 q5 q6 q7
    exact bodyPost_ret (v := .tuple #[repV 0 ⟨#[]⟩ 0 0 0 0 0 (.slice none 0 0), .int .i64 r]) (by obtain ⟨z0, z1, z2, z3, z4, z5, z6, z7⟩ := row8 HZ.out; simp [results, Tryz.results140, z0, z1, z2, z3, z4, z5, z6, z7, go_sem]) rfl (.inr ⟨HNO.out, r, HRN.out, rfl, HF.out⟩)
  have hw6 := hw3.under ((Below.refl _ _).alloc (Nat.le_refl _) (.cells #[.int .i64 F, .int .i64 A, .int .i64 B, .int .i64 C] 50))
  have HPL := Lib.hid hpl
  have HL := Lib.hid (fun W hw hE => readRs_any v' rs W hw hE (by have := hpl.sub.2; omega) (fun y hy => hsr.out y (hpl.sub.1 y hy)))
  clear g3 hw3 hpl
  go_upto_region 12 with fail
  generalize w3.alloc (.cells #[.int .i64 F, .int .i64 A, .int .i64 B, .int .i64 C] 50) = W6 at *
  generalize w3.heap.size = gp at *
  go_wp2_with fail
  refine (HL.out _ hw6 hE6).mono ?_
  rintro e w7 ⟨u, r, rfl, ⟨rfl, hok, hR7⟩ | ⟨hr, hbad, g7⟩⟩
  case inr =>
    have b7 := b6.trans (g7.mono b6.size)
    have r7 := r6.under g7
    have HNO := Lib.hid (show ∀ k' nm t F A B C L, ¬ Rdd (kw k :: x1 :: x2 :: rest) near k' nm t F A B C L from fun k' nm t F' A' B' C' L ⟨st, rest', rs', e, hk', _, hp, ho, _⟩ => by
      injection e with e1 e2
      injection e2 with e2 e3
      injection e3 with e3 e4
      subst e4
      rw [← kw_inj HKK.out hk' e1] at hp
      obtain ⟨y, hy, hyb⟩ := hbad
      rw [HPL.out.one hp] at hy
      exact hyb (ho y hy))
    have q : (r != 0) = true := by rw [bne_iff_ne]; exact hr
    have HRN := Lib.hid hr
    clear hr hbad g7 b6 r6 rp hE6 hw6 HL hne
    have f0 := r7.thaw 0
    have f1 := r7.thaw 1
    have f2 := r7.thaw 2
    have f3 := r7.thaw 3
    have f4 := r7.thaw 4
    have f5 := r7.thaw 5
    have f6 := r7.thaw 6
    have f7 := r7.thaw 7
    obtain ⟨q0, q1, q2, q3, q4, q5, q6, q7⟩ := row8 r7
    have HZ := Lib.hid (set8_row (.int .i64 0) (.string ⟨#[]⟩) (.int .i64 0) (.int .i64 0) (.int .i64 0) (.int .i64 0) (.int .i64 0) (.slice none 0 0) r7)
    have HF := Lib.hid (set8_below (u0 := .int .i64 0) (u1 := .string ⟨#[]⟩) (u2 := .int .i64 0) (u3 := .int .i64 0) (u4 := .int .i64 0) (u5 := .int .i64 0) (u6 := .int .i64 0) (u7 := .slice none 0 0) b7 (Nat.le_refl _))
    clear r7 b7
    go_wp2_with fail
    clear f0 f1 f2 f3 f4 f5 f6 f7 q0 q1 q2 q3 q4 q5 q6 q7
    exact bodyPost_ret (v := .tuple #[repV 0 ⟨#[]⟩ 0 0 0 0 0 (.slice none 0 0), .int .i64 r]) (by obtain ⟨z0, z1, z2, z3, z4, z5, z6, z7⟩ := row8 HZ.out; simp [results, Tryz.results140, z0, z1, z2, z3, z4, z5, z6, z7, go_sem]) rfl (.inr ⟨HNO.out, r, HRN.out, rfl, HF.out⟩)
  have g7 := hR7.below
  have b7 := b6.trans (g7.mono b6.size)
  have r7 := r6.under g7
  have rp7 := rp.under g7
  have d1 := (b7.cell (p := ⟨g, off + 1, none⟩) hg).trans C1.out
  have HYES := Lib.hid (show Rdd (kw k :: x1 :: x2 :: rest) near k x1 a F A B C (rs.map eRd) from ⟨x2, rest, rs, rfl, HKK.out, HST.out, HPL.out, hok, rfl⟩)
  clear hok
  generalize rs.map eRd = L at *
  have HRd : Hid (El.RdIn w7 u L) := Lib.hid (El.RdIn.own hR7.own)
  obtain ⟨Au, cu, rfl, -⟩ := id HRd.out
  have HO := Lib.hid (fun i (e : (Value.slice Au L.length cu).ownBlock = some i) => (show w.heap.size < i from (Nat.lt_of_lt_of_le r6.lt (hR7.own.lt i e).1)))
  clear b6 r6 rp hE6 hw6 g7 hR7 HL
  go_upto_region 15 with fail
  have f0 := r7.thaw 0
  have f1 := r7.thaw 1
  have f2 := r7.thaw 2
  have f3 := r7.thaw 3
  have f4 := r7.thaw 4
  have f5 := r7.thaw 5
  have f6 := r7.thaw 6
  have f7 := r7.thaw 7
  obtain ⟨q0, q1, q2, q3, q4, q5, q6, q7⟩ := row8 r7
  obtain ⟨p0, p1, p2, p3⟩ := row4 rp7
  have HZ := Lib.hid (set8_row (.int .i64 k) (.string nm) (.int .i64 a) (.int .i64 F) (.int .i64 A) (.int .i64 B) (.int .i64 C) (.slice Au L.length cu) r7).drew
  have HF := Lib.hid (set8_below (u0 := .int .i64 k) (u1 := .string nm) (u2 := .int .i64 a) (u3 := .int .i64 F) (u4 := .int .i64 A) (u5 := .int .i64 B) (u6 := .int .i64 C) (u7 := .slice Au L.length cu) b7 (Nat.le_refl _)).drew
  have HQ := Lib.hid (set8_far (.int .i64 k) (.string nm) (.int .i64 a) (.int .i64 F) (.int .i64 A) (.int .i64 B) (.int .i64 C) (.slice Au L.length cu) rp7 hne).drew
  have RP := Lib.hid rp7
  have B7 := Lib.hid b7
  have D1 := Lib.hid d1
  clear r7 rp7 b7
  have xw : IntKind.i64.wrap 1 = 1 := by decide
  have n7 : (1 : Int) < (rest.length : Int) + 3 := by omega
  refine wp_region_held_drew (S := fun w' : World => w'.cell? ⟨g, off + 1, none⟩ = some (.string nm) ∧ w'.cell? ⟨gp, 0, none⟩ = some (.int .i64 F) ∧ w'.cell? ⟨gp, 1, none⟩ = some (.int .i64 A) ∧ w'.cell? ⟨gp, 2, none⟩ = some (.int .i64 B) ∧ w'.cell? ⟨gp, 3, none⟩ = some (.int .i64 C)) (by kernel_rfl) ⟨d1, p0, p1, p2, p3⟩ (fun hHeld => ?_)
  refine wpAnyH_take (i := 0) (v := ?_) rfl (by kernel_rfl) (by kernel_rfl) (by kernel_rfl) (fun _ _ _ h => h) (Or.inl ⟨by rfl, ?_⟩) (by assumption) ?_
  case refine_2 => (intro wx hSx; (try dsimp only at hSx); go_simp; first | done | with_reducible rfl)
  try simp only [Act.put]
  refine wpAnyH_take (i := 1) (v := ?_) rfl (by kernel_rfl) (by kernel_rfl) (by kernel_rfl) (fun _ _ _ h => h) (Or.inl ⟨by rfl, ?_⟩) (by assumption) ?_
  case refine_2 => (intro wx hSx; (try dsimp only at hSx); go_simp; first | done | with_reducible rfl)
  try simp only [Act.put]
  refine wpAnyH_take (i := 2) (v := ?_) rfl (by kernel_rfl) (by kernel_rfl) (by kernel_rfl) (fun _ _ _ h => h) (Or.inl ⟨by rfl, ?_⟩) (by assumption) ?_
  case refine_2 => (intro wx hSx; (try dsimp only at hSx); go_simp; first | done | with_reducible rfl)
  try simp only [Act.put]
  refine wpAnyH_take (i := 3) (v := ?_) rfl (by kernel_rfl) (by kernel_rfl) (by kernel_rfl) (fun _ _ _ h => h) (Or.inl ⟨by rfl, ?_⟩) (by assumption) ?_
  case refine_2 => (intro wx hSx; (try dsimp only at hSx); go_simp; first | done | with_reducible rfl)
  try simp only [Act.put]
  refine wpAnyH_take (i := 4) (v := ?_) rfl (by kernel_rfl) (by kernel_rfl) (by kernel_rfl) (fun _ _ _ h => h) (Or.inl ⟨by rfl, ?_⟩) (by assumption) ?_
  case refine_2 => (intro wx hSx; (try dsimp only at hSx); go_simp; first | done | with_reducible rfl)
  try simp only [Act.put]
  refine wpAnyH_take (i := 5) (v := ?_) rfl (by kernel_rfl) (by kernel_rfl) (by kernel_rfl) (fun _ _ _ h => h) (Or.inl ⟨by rfl, ?_⟩) (by assumption) ?_
  case refine_2 => (intro wx hSx; (try dsimp only at hSx); go_simp; first | done | with_reducible rfl)
  try simp only [Act.put]
  refine wpAnyH_take (i := 6) (v := ?_) rfl (by kernel_rfl) (by kernel_rfl) (by kernel_rfl) (fun _ _ _ h => h) (Or.inl ⟨by rfl, ?_⟩) (by assumption) ?_
  case refine_2 => (intro wx hSx; (try dsimp only at hSx); go_simp; first | done | with_reducible rfl)
  try simp only [Act.put]
  refine wpAnyH_take (i := 7) (v := ?_) rfl (by kernel_rfl) (by kernel_rfl) (by kernel_rfl) (fun _ _ _ h => h) (Or.inl ⟨by rfl, ?_⟩) (by assumption) ?_
  case refine_2 => (intro wx hSx; (try dsimp only at hSx); go_simp; first | done | with_reducible rfl)
  try simp only [Act.put]
  refine wpAnyH_ready (rs := [8]) (by kernel_rfl) (by simp) ?_
  refine AllReadyH.cons (o := ⟨none, _, _, _, _, none⟩) rfl (fun K hK => ?_) AllReadyH.nil
  go_simp
  refine hK.out _ _ ⟨(HF.out.cell (p := ⟨g, off + 1, none⟩) hg).trans C1.out, row4 HQ.out⟩ (fun hHeld2 => ?_)
  clear hK K hHeld
  try simp only [Act.put]
  refine wpAnyH_take (i := 9) (oi := ⟨some 5, _, _, _, _, none⟩) (v := ?_) rfl (by kernel_rfl) (by kernel_rfl) (by kernel_rfl) (fun _ _ _ h => h) (Or.inl ⟨by rfl, ?_⟩) (by assumption) ?_
  case refine_2 => (intro wx hSx; (try dsimp only at hSx); go_simp; first | done | with_reducible rfl)
  try simp only [Act.put]
  refine wpAnyH_done (by kernel_rfl) ?_ _
  clear f0 f1 f2 f3 f4 f5 f6 f7 q0 q1 q2 q3 q4 q5 q6 q7 p0 p1 p2 p3 d1
  go_wp2_with fail
  refine bodyPost_ret (v := .tuple #[repV k nm a F A B C (.slice Au L.length cu), .int .i64 0]) (by obtain ⟨z0, z1, z2, z3, z4, z5, z6, z7⟩ := row8 HZ.out; simp [results, Tryz.results140, z0, z1, z2, z3, z4, z5, z6, z7, go_sem]) rfl (.inl ⟨k, x1, a, F, A, B, C, L, .slice Au L.length cu, HYES.out, by rw [HWN.out], rdIn_far HRd.out (fun i e => Nat.ne_of_gt (HO.out i e)) _ _ _ _ _ _ _ _, fun i e => Nat.le_of_lt (HO.out i e), HF.out⟩)
end Go.Proofs.YtfnlgfacadmjpaaGreatDoor
namespace Go.Proofs.YtfnlgfacadmjpaaGreatDoor.Wrd
open Go.Lib

/-- The words of a text. -/
def wd : List UInt8 → List (List UInt8)
  | [] => [[]]
  | c :: l => if c = 32 then [] :: wd l else match wd l with
    | [] => [[c]]
    | x :: r => (c :: x) :: r
theorem wd_ne : ∀ l, wd l ≠ []
  | [] => by simp [wd]
  | c :: l => by
    unfold wd; split
    · simp
    · split <;> simp
theorem wd_free : ∀ l x, x ∈ wd l → (32 : UInt8) ∉ x
  | [], x, h => by simp [wd] at h; subst h; simp
  | c :: l, x, h => by
    have ih := wd_free l
    unfold wd at h
    split at h
    · rcases List.mem_cons.1 h with rfl | h
      · simp
      · exact ih x h
    · rename_i hc
      split at h
      · simp at h; subst h; simp; exact fun e => hc e.symm
      · rename_i y r he
        rw [he] at ih
        rcases List.mem_cons.1 h with rfl | h
        · have := ih y (by simp)
          simp only [List.mem_cons, not_or]
          exact ⟨fun e => hc e.symm, this⟩
        · exact ih x (by simp [h])
theorem wd_one {x : List UInt8} (h : (32 : UInt8) ∉ x) : wd x = [x] := by
  induction x with
  | nil => rfl
  | cons c x ih =>
    simp only [List.mem_cons, not_or] at h
    unfold wd
    rw [if_neg (fun e => h.1 e.symm), ih h.2]
theorem wd_cons {x : List UInt8} (h : (32 : UInt8) ∉ x) (l : List UInt8) : wd (x ++ 32 :: l) = x :: wd l := by
  induction x with
  | nil => simp [wd]
  | cons c x ih =>
    simp only [List.mem_cons, not_or] at h
    rw [List.cons_append, wd, if_neg (fun e => h.1 e.symm), ih h.2]
/-- The words of joined words. -/
theorem wd_join : ∀ (ws : List (List UInt8)), ws ≠ [] → (∀ x ∈ ws, (32 : UInt8) ∉ x) → wd (join ws [32]) = ws
  | [x], _, h => by rw [join_one]; exact wd_one (h x (by simp))
  | x :: y :: r, _, h => by
    have e : join (x :: y :: r) [32] = x ++ 32 :: join (y :: r) [32] := by
      rw [join_cons, join_cons]; simp [joinTail]
    rw [e, wd_cons (h x (by simp)), wd_join (y :: r) (by simp) fun z hz => h z (by simp [hz])]
/-- A text is its words, joined. -/
theorem join_wd : ∀ l, join (wd l) [32] = l
  | [] => by simp [wd, join_one]
  | c :: l => by
    have ih := join_wd l
    unfold wd
    split
    · rename_i hc
      subst hc
      cases hw : wd l with
      | nil => exact absurd hw (wd_ne l)
      | cons y r =>
        rw [hw] at ih
        rw [join_cons] at ih ⊢
        simp only [joinTail, List.map_cons, List.flatten_cons, List.nil_append, List.cons_append] at ih ⊢
        rw [ih]
    · split
      · rename_i hw; exact absurd hw (wd_ne l)
      · rename_i x r hw
        rw [hw] at ih
        rw [join_cons] at ih ⊢
        rw [List.cons_append, ih]
/-- The library's cutting, at a space. -/
theorem index_none : ∀ l : List UInt8, (32 : UInt8) ∉ l → index l [32] = -1
  | [], _ => rfl
  | c :: l, h => by
    simp only [List.mem_cons, not_or] at h
    have ih := index_none l h.2
    unfold index
    have : List.isPrefixOf [32] (c :: l) = false := by simp [List.isPrefixOf]; exact h.1
    simp [this, ih]
theorem index_at {x : List UInt8} (h : (32 : UInt8) ∉ x) (l : List UInt8) : index (x ++ 32 :: l) [32] = x.length := by
  induction x with
  | nil => simp [index, List.isPrefixOf]
  | cons c x ih =>
    simp only [List.mem_cons, not_or] at h
    have ih := ih h.2
    rw [List.cons_append]
    unfold index
    have hp : List.isPrefixOf [32] (c :: (x ++ 32 :: l)) = false := by simp [List.isPrefixOf]; exact h.1
    rw [hp, ih]
    have : ((x.length : Int) == -1) = false := by rw [beq_eq_false_iff_ne]; omega
    simp [this]
theorem splitK_zero (l : List UInt8) : splitK [32] 0 0 l = [l] := rfl
theorem splitK_none (k : Nat) {l : List UInt8} (h : (32 : UInt8) ∉ l) : splitK [32] 0 k l = [l] := by
  cases k with
  | zero => rfl
  | succ k => unfold splitK; rw [index_none l h]; rfl
theorem splitK_at (k : Nat) {x : List UInt8} (h : (32 : UInt8) ∉ x) (l : List UInt8) : splitK [32] 0 (k + 1) (x ++ 32 :: l) = x :: splitK [32] 0 k l := by
  rw [splitK, index_at h]
  have hne : ¬ ((x.length : Int) == -1) = true := by rw [beq_iff_eq]; omega
  rw [if_neg hne]
  have e : ((x.length : Int)).toNat = x.length := by omega
  rw [e, Nat.add_zero, List.take_left]
  congr 2
  rw [List.length_singleton, ← List.drop_drop, List.drop_left]
  rfl
/-- Cut at so many spaces: all words, or the first ones and a rest that has a space. -/
theorem splitK_join : ∀ (ws : List (List UInt8)) (k : Nat), ws ≠ [] → (∀ x ∈ ws, (32 : UInt8) ∉ x) →
    (ws.length ≤ k + 1 → splitK [32] 0 k (join ws [32]) = ws) ∧ (k + 1 < ws.length → ∃ z, (32 : UInt8) ∈ z ∧ splitK [32] 0 k (join ws [32]) = ws.take k ++ [z])
  | [x], k, _, h => by
    rw [join_one]
    refine ⟨fun _ => splitK_none k (h x (by simp)), fun hk => ?_⟩
    simp at hk
  | x :: y :: r, k, _, h => by
    have e : join (x :: y :: r) [32] = x ++ 32 :: join (y :: r) [32] := by
      rw [join_cons, join_cons]; simp [joinTail]
    rw [e]
    cases k with
    | zero =>
      exact ⟨fun hk => absurd hk (by simp), fun _ => ⟨x ++ 32 :: join (y :: r) [32], by simp, rfl⟩⟩
    | succ k =>
      rw [splitK_at k (h x (by simp))]
      obtain ⟨i1, i2⟩ := splitK_join (y :: r) k (by simp) fun z hz => h z (by simp [hz])
      refine ⟨fun hk => by rw [i1 (by simp at hk ⊢; omega)], fun hk => ?_⟩
      obtain ⟨z, hz, hs⟩ := i2 (by simp at hk ⊢; omega)
      exact ⟨z, hz, by rw [hs]; rfl⟩
theorem splitK_wd (l : List UInt8) (k : Nat) :
    ((wd l).length ≤ k + 1 → splitK [32] 0 k l = wd l) ∧ (k + 1 < (wd l).length → ∃ z, (32 : UInt8) ∈ z ∧ splitK [32] 0 k l = (wd l).take k ++ [z]) := by
  have := splitK_join (wd l) k (wd_ne l) fun x hx => wd_free l x hx
  rw [join_wd] at this
  exact this
end Go.Proofs.YtfnlgfacadmjpaaGreatDoor.Wrd
namespace Go.Proofs.YtfnlgfacadmjpaaGreatDoor
open Go.RowKit

theorem free_digs {l : List UInt8} (h : Pl.digs l = true) : (32 : UInt8) ∉ l := by
  intro hm
  have := List.all_eq_true.1 h _ hm
  revert this; decide
theorem free_ddn (n : Nat) : ∀ k, (32 : UInt8) ∉ El.Elt.ddn n k
  | 0 => by simp [El.Elt.ddn]
  | k + 1 => by
    rw [El.Elt.ddn_snoc]
    intro h
    rcases List.mem_append.1 h with h | h
    · exact free_ddn (n / 10) k h
    · rw [List.mem_singleton] at h
      have := El.Elt.b10_toNat (d := n % 10) (Nat.mod_lt _ (by omega))
      rw [← h] at this
      have e : (32 : UInt8).toNat = 32 := rfl
      omega
theorem free_kw : ∀ k : Int, (32 : UInt8) ∉ kw k := by
  intro k
  unfold kw kws
  rcases (k - 1).toNat with _ | _ | _ | n <;> simp [List.getD]
theorem free_wds {k : Int} {nm : ByteArray} {t F A B C : Int} {L : List El.Elt.R} (h : Vd k nm t F A B C L) : ∀ x ∈ wds k nm t F A B L, (32 : UInt8) ∉ x := by
  intro x hx
  unfold wds at hx
  simp only [List.cons_append, List.nil_append, List.mem_cons, List.mem_append, List.mem_map] at hx
  rcases hx with rfl | rfl | rfl | hx | ⟨r, hr, rfl⟩
  · exact free_kw k
  · have h5 := h.name
    unfold nameOk at h5
    rw [Bool.and_eq_true, decide_eq_true_iff] at h5
    intro hm
    have := List.all_eq_true.1 h5.2 _ hm
    revert this; decide
  · obtain ⟨td, th, tm⟩ := dt_bd h.time
    unfold stp
    exact free_digs (by rw [digs_app, digs_app, digs_dig2 (by omega) (by omega), digs_dig2 (by omega) (by omega), digs_dig2 (by omega) (by omega)]; rfl)
  · split at hx
    · cases hx
    · rename_i hk
      rw [List.mem_singleton] at hx; subst hx
      have hp := h.place
      unfold plOk at hp
      rw [if_neg hk] at hp
      unfold nrm at hp
      obtain ⟨f, rfl, h1, h2, h3, h4, h5, h6, h7, h8⟩ := Pl.vb_to (Bool.and_eq_true_iff.1 hp).1
      unfold Pl.txt
      exact free_digs (by rw [digs_app, digs_app, (pdigs2 (n := ((((f : Nat) : Int).toNat : Nat) : Int)) (by omega) (by omega)).1, (pdigs3 (n := A) (by omega) (by omega)).1, (pdigs3 (n := B) (by omega) (by omega)).1]; rfl)
  · obtain ⟨hx, -⟩ := (vld_zero h.list).1 r hr
    have hf := El.Elt.facts hx
    unfold El.Elt.txt El.Elt.tail El.Elt.sg
    simp only [List.mem_cons, List.mem_append, not_or]
    refine ⟨fun e => ?_, ?_, free_ddn _ _⟩
    · have := hf.2.2.2.2.1
      rw [← e] at this
      have e2 : (32 : UInt8).toNat = 32 := rfl
      omega
    · split
      · decide
      · simp
theorem wds_len {k : Int} {nm : ByteArray} {t F A B C : Int} {L : List El.Elt.R} (h : Vd k nm t F A B C L) : (wds k nm t F A B L).length ≤ 15 := by
  have := vld_len h.list
  unfold wds
  rw [List.length_append, List.length_append, List.length_map]
  split <;> simp <;> omega
theorem gtx_len {k : Int} {nm : ByteArray} {t F A B C : Int} {L : List El.Elt.R} (h : Vd k nm t F A B C L) : 14 ≤ (gtx k nm t F A B L).length := by
  have h5 := h.name
  unfold nameOk at h5
  rw [Bool.and_eq_true, decide_eq_true_iff] at h5
  have h6 : nm.data.toList.length = nm.size := by simp
  have h7 : (kw k).length = 4 := by rcases kind_cases h.kind with rfl | rfl | rfl <;> rfl
  have h8 : (stp t).length = 6 := by unfold stp; simp [dig2_len]
  unfold gtx wds
  rw [List.append_assoc, List.cons_append, List.cons_append, List.cons_append, List.nil_append, Lib.join_cons]
  simp only [Lib.joinTail, List.map_cons, List.flatten_cons, List.length_append, List.length_cons, List.length_nil]
  omega
theorem gtx_short {k : Int} {nm : ByteArray} {t F A B C : Int} {L : List El.Elt.R} (h : Vd k nm t F A B C L) : (gtx k nm t F A B L).length ≤ 2000 := by
  have := join_len (wds k nm t F A B L) 15 100 (wds_len h) (wds_short h)
  unfold gtx; omega
theorem map_S : ∀ {l : List ByteArray} {ws : List (List UInt8)}, l.map (·.data.toList) = ws → l = ws.map S := by
  intro l ws h
  rw [← h, List.map_map]
  exact ((List.map_congr_left fun x _ => S_of x).trans (List.map_id _)).symm
theorem split_yes (ws : List (List UInt8)) (w : World) (hne : ws ≠ []) (hf : ∀ x ∈ ws, (32 : UInt8) ∉ x) (hl : ws.length ≤ 15) (h14 : 14 ≤ (Lib.join ws [32]).length) (h2 : (Lib.join ws [32]).length ≤ 2000) (hE : Env w) :
    Calls Tryz.prog 87 #[.string (S (Lib.join ws [32])), .string ⟨#[32]⟩, .int .i64 15] w fun e w' => e = .returned (.slice (some ⟨w.heap.size, 0, none⟩) ws.length 15) ∧ WIn w' (.slice (some ⟨w.heap.size, 0, none⟩) ws.length 15) ws ∧ Below w.heap.size w w' := by
  obtain ⟨m, hm⟩ := hE.ml
  have hsz : (S (Lib.join ws [32])).size = (Lib.join ws [32]).length := S_size _
  have hs := Tryz.strings_SplitN (S (Lib.join ws [32])) ⟨#[32]⟩ 15 m w (by rw [hsz]; omega) hm (by decide) (by decide) (by decide)
  have hN : min 15 ((S (Lib.join ws [32])).size + 1) = 15 := by rw [hsz]; omega
  have hp : Lib.splitB ⟨#[32]⟩ 0 14 (S (Lib.join ws [32])) = ws.map S := by
    refine map_S ?_
    rw [Lib.splitB_data, S_list]
    exact (Wrd.splitK_join ws 14 hne hf).1 (by omega)
  rw [hN, show 15 - 1 = 14 from rfl, hp, List.length_map] at hs
  refine hs.mono fun e w' ⟨he, hw⟩ => ⟨he, ?_, ?_⟩
  · subst hw
    refine ⟨_, 15, rfl, hl, by omega, fun i hi => ⟨w.heap.size, 0, rfl, by simp, ?_⟩⟩
    have hb := heap_alloc_new w (.cells (Lib.cellsOf (ws.map S) 15) 9)
    unfold World.cell?
    rw [hb]
    have hc : (Lib.cellsOf (ws.map S) 15)[0 + i]? = some (.string (S ws[i])) := by
      unfold Lib.cellsOf
      rw [Nat.zero_add, List.getElem?_toArray, List.getElem?_append_left (by simpa using hi), List.getElem?_map, List.getElem?_map, List.getElem?_eq_getElem hi]
      rfl
    simpa using hc
  · subst hw
    exact (Below.refl _ _).alloc (Nat.le_refl _) _
theorem rdIn_set {w : World} {g : Nat} {A : Option Addr} {n c : Nat} {L : List El.Elt.R} (h : El.RdIn w (.slice A n c) L) (hn : ∀ i, (Value.slice A n c).ownBlock = some i → i ≠ g) (u0 u1 u2 u3 u4 u5 u6 u7 : Value) :
    El.RdIn ((((((((w.setCell ⟨g, 0, none⟩ u0).setCell ⟨g, 1, none⟩ u1).setCell ⟨g, 2, none⟩ u2).setCell ⟨g, 3, none⟩ u3).setCell ⟨g, 4, none⟩ u4).setCell ⟨g, 5, none⟩ u5).setCell ⟨g, 6, none⟩ u6).setCell ⟨g, 7, none⟩ u7) (.slice A n c) L := by
  obtain ⟨A', c', e, h1, h2, h3⟩ := h
  obtain ⟨rfl, rfl, rfl⟩ : A = A' ∧ n = L.length ∧ c = c' := by injection e with e1 e2 e3; exact ⟨e1, e2, e3⟩
  refine ⟨A, c, rfl, h1, h2, fun i hi => ?_⟩
  obtain ⟨b, off, rfl, hb, c0, c1⟩ := h3 i hi
  have hne : b ≠ g := hn b rfl
  refine ⟨b, off, rfl, ?_, ?_, ?_⟩
  · exact Nat.lt_of_lt_of_le hb (set8_below (u0 := u0) (u1 := u1) (u2 := u2) (u3 := u3) (u4 := u4) (u5 := u5) (u6 := u6) (u7 := u7) (Below.refl 0 w) (Nat.zero_le g)).size
  · rw [set8_cell (p := ⟨b, off + i * 2, none⟩) hne]; exact c0
  · rw [set8_cell (p := ⟨b, off + i * 2 + 1, none⟩) hne]; exact c1
set_option maxRecDepth 100000 in
set_option maxHeartbeats 1000000 in
theorem parse_yes (k : Int) (nm : ByteArray) (t F A B C : Int) (L : List El.Elt.R) (near a : Int) (w : World) (hE : Env w) (hV : Vd k nm t F A B C L) (hn : 0 ≤ near ∧ near ≤ 52595999) (hr : rsv (dayOf t) (hourOf t) (minOf t) near = some a) :
    Calls Tryz.prog 93 #[.string (S (gtx k nm t F A B L)), .int .i64 near] w fun e w' => ∃ u, e = .returned (.tuple #[repV k nm a F A B C u, .int .i64 0]) ∧ El.RdIn w' u L ∧ Below w.heap.size w w' := by
  have HSp := Lib.hid (fun w hE => split_yes (wds k nm t F A B L) w (by unfold wds; simp) (free_wds hV) (wds_len hV) (gtx_len hV) (gtx_short hV) hE)
  have HRd := Lib.hid (fun g off cap w hE h4 hW => read_yes k nm t F A B C L near a g off cap w hE hV hr h4 hW)
  have hVa : Vd k nm a F A B C L := ⟨hV.kind, hV.name, (rsv_own hr).1, hV.place, hV.list⟩
  have HC := Lib.hid hVa.code
  have hg : gtx k nm t F A B L = Lib.join (wds k nm t F A B L) [32] := rfl
  rw [hg]
  obtain ⟨n0, n1⟩ := hn
  generalize S (Lib.join (wds k nm t F A B L) [32]) = s at *
  generalize wds k nm t F A B L = ws at *
  clear hV hVa hr hg
  have b4 := (Below.refl w.heap.size w).alloc (Nat.le_refl _) (.cells (repC 0 ⟨#[]⟩ 0 0 0 0 0 (.slice none 0 0)) 53)
  have r4 := Row.new w (repC 0 ⟨#[]⟩ 0 0 0 0 0 (.slice none 0 0)) 53
  have hE4 := hE.under b4
  go_enter Tryz.func93, Tryz.ntmps93
  go_wp2_with fail
  generalize w.alloc (.cells (repC 0 ⟨#[]⟩ 0 0 0 0 0 (.slice none 0 0)) 53) = W0 at *
  refine (HSp.out _ hE4).mono ?_
  rintro e w1 ⟨rfl, hw1, g1⟩
  have b5 := b4.trans (g1.mono b4.size)
  have r5 := r4.under g1
  have hE5 := hE4.under g1
  clear g1 b4 r4 hE4
  go_wp2_with fail
  refine (HRd.out _ _ _ _ hE5 (by decide) hw1).mono ?_
  rintro e w2 ⟨u, rfl, hR2, hO, g2⟩
  have b6 := b5.trans (g2.mono b5.size)
  have r6 := r5.under g2
  have hE6 := hE5.under g2
  have hO' : ∀ i, u.ownBlock = some i → i ≠ w.heap.size := fun i e => Nat.ne_of_gt (Nat.lt_of_lt_of_le r5.lt (hO i e))
  obtain ⟨Au, cu, rfl, -⟩ := id hR2
  have bx := (Below.refl w2.heap.size w2).alloc (Nat.le_refl _) (.cells (repC k nm a F A B C (.slice Au L.length cu)) 53)
  have rx := Row.new w2 (repC k nm a F A B C (.slice Au L.length cu)) 53
  have b7 := b6.trans (bx.mono b6.size)
  have r7 := r6.under bx
  have hE7 := hE6.under bx
  have hR7 := hR2.under bx
  have HO := Lib.hid hO'
  clear hO hO' b5 r5 hE5 g2 b6 r6 hE6 hR2 bx HRd HSp hw1
  go_upto_region 4 with fail
  generalize w2.alloc (.cells (repC k nm a F A B C (.slice Au L.length cu)) 53) = W7 at *
  generalize w2.heap.size = gx at *
  obtain ⟨p0, p1, p2, p3, p4, p5, p6, p7⟩ := row8 rx
  go_wp2_with fail
  refine (validate_is k nm a F A B C _ L 0 _ hR7 hE7.tab HC.out).mono ?_
  rintro e w8 ⟨rfl, g8⟩
  have b8 := b7.trans (g8.mono b7.size)
  have r8 := r7.under g8
  have hR8 := hR7.under g8
  have rx8 := rx.under g8
  clear p0 p1 p2 p3 p4 p5 p6 p7 b7 r7 hR7 rx g8 hE7
  obtain ⟨p0, p1, p2, p3, p4, p5, p6, p7⟩ := row8 rx8
  have f0 := r8.thaw 0
  have f1 := r8.thaw 1
  have f2 := r8.thaw 2
  have f3 := r8.thaw 3
  have f4 := r8.thaw 4
  have f5 := r8.thaw 5
  have f6 := r8.thaw 6
  have f7 := r8.thaw 7
  obtain ⟨q0, q1, q2, q3, q4, q5, q6, q7⟩ := row8 r8
  have HZ := Lib.hid (set8_row (.int .i64 k) (.string nm) (.int .i64 a) (.int .i64 F) (.int .i64 A) (.int .i64 B) (.int .i64 C) (.slice Au L.length cu) r8)
  have HF := Lib.hid (set8_below (u0 := .int .i64 k) (u1 := .string nm) (u2 := .int .i64 a) (u3 := .int .i64 F) (u4 := .int .i64 A) (u5 := .int .i64 B) (u6 := .int .i64 C) (u7 := .slice Au L.length cu) b8 (Nat.le_refl _))
  have HR8 := Lib.hid hR8
  clear r8 b8 rx8 hR8
  go_wp2_with fail
  clear f0 f1 f2 f3 f4 f5 f6 f7 q0 q1 q2 q3 q4 q5 q6 q7 p0 p1 p2 p3 p4 p5 p6 p7
  exact bodyPost_ret (v := .tuple #[repV k nm a F A B C (.slice Au L.length cu), .int .i64 0]) (by obtain ⟨z0, z1, z2, z3, z4, z5, z6, z7⟩ := row8 HZ.out; simp [results, Tryz.results93, z0, z1, z2, z3, z4, z5, z6, z7, go_sem]) rfl ⟨_, rfl, rdIn_set HR8.out HO.out _ _ _ _ _ _ _ _, HF.out⟩
end Go.Proofs.YtfnlgfacadmjpaaGreatDoor
namespace Go.Proofs.YtfnlgfacadmjpaaGreatDoor
open Go.RowKit
open Ck (dig2)

theorem splitK_len : ∀ (k : Nat) (l : List UInt8), (Lib.splitK [32] 0 k l).length ≤ k + 1 ∧ ∀ x ∈ Lib.splitK [32] 0 k l, x.length ≤ l.length
  | 0, l => ⟨by simp [Lib.splitK], fun x hx => by rw [show Lib.splitK [32] 0 0 l = [l] from rfl, List.mem_singleton] at hx; rw [hx]; exact Nat.le_refl _⟩
  | k + 1, l => by
    rw [Lib.splitK]
    split
    · exact ⟨by simp, fun x hx => by rw [List.mem_singleton] at hx; rw [hx]; exact Nat.le_refl _⟩
    · obtain ⟨i1, i2⟩ := splitK_len k (l.drop ((Lib.index l [32]).toNat + [(32 : UInt8)].length))
      refine ⟨by rw [List.length_cons]; omega, fun x hx => ?_⟩
      rcases List.mem_cons.1 hx with rfl | hx
      · rw [List.length_take]; exact Nat.min_le_right _ _
      · exact Nat.le_trans (i2 x hx) (by rw [List.length_drop]; omega)
theorem wd_count : ∀ l : List UInt8, (Wrd.wd l).length ≤ l.length + 1
  | [] => by simp [Wrd.wd]
  | c :: l => by
    have ih := wd_count l
    unfold Wrd.wd
    split
    · simp; exact ih
    · cases h : Wrd.wd l with
      | nil => simp
      | cons x r => rw [h] at ih; simp at ih ⊢; omega
/-- The words of a text: the last of fifteen may have spaces. -/
def spl (s : List UInt8) : List (List UInt8) := Lib.splitK [32] 0 14 s
theorem spl_len (s : List UInt8) : (spl s).length ≤ 15 ∧ ∀ x ∈ spl s, x.length ≤ s.length := splitK_len 14 s
theorem spl_short {s : List UInt8} (h : s.length ≤ 14) : Lib.splitK [32] 0 s.length s = spl s := by
  have hc := wd_count s
  unfold spl
  rw [(Wrd.splitK_wd s s.length).1 hc, (Wrd.splitK_wd s 14).1 (by omega)]
theorem spl_two {s : List UInt8} (h : s.length ≤ 2) : (spl s).length < 3 ∨ ∀ x ∈ spl s, x = [] := by
  have hc := wd_count s
  unfold spl
  rw [(Wrd.splitK_wd s 14).1 (by omega)]
  match s, h with
  | [], _ => left; simp [Wrd.wd]
  | [a], _ => left; have := wd_count [a]; simp at this; omega
  | [a, b], _ =>
    by_cases h1 : a = 32
    · by_cases h2 : b = 32
      · right; subst h1; subst h2; simp [Wrd.wd]
      · left; subst h1; simp [Wrd.wd, h2]
    · left
      have := wd_count [b]
      unfold Wrd.wd
      rw [if_neg h1]
      cases hw : Wrd.wd [b] with
      | nil => simp
      | cons x r => rw [hw] at this; simp at this ⊢; omega
theorem split_any (s : List UInt8) (w : World) (hs : s.length ≤ 100000) (hE : Env w) :
    Calls Tryz.prog 87 #[.string (S s), .string ⟨#[32]⟩, .int .i64 15] w fun e w' => e = .returned (.slice (some ⟨w.heap.size, 0, none⟩) (spl s).length (min 15 (s.length + 1))) ∧ WIn w' (.slice (some ⟨w.heap.size, 0, none⟩) (spl s).length (min 15 (s.length + 1))) (spl s) ∧ Below w.heap.size w w' := by
  obtain ⟨m, hm⟩ := hE.ml
  have hsz : (S s).size = s.length := S_size _
  have hs := Tryz.strings_SplitN (S s) ⟨#[32]⟩ 15 m w (by rw [hsz]; omega) hm (by decide) (by decide) (by decide)
  rw [hsz] at hs
  have hp : Lib.splitB ⟨#[32]⟩ 0 (min 15 (s.length + 1) - 1) (S s) = (spl s).map S := by
    refine map_S ?_
    rw [Lib.splitB_data, S_list]
    by_cases h : s.length ≤ 14
    · rw [show min 15 (s.length + 1) - 1 = s.length by omega]; exact spl_short h
    · rw [show min 15 (s.length + 1) - 1 = 14 by omega]; rfl
  have hc15 : min 15 (s.length + 1) ≤ 15 := Nat.min_le_left _ _
  have hcap : (spl s).length ≤ min 15 (s.length + 1) := by
    by_cases h : s.length ≤ 14
    · rw [← spl_short h]; have := (splitK_len s.length s).1; omega
    · have := (spl_len s).1; omega
  rw [hp, List.length_map] at hs
  generalize min 15 (s.length + 1) = cap at *
  generalize spl s = ws at *
  refine hs.mono fun e w' ⟨he, hw⟩ => ⟨he, ?_, ?_⟩
  · subst hw
    refine ⟨_, cap, rfl, hcap, by omega, fun i hi => ⟨w.heap.size, 0, rfl, by simp, ?_⟩⟩
    have hb := heap_alloc_new w (.cells (Lib.cellsOf (ws.map S) cap) 9)
    unfold World.cell?
    rw [hb]
    have hc : (Lib.cellsOf (ws.map S) cap)[0 + i]? = some (.string (S ws[i])) := by
      unfold Lib.cellsOf
      rw [Nat.zero_add, List.getElem?_toArray, List.getElem?_append_left (by simpa using hi), List.getElem?_map, List.getElem?_map, List.getElem?_eq_getElem hi]
      rfl
    simpa using hc
  · subst hw
    exact (Below.refl _ _).alloc (Nat.le_refl _) _
theorem Stm.one {l : List UInt8} {near a b : Int} (h : Stm l near a) (h' : Stm l near b) : a = b := by
  obtain ⟨d, p, i, x1, x2, x3, rfl, x5⟩ := h
  obtain ⟨d', p', i', y1, y2, y3, e, y5⟩ := h'
  obtain ⟨rfl, rfl, rfl⟩ := six_inj x1 x2 x3 y1 y2 y3 e
  rw [x5] at y5
  exact Option.some.inj y5
theorem Plx.val {k : Int} {rest rs rs' : List (List UInt8)} {F A B C F' A' B' C' : Int} (h : Plx k rest F A B C rs) (h' : Plx k rest F' A' B' C' rs') : F = F' ∧ A = A' ∧ B = B' ∧ C = C' := by
  rcases h with ⟨e, rfl, rfl, rfl, rfl, -⟩ | ⟨e, x, rfl, h1⟩
  · rcases h' with ⟨-, rfl, rfl, rfl, rfl, -⟩ | ⟨e2, -⟩
    · exact ⟨rfl, rfl, rfl, rfl⟩
    · exact absurd e e2
  · rcases h' with ⟨e2, -⟩ | ⟨-, y, e3, h2⟩
    · exact absurd e2 e
    · injection e3 with e3 e4
      subst e3
      rw [h1] at h2
      simp only [Prod.mk.injEq] at h2
      exact ⟨h2.1, h2.2.1, h2.2.2.1, h2.2.2.2.1⟩
theorem Rdd.one {ws : List (List UInt8)} {near k k' t t' F A B C F' A' B' C' : Int} {nm nm' : List UInt8} {L L' : List El.Elt.R} (h : Rdd ws near k nm t F A B C L) (h' : Rdd ws near k' nm' t' F' A' B' C' L') :
    k = k' ∧ nm = nm' ∧ t = t' ∧ F = F' ∧ A = A' ∧ B = B' ∧ C = C' ∧ L = L' := by
  obtain ⟨st, rest, rs, rfl, hk, hst, hp, -, rfl⟩ := h
  obtain ⟨st', rest', rs', e, hk', hst', hp', -, rfl⟩ := h'
  injection e with e1 e2
  injection e2 with e2 e3
  injection e3 with e3 e4
  obtain rfl := kw_inj hk hk' e1
  subst e2; subst e3; subst e4
  obtain rfl := hp.one hp'
  obtain ⟨rfl, rfl, rfl, rfl⟩ := hp.val hp'
  exact ⟨rfl, rfl, hst.one hst', rfl, rfl, rfl, rfl, rfl⟩
/-- The answer of Parse is a report. -/
def Psd (s : List UInt8) (near k : Int) (nm : List UInt8) (t F A B C : Int) (L : List El.Elt.R) : Prop := Rdd (spl s) near k nm t F A B C L ∧ vcode k (S nm) t F A B C L = 0
/-- What Parse leaves. -/
def PsO (s : List UInt8) (near : Int) (w : World) (e : Ending) (w' : World) : Prop :=
  (∃ (k : Int) (nm : List UInt8) (t F A B C : Int) (L : List El.Elt.R) (u : Value), Psd s near k nm t F A B C L ∧ e = .returned (.tuple #[repV k (S nm) t F A B C u, .int .i64 0]) ∧ El.RdIn w' u L ∧ Below w.heap.size w w' ∧ ∀ i, u.ownBlock = some i → w.heap.size ≤ i) ∨
  ((∀ k nm t F A B C L, ¬ Psd s near k nm t F A B C L) ∧ e = .returned (.tuple #[repV 0 ⟨#[]⟩ 0 0 0 0 0 (.slice none 0 0), .int .i64 3]) ∧ Below w.heap.size w w')
set_option maxRecDepth 100000 in
set_option maxHeartbeats 4000000 in
theorem parse_any (s : List UInt8) (near : Int) (w : World) (hE : Env w) (hn : 0 ≤ near ∧ near ≤ 52595999) (hs : s.length ≤ 100000) :
    Calls Tryz.prog 93 #[.string (S s), .int .i64 near] w (PsO s near w) := by
  have HSp := Lib.hid (fun w hE => split_any s w hs hE)
  have HRd := Lib.hid (fun g w hE hW => read_any (spl s) near g 0 (min 15 (s.length + 1)) w hE hn (by
    by_cases h2 : s.length ≤ 2
    · rcases spl_two h2 with h | h
      · exact .inr (.inl h)
      · exact .inr (.inr h)
    · exact .inl (by omega)) (spl_len s).1 (fun x hx => Nat.le_trans ((spl_len s).2 x hx) hs) hW)
  obtain ⟨n0, n1⟩ := hn
  have HPS := Lib.hid (show ∀ k nm t F A B C L, Psd s near k nm t F A B C L = (Rdd (spl s) near k nm t F A B C L ∧ vcode k (S nm) t F A B C L = 0) from fun _ _ _ _ _ _ _ _ => rfl)
  have hPO : ∀ e w', PsO s near w e w' = ((∃ (k : Int) (nm : List UInt8) (t F A B C : Int) (L : List El.Elt.R) (u : Value), Psd s near k nm t F A B C L ∧ e = .returned (.tuple #[repV k (S nm) t F A B C u, .int .i64 0]) ∧ El.RdIn w' u L ∧ Below w.heap.size w w' ∧ ∀ i, u.ownBlock = some i → w.heap.size ≤ i) ∨
    ((∀ k nm t F A B C L, ¬ Psd s near k nm t F A B C L) ∧ e = .returned (.tuple #[repV 0 ⟨#[]⟩ 0 0 0 0 0 (.slice none 0 0), .int .i64 3]) ∧ Below w.heap.size w w')) := fun _ _ => rfl
  have HPO := Lib.hid hPO
  clear hPO
  generalize hq : PsO s near w = QQ at *
  generalize Psd s near = PP at *
  generalize spl s = ws at *
  generalize min 15 (s.length + 1) = cap at *
  generalize S s = sv at *
  clear hq hs
  have b4 := (Below.refl w.heap.size w).alloc (Nat.le_refl _) (.cells (repC 0 ⟨#[]⟩ 0 0 0 0 0 (.slice none 0 0)) 53)
  have r4 := Row.new w (repC 0 ⟨#[]⟩ 0 0 0 0 0 (.slice none 0 0)) 53
  have hE4 := hE.under b4
  go_enter Tryz.func93, Tryz.ntmps93
  go_wp2_with fail
  generalize w.alloc (.cells (repC 0 ⟨#[]⟩ 0 0 0 0 0 (.slice none 0 0)) 53) = W0 at *
  refine (HSp.out _ hE4).mono ?_
  rintro e w1 ⟨rfl, hw1, g1⟩
  have b5 := b4.trans (g1.mono b4.size)
  have r5 := r4.under g1
  have hE5 := hE4.under g1
  clear g1 b4 r4 hE4
  go_wp2_with fail
  refine (HRd.out _ _ hE5 hw1).mono ?_
  rintro e w2 (⟨k, nm, a, F, A, B, C, L, u, hrd, rfl, hR2, hO, g2⟩ | ⟨hno, r, hr, rfl, g2⟩)
  case inr =>
    have b6 := (b5.trans (g2.mono b5.size)).alloc (Nat.le_trans b5.size g2.size) (.cells (repC 0 ⟨#[]⟩ 0 0 0 0 0 (.slice none 0 0)) 53)
    have r6 := (r5.under g2).alloc (.cells (repC 0 ⟨#[]⟩ 0 0 0 0 0 (.slice none 0 0)) 53)
    have HNO := Lib.hid (show ∀ k nm t F A B C L, ¬ PP k nm t F A B C L from fun k nm t F A B C L h => by rw [HPS.out] at h; exact hno _ _ _ _ _ _ _ _ h.1)
    have q : (r != 0) = true := by rw [bne_iff_ne]; exact hr
    clear hno hr g2 b5 r5 hE5 hw1 HRd HSp
    go_upto_region 4 with fail
    generalize w2.alloc (.cells (repC 0 ⟨#[]⟩ 0 0 0 0 0 (.slice none 0 0)) 53) = W7 at *
    have f0 := r6.thaw 0
    have f1 := r6.thaw 1
    have f2 := r6.thaw 2
    have f3 := r6.thaw 3
    have f4 := r6.thaw 4
    have f5 := r6.thaw 5
    have f6 := r6.thaw 6
    have f7 := r6.thaw 7
    obtain ⟨q0, q1, q2, q3, q4, q5, q6, q7⟩ := row8 r6
    have HZ := Lib.hid (set8_row (.int .i64 0) (.string ⟨#[]⟩) (.int .i64 0) (.int .i64 0) (.int .i64 0) (.int .i64 0) (.int .i64 0) (.slice none 0 0) r6)
    have HF := Lib.hid (set8_below (u0 := .int .i64 0) (u1 := .string ⟨#[]⟩) (u2 := .int .i64 0) (u3 := .int .i64 0) (u4 := .int .i64 0) (u5 := .int .i64 0) (u6 := .int .i64 0) (u7 := .slice none 0 0) b6 (Nat.le_refl _))
    clear b6 r6
    go_wp2_with fail
    clear f0 f1 f2 f3 f4 f5 f6 f7 q0 q1 q2 q3 q4 q5 q6 q7
    exact bodyPost_ret (v := .tuple #[repV 0 ⟨#[]⟩ 0 0 0 0 0 (.slice none 0 0), .int .i64 3]) (by obtain ⟨z0, z1, z2, z3, z4, z5, z6, z7⟩ := row8 HZ.out; simp [results, Tryz.results93, z0, z1, z2, z3, z4, z5, z6, z7, go_sem]) rfl (by rw [HPO.out]; exact .inr ⟨HNO.out, rfl, HF.out⟩)
  have b6 := b5.trans (g2.mono b5.size)
  have r6 := r5.under g2
  have hE6 := hE5.under g2
  have HOW := Lib.hid (show ∀ i, u.ownBlock = some i → w.heap.size ≤ i from fun i e => Nat.le_trans b5.size (hO i e))
  have hO' : ∀ i, u.ownBlock = some i → i ≠ w.heap.size := fun i e => Nat.ne_of_gt (Nat.lt_of_lt_of_le r5.lt (hO i e))
  obtain ⟨Au, cu, rfl, -⟩ := id hR2
  have hkn : ∀ nm' : ByteArray, S nm = nm' → True := fun _ _ => trivial
  generalize hnm : S nm = nb at *
  have HNM := Lib.hid hnm; clear hnm hkn
  have bx := (Below.refl w2.heap.size w2).alloc (Nat.le_refl _) (.cells (repC k nb a F A B C (.slice Au L.length cu)) 53)
  have rx := Row.new w2 (repC k nb a F A B C (.slice Au L.length cu)) 53
  have b7 := b6.trans (bx.mono b6.size)
  have r7 := r6.under bx
  have hE7 := hE6.under bx
  have hR7 := hR2.under bx
  have HO := Lib.hid hO'
  have HRD := Lib.hid hrd
  have HC := Lib.hid (fun W (h : El.RdIn W (.slice Au L.length cu) L) (hT : El.Tab W) => validate_any k nb a F A B C (.slice Au L.length cu) L W h hT)
  obtain ⟨vc, hvc⟩ : ∃ c, vcode k nb a F A B C L = c := ⟨_, rfl⟩
  rw [hvc] at HC
  have HVC := Lib.hid hvc
  clear hO hO' b5 r5 hE5 g2 b6 r6 hE6 hR2 bx HRd HSp hw1 hrd hvc
  go_upto_region 4 with fail
  generalize w2.alloc (.cells (repC k nb a F A B C (.slice Au L.length cu)) 53) = W7 at *
  generalize w2.heap.size = gx at *
  obtain ⟨p0, p1, p2, p3, p4, p5, p6, p7⟩ := row8 rx
  go_wp2_with fail
  refine (HC.out _ hR7 hE7.tab).mono ?_
  rintro e w8 ⟨rfl, g8⟩
  have b8 := b7.trans (g8.mono b7.size)
  have r8 := r7.under g8
  have hR8 := hR7.under g8
  have rx8 := rx.under g8
  clear p0 p1 p2 p3 p4 p5 p6 p7 b7 r7 hR7 rx g8 hE7 HC
  by_cases hv0 : vc = 0
  case neg =>
    have q : (vc != 0) = true := by rw [bne_iff_ne]; exact hv0
    have HNO := Lib.hid (show ∀ k nm t F A B C L, ¬ PP k nm t F A B C L from fun k' nm' t' F' A' B' C' L' h => by
      rw [HPS.out] at h
      obtain ⟨rfl, rfl, rfl, rfl, rfl, rfl, rfl, rfl⟩ := HRD.out.one h.1
      have := h.2
      rw [HNM.out, HVC.out] at this
      exact hv0 this)
    clear hv0 rx8 hR8
    have f0 := r8.thaw 0
    have f1 := r8.thaw 1
    have f2 := r8.thaw 2
    have f3 := r8.thaw 3
    have f4 := r8.thaw 4
    have f5 := r8.thaw 5
    have f6 := r8.thaw 6
    have f7 := r8.thaw 7
    obtain ⟨q0, q1, q2, q3, q4, q5, q6, q7⟩ := row8 r8
    have HZ := Lib.hid (set8_row (.int .i64 0) (.string ⟨#[]⟩) (.int .i64 0) (.int .i64 0) (.int .i64 0) (.int .i64 0) (.int .i64 0) (.slice none 0 0) r8)
    have HF := Lib.hid (set8_below (u0 := .int .i64 0) (u1 := .string ⟨#[]⟩) (u2 := .int .i64 0) (u3 := .int .i64 0) (u4 := .int .i64 0) (u5 := .int .i64 0) (u6 := .int .i64 0) (u7 := .slice none 0 0) b8 (Nat.le_refl _))
    clear r8 b8
    go_wp2_with fail
    clear f0 f1 f2 f3 f4 f5 f6 f7 q0 q1 q2 q3 q4 q5 q6 q7
    exact bodyPost_ret (v := .tuple #[repV 0 ⟨#[]⟩ 0 0 0 0 0 (.slice none 0 0), .int .i64 3]) (by obtain ⟨z0, z1, z2, z3, z4, z5, z6, z7⟩ := row8 HZ.out; simp [results, Tryz.results93, z0, z1, z2, z3, z4, z5, z6, z7, go_sem]) rfl (by rw [HPO.out]; exact .inr ⟨HNO.out, rfl, HF.out⟩)
  subst hv0
  have HYES := Lib.hid (show PP k nm a F A B C L by rw [HPS.out]; exact ⟨HRD.out, by rw [HNM.out]; exact HVC.out⟩)
  obtain ⟨p0, p1, p2, p3, p4, p5, p6, p7⟩ := row8 rx8
  have f0 := r8.thaw 0
  have f1 := r8.thaw 1
  have f2 := r8.thaw 2
  have f3 := r8.thaw 3
  have f4 := r8.thaw 4
  have f5 := r8.thaw 5
  have f6 := r8.thaw 6
  have f7 := r8.thaw 7
  obtain ⟨q0, q1, q2, q3, q4, q5, q6, q7⟩ := row8 r8
  have HZ := Lib.hid (set8_row (.int .i64 k) (.string nb) (.int .i64 a) (.int .i64 F) (.int .i64 A) (.int .i64 B) (.int .i64 C) (.slice Au L.length cu) r8)
  have HF := Lib.hid (set8_below (u0 := .int .i64 k) (u1 := .string nb) (u2 := .int .i64 a) (u3 := .int .i64 F) (u4 := .int .i64 A) (u5 := .int .i64 B) (u6 := .int .i64 C) (u7 := .slice Au L.length cu) b8 (Nat.le_refl _))
  have HR8 := Lib.hid hR8
  clear r8 b8 rx8 hR8
  go_wp2_with fail
  clear f0 f1 f2 f3 f4 f5 f6 f7 q0 q1 q2 q3 q4 q5 q6 q7 p0 p1 p2 p3 p4 p5 p6 p7
  exact bodyPost_ret (v := .tuple #[repV k nb a F A B C (.slice Au L.length cu), .int .i64 0]) (by obtain ⟨z0, z1, z2, z3, z4, z5, z6, z7⟩ := row8 HZ.out; simp [results, Tryz.results93, z0, z1, z2, z3, z4, z5, z6, z7, go_sem]) rfl (by
    rw [HPO.out]
    exact .inl ⟨k, nm, a, F, A, B, C, L, _, HYES.out, by rw [HNM.out], rdIn_set HR8.out HO.out _ _ _ _ _ _ _ _, HF.out, HOW.out⟩)
end Go.Proofs.YtfnlgfacadmjpaaGreatDoor
