/- The reference's reading of a heading. -/
import Derived.Test.YtfnlgfacadmjpaaGreatDoorBRd
import Derived.Test.YtfnlgfacadmjpaaGreatDoorGRh
namespace Go.Proofs.YtfnlgfacadmjpaaGreatDoor.Bu
open Go.RowKit

/-- What read leaves. -/
def RdO (s : List UInt8) (near : Int) (w : World) (e : Ending) (w' : World) : Prop :=
  (∃ c t cor del, Hdr (hws s) near c t cor del ∧ e = .returned (.tuple #[bulV (S c) t cor del (.slice none 0 0), .bool true]) ∧ Below w.heap.size w w') ∨
  ((∀ c t cor del, ¬ Hdr (hws s) near c t cor del) ∧ (∃ (c : ByteArray) (t x y : Int), e = .returned (.tuple #[bulV c t x y (.slice none 0 0), .bool false])) ∧ Below w.heap.size w w')
/-- What is known between the steps: two boxes of bulletins. -/
structure R2 (W : World) (cs : Array Value) (w : World) : Prop where
  below : Below W.heap.size W w
  r4 : Row w W.heap.size 24 #[.string ⟨#[]⟩, .int .i64 0, .int .i64 0, .int .i64 0, .slice none 0 0]
  r6 : Row w (W.heap.size + 1) 24 cs
theorem R2.under {W w w' : World} {cs : Array Value} (h : R2 W cs w) (hb : Below w.heap.size w w') : R2 W cs w' := ⟨h.below.trans (hb.mono h.below.size), h.r4.under hb, h.r6.under hb⟩
theorem R2.put {W w : World} {cs : Array Value} (h : R2 W cs w) (j : Nat) (u : Value) : R2 W (cs.setIfInBounds j u) (w.setCell ⟨W.heap.size + 1, j, none⟩ u) :=
  ⟨h.below.setCell (p := ⟨W.heap.size + 1, j, none⟩) (by show W.heap.size ≤ W.heap.size + 1; omega) u, h.r4.far (p := ⟨W.heap.size + 1, j, none⟩) (by show W.heap.size + 1 ≠ W.heap.size; omega) u, h.r6.put j u⟩
theorem hdr_sy {s c : List UInt8} {near t cor del : Int} (h : Hdr (hws s) near c t cor del) : 17 ≤ s.length ∧ s.take 6 = sy ++ [32] ∧ s[10]? = some 32 := by
  obtain ⟨st, mark, e, h4, h6, -⟩ := hdr_form h
  rw [e]
  refine ⟨by simp [sy, h4, h6]; omega, by simp [sy], ?_⟩
  rw [show sy ++ 32 :: (c ++ 32 :: (st ++ mark)) = (sy ++ 32 :: c) ++ 32 :: (st ++ mark) by simp, List.getElem?_append_right (by simp [sy, h4])]
  simp [sy, h4]
set_option maxRecDepth 100000 in
set_option maxHeartbeats 4000000 in
theorem refRead_any (s : List UInt8) (near : Int) (w : World) (hs : s.length ≤ 4000) :
    Calls Tryz.prog 56 #[.string (S s), .int .i64 near] w (RdO s near w) := by
  have HX := Lib.hid (fun (a b : Nat) => S_extract s a b)
  have hsz : (S s).size = s.length := S_size s
  have HA : Hid (∀ k (h : k < (S s).size), s[k]? = some ((S s)[k]'h)) := Lib.hid (fun k h => by
    have h' : k < s.length := by rw [S_size] at h; exact h
    rw [List.getElem?_eq_getElem h']
    rfl)
  have HYES : Hid (∀ c t cor del w', Hdr (hws s) near c t cor del → Below w.heap.size w w' → RdO s near w (.returned (.tuple #[bulV (S c) t cor del (.slice none 0 0), .bool true])) w') := Lib.hid (fun c t cor del w' h hb => .inl ⟨c, t, cor, del, h, rfl, hb⟩)
  have HNO : Hid (∀ (c' : ByteArray) (t' x y : Int) w', (∀ c t cor del, ¬ Hdr (hws s) near c t cor del) → Below w.heap.size w w' → RdO s near w (.returned (.tuple #[bulV c' t' x y (.slice none 0 0), .bool false])) w') := Lib.hid (fun c' t' x y w' h hb => .inr ⟨h, ⟨c', t', x, y, rfl⟩, hb⟩)
  generalize hq : RdO s near w = QQ at *
  clear hq
  have HLS := Lib.hid hs
  clear hs
  generalize ht : S s = t at *
  have HT := Lib.hid ht; clear ht
  go_enter Tryz.func56, Tryz.ntmps56
  go_upto_region 2 with fail
  refine forget (fun Y => R2 w #[.string ⟨#[]⟩, .int .i64 0, .int .i64 0, .int .i64 0, .slice none 0 0] Y) ⟨((Below.refl _ _).alloc (Nat.le_refl _) _).alloc (by simp) _, (Row.new w _ _).alloc _, Row.newAt (by simp)⟩ ?_
  rintro Y M
  by_cases h17 : t.size < 17
  · have n17 : (t.size : Int) < 17 := by omega
    have HN : Hid (∀ c t' cor del, ¬ Hdr (hws s) near c t' cor del) := Lib.hid (fun c t' cor del h => by have := (hdr_sy h).1; omega)
    clear h17 hsz
    have f0 := M.r4.thaw 0
    have f1 := M.r4.thaw 1
    have f2 := M.r4.thaw 2
    have f3 := M.r4.thaw 3
    have f4 := M.r4.thaw 4
    obtain ⟨q0, q1, q2, q3, q4⟩ := row5 M.r4
    obtain ⟨p0, p1, p2, p3, p4⟩ := row5 M.r6
    have HZ := Lib.hid (set5_row (.string ⟨#[]⟩) (.int .i64 0) (.int .i64 0) (.int .i64 0) (.slice none 0 0) M.r4)
    have HF := Lib.hid (set5_below (u0 := .string ⟨#[]⟩) (u1 := .int .i64 0) (u2 := .int .i64 0) (u3 := .int .i64 0) (u4 := .slice none 0 0) M.below (Nat.le_refl _))
    clear M
    go_wp2_with fail
    clear f0 f1 f2 f3 f4 q0 q1 q2 q3 q4 p0 p1 p2 p3 p4
    exact bodyPost_ret (v := .tuple #[.agg #[.string ⟨#[]⟩, .int .i64 0, .int .i64 0, .int .i64 0, .slice none 0 0], .bool false]) (by obtain ⟨z0, z1, z2, z3, z4⟩ := row5 HZ.out; simp [results, Tryz.results56, z0, z1, z2, z3, z4, go_sem]) rfl (HNO.out _ _ _ _ _ HN.out HF.out)
  have n17 : ¬ (t.size : Int) < 17 := by omega
  have n6 : (6 : Int) ≤ (t.size : Int) := by omega
  have m6 : 6 ≤ t.size := by omega
  have m10 : 10 < t.size := by omega
  have n10 : (10 : Int) < (t.size : Int) := by omega
  have HSZ := Lib.hid hsz; clear hsz
  by_cases h6 : (t.extract 0 6).toList = [83, 89, 78, 79, 80, 32]
  case neg =>
    have HN : Hid (∀ c t' cor del, ¬ Hdr (hws s) near c t' cor del) := Lib.hid (fun c t' cor del h => by
      have h1 := (hdr_sy h).2.1
      apply h6
      rw [HX.out, S_tl, List.drop_zero, h1]
      rfl)
    clear h17
    have f0 := M.r4.thaw 0
    have f1 := M.r4.thaw 1
    have f2 := M.r4.thaw 2
    have f3 := M.r4.thaw 3
    have f4 := M.r4.thaw 4
    obtain ⟨q0, q1, q2, q3, q4⟩ := row5 M.r4
    obtain ⟨p0, p1, p2, p3, p4⟩ := row5 M.r6
    have HZ := Lib.hid (set5_row (.string ⟨#[]⟩) (.int .i64 0) (.int .i64 0) (.int .i64 0) (.slice none 0 0) M.r4)
    have HF := Lib.hid (set5_below (u0 := .string ⟨#[]⟩) (u1 := .int .i64 0) (u2 := .int .i64 0) (u3 := .int .i64 0) (u4 := .slice none 0 0) M.below (Nat.le_refl _))
    clear M
    go_wp2_with fail
    clear f0 f1 f2 f3 f4 q0 q1 q2 q3 q4 p0 p1 p2 p3 p4
    exact bodyPost_ret (v := .tuple #[.agg #[.string ⟨#[]⟩, .int .i64 0, .int .i64 0, .int .i64 0, .slice none 0 0], .bool false]) (by obtain ⟨z0, z1, z2, z3, z4⟩ := row5 HZ.out; simp [results, Tryz.results56, z0, z1, z2, z3, z4, go_sem]) rfl (HNO.out _ _ _ _ _ HN.out HF.out)
  by_cases h10 : ((t[10].toNat : Int) == 32) = true
  case neg =>
    have h10' : ((t[10].toNat : Int) == 32) = false := by cases hh : ((t[10].toNat : Int) == 32) <;> simp_all
    have HN : Hid (∀ c t' cor del, ¬ Hdr (hws s) near c t' cor del) := Lib.hid (fun c t' cor del h => by
      have h1 := (hdr_sy h).2.2
      rw [HA.out 10 m10] at h1
      have h2 := Option.some.inj h1
      apply h10
      rw [h2]
      rfl)
    clear h17 h10
    have f0 := M.r4.thaw 0
    have f1 := M.r4.thaw 1
    have f2 := M.r4.thaw 2
    have f3 := M.r4.thaw 3
    have f4 := M.r4.thaw 4
    obtain ⟨q0, q1, q2, q3, q4⟩ := row5 M.r4
    obtain ⟨p0, p1, p2, p3, p4⟩ := row5 M.r6
    have HZ := Lib.hid (set5_row (.string ⟨#[]⟩) (.int .i64 0) (.int .i64 0) (.int .i64 0) (.slice none 0 0) M.r4)
    have HF := Lib.hid (set5_below (u0 := .string ⟨#[]⟩) (u1 := .int .i64 0) (u2 := .int .i64 0) (u3 := .int .i64 0) (u4 := .slice none 0 0) M.below (Nat.le_refl _))
    clear M
    go_wp2_with fail
    clear f0 f1 f2 f3 f4 q0 q1 q2 q3 q4 p0 p1 p2 p3 p4
    exact bodyPost_ret (v := .tuple #[.agg #[.string ⟨#[]⟩, .int .i64 0, .int .i64 0, .int .i64 0, .slice none 0 0], .bool false]) (by obtain ⟨z0, z1, z2, z3, z4⟩ := row5 HZ.out; simp [results, Tryz.results56, z0, z1, z2, z3, z4, go_sem]) rfl (HNO.out _ _ _ _ _ HN.out HF.out)
  have HC := Lib.hid (cols (s := s) (by have := HSZ.out; omega) (by
    rw [HX.out, S_tl, List.drop_zero] at h6
    rw [h6]; rfl) (by
    rw [HA.out 10 m10]
    congr 1
    have := eq_of_beq h10
    exact UInt8.toNat_inj.1 (by rw [show (32 : UInt8).toNat = 32 from rfl]; omega)))
  have E6 : Hid (t.extract 6 10 = S ((s.take 10).drop 6)) := Lib.hid (HX.out 6 10)
  have E11 : Hid (t.extract 11 17 = S ((s.take 17).drop 11)) := Lib.hid (HX.out 11 17)
  have E17 : Hid (t.extract 17 t.size = S (s.drop 17)) := Lib.hid (by rw [HX.out, HSZ.out, List.take_length])
  generalize (s.take 10).drop 6 = c at *
  generalize (s.take 17).drop 11 = st at *
  generalize s.drop 17 = mark at *
  have HH : Hid (∀ c' t' cor del, Hdr (hws s) near c' t' cor del ↔ c' = c ∧ ctr (S c) = true ∧ Stm st near t' ∧ ((mark = [] ∧ cor = 0 ∧ del = 0) ∨ ∃ n, (1 ≤ n ∧ n ≤ 26) ∧ ((mark = 32 :: ([67, 67] ++ ltr n) ∧ cor = n ∧ del = 0) ∨ (mark = 32 :: ([82, 82] ++ ltr n) ∧ cor = 0 ∧ del = n)))) := Lib.hid (fun c' t' cor del => hdr_cols HC.out.1 HC.out.2.1 HC.out.2.2 near c' t' cor del)
  have k11 : (11 : Int) ≤ (t.size : Int) := by omega
  have k17 : (17 : Int) ≤ (t.size : Int) := by omega
  have k10 : (10 : Int) ≤ (t.size : Int) := by omega
  have l17 : 17 ≤ t.size := by omega
  have l10 : 10 ≤ t.size := by omega
  have HM := Lib.hid M; clear M h17
  go_wp2_with fail
  rw [E11.out]
  refine (refRes_any st near _).mono ?_
  rintro e w1 ⟨h, b1⟩
  have HM := Lib.hid (HM.out.under b1); clear b1
  rcases h with ⟨a, hst, rfl⟩ | ⟨hno, r, hr, rfl⟩
  case inr =>
    have HR := Lib.hid hr
    have r1 : ¬ (r = 0) := hr
    clear hr
    obtain ⟨p0, p1, p2, p3, p4⟩ := row5 HM.out.r6
    have g0 := HM.out.r6.thaw 0
    have g1 := HM.out.r6.thaw 1
    go_upto_region 6 with fail
    rw [E6.out]
    refine forget (fun Y => R2 w #[.string (S c), .int .i64 0, .int .i64 0, .int .i64 0, .slice none 0 0] Y) ((HM.out.put 0 (.string (S c))).put 1 (.int .i64 0)) ?_
    clear HM p0 p1 p2 p3 p4 g0 g1
    rintro Y2 M
    have HN : Hid (∀ c' t' cor del, ¬ Hdr (hws s) near c' t' cor del) := Lib.hid (fun c' t' cor del h => hno t' ((HH.out c' t' cor del).1 h).2.2.1)
    have f0 := M.r4.thaw 0
    have f1 := M.r4.thaw 1
    have f2 := M.r4.thaw 2
    have f3 := M.r4.thaw 3
    have f4 := M.r4.thaw 4
    obtain ⟨q0, q1, q2, q3, q4⟩ := row5 M.r4
    obtain ⟨p0, p1, p2, p3, p4⟩ := row5 M.r6
    have HZ := Lib.hid (set5_row (.string (S c)) (.int .i64 0) (.int .i64 0) (.int .i64 0) (.slice none 0 0) M.r4)
    have HF := Lib.hid (set5_below (u0 := .string (S c)) (u1 := .int .i64 0) (u2 := .int .i64 0) (u3 := .int .i64 0) (u4 := .slice none 0 0) M.below (Nat.le_refl _))
    clear M
    go_wp2_with fail
    clear f0 f1 f2 f3 f4 q0 q1 q2 q3 q4 p0 p1 p2 p3 p4
    exact bodyPost_ret (v := .tuple #[.agg #[.string (S c), .int .i64 0, .int .i64 0, .int .i64 0, .slice none 0 0], .bool false]) (by obtain ⟨z0, z1, z2, z3, z4⟩ := row5 HZ.out; simp [results, Tryz.results56, z0, z1, z2, z3, z4, go_sem]) rfl (HNO.out _ _ _ _ _ HN.out HF.out)
  have HST := Lib.hid hst; clear hst
  obtain ⟨p0, p1, p2, p3, p4⟩ := row5 HM.out.r6
  have g0 := HM.out.r6.thaw 0
  have g1 := HM.out.r6.thaw 1
  go_upto_region 6 with fail
  rw [E6.out]
  refine forget (fun Y => R2 w #[.string (S c), .int .i64 a, .int .i64 0, .int .i64 0, .slice none 0 0] Y) ((HM.out.put 0 (.string (S c))).put 1 (.int .i64 a)) ?_
  clear HM p0 p1 p2 p3 p4 g0 g1
  rintro Y2 M
  obtain ⟨p0, p1, p2, p3, p4⟩ := row5 M.r6
  have HCZ : Hid ((S c).size ≤ 9223372036854775807) := Lib.hid (by rw [S_size, HC.out.2.1]; decide)
  cases hcc : ctr (S c)
  · have HN : Hid (∀ c' t' cor del, ¬ Hdr (hws s) near c' t' cor del) := Lib.hid (fun c' t' cor del h => by
      have := ((HH.out c' t' cor del).1 h).2.1
      rw [hcc] at this
      cases this)
    have HCC := Lib.hid hcc; clear hcc
    have HM := Lib.hid M; clear M
    go_upto_region 7 with (go_at_call 45; refine (refCentre_any (S c) _ HCZ.out).mono ?_; rintro e w5 ⟨rfl, rfl⟩; rw [HCC.out])
    clear p0 p1 p2 p3 p4
    have M := HM.out; clear HM
    have f0 := M.r4.thaw 0
    have f1 := M.r4.thaw 1
    have f2 := M.r4.thaw 2
    have f3 := M.r4.thaw 3
    have f4 := M.r4.thaw 4
    obtain ⟨q0, q1, q2, q3, q4⟩ := row5 M.r4
    obtain ⟨p0, p1, p2, p3, p4⟩ := row5 M.r6
    have HZ := Lib.hid (set5_row (.string (S c)) (.int .i64 a) (.int .i64 0) (.int .i64 0) (.slice none 0 0) M.r4)
    have HF := Lib.hid (set5_below (u0 := .string (S c)) (u1 := .int .i64 a) (u2 := .int .i64 0) (u3 := .int .i64 0) (u4 := .slice none 0 0) M.below (Nat.le_refl _))
    clear M
    go_wp2_with fail
    clear f0 f1 f2 f3 f4 q0 q1 q2 q3 q4 p0 p1 p2 p3 p4
    exact bodyPost_ret (v := .tuple #[.agg #[.string (S c), .int .i64 a, .int .i64 0, .int .i64 0, .slice none 0 0], .bool false]) (by obtain ⟨z0, z1, z2, z3, z4⟩ := row5 HZ.out; simp [results, Tryz.results56, z0, z1, z2, z3, z4, go_sem]) rfl (HNO.out _ _ _ _ _ HN.out HF.out)
  have HCC := Lib.hid hcc; clear hcc
  have HM := Lib.hid M; clear M
  go_upto_region 9 with (go_at_call 45; refine (refCentre_any (S c) _ HCZ.out).mono ?_; rintro e w5 ⟨rfl, rfl⟩; rw [HCC.out])
  rw [E17.out]
  clear p0 p1 p2 p3 p4
  go_wp2_with fail
  go_loopw [10] (fun u wr => ∃ n : Nat, 1 ≤ n ∧ n ≤ 27 ∧ u = .int .i64 n ∧ (∀ j : Nat, 1 ≤ j → j < n → mark ≠ 32 :: ([67, 67] ++ ltr j) ∧ mark ≠ 32 :: ([82, 82] ++ ltr j)) ∧ R2 w #[.string (S c), .int .i64 a, .int .i64 0, .int .i64 0, .slice none 0 0] wr) (fun u _ => 27 - (intOf u).toNat)
  case atStart => exact ⟨1, by omega, by omega, rfl, fun j h1 h2 => by omega, HM.out⟩
  case round =>
    clear HM
    obtain ⟨n, h1, h2, rfl, hall, M⟩ := hrel
    have HALL := Lib.hid hall; clear hall
    by_cases h26 : n ≤ 26
    · have n26 : (n : Int) ≤ 26 := by omega
      have HM := Lib.hid M; clear M
      go_wp2_with fail
      refine (refLetter_any n _ ⟨by omega, by omega⟩).mono ?_
      rintro e w6 ⟨rfl, b6⟩
      have M := HM.out.under b6; clear HM b6
      by_cases hP : mark = 32 :: ([67, 67] ++ ltr n)
      · have hq : ((S mark).toList == ((⟨#[32, 67, 67]⟩ : ByteArray) ++ S (ltr n)).toList) = true := by rw [show (⟨#[32, 67, 67]⟩ : ByteArray) ++ S (ltr n) = S (32 :: ([67, 67] ++ ltr n)) from S_add [32, 67, 67] (ltr n), hP]; exact beq_self_eq_true _
        have HH1 := Lib.hid ((HH.out c a n 0).2 ⟨rfl, HCC.out, HST.out, .inr ⟨n, ⟨by omega, by omega⟩, .inl ⟨hP, rfl, rfl⟩⟩⟩)
        clear hP
        obtain ⟨p0, p1, p2, p3, p4⟩ := row5 M.r6
        have g0 := M.r6.thaw 2
        go_upto_region 14 with fail
        refine forget (fun Y => R2 w #[.string (S c), .int .i64 a, .int .i64 n, .int .i64 0, .slice none 0 0] Y) (M.put 2 (.int .i64 n)) ?_
        clear M p0 p1 p2 p3 p4 g0
        rintro Y3 M
        have f0 := M.r4.thaw 0
        have f1 := M.r4.thaw 1
        have f2 := M.r4.thaw 2
        have f3 := M.r4.thaw 3
        have f4 := M.r4.thaw 4
        obtain ⟨q0, q1, q2, q3, q4⟩ := row5 M.r4
        obtain ⟨p0, p1, p2, p3, p4⟩ := row5 M.r6
        have HZ := Lib.hid (set5_row (.string (S c)) (.int .i64 a) (.int .i64 n) (.int .i64 0) (.slice none 0 0) M.r4)
        have HF := Lib.hid (set5_below (u0 := .string (S c)) (u1 := .int .i64 a) (u2 := .int .i64 n) (u3 := .int .i64 0) (u4 := .slice none 0 0) M.below (Nat.le_refl _))
        clear M
        go_wp2_with fail
        clear f0 f1 f2 f3 f4 q0 q1 q2 q3 q4 p0 p1 p2 p3 p4
        exact bodyPost_ret (v := .tuple #[.agg #[.string (S c), .int .i64 a, .int .i64 n, .int .i64 0, .slice none 0 0], .bool true]) (by obtain ⟨z0, z1, z2, z3, z4⟩ := row5 HZ.out; simp [results, Tryz.results56, z0, z1, z2, z3, z4, go_sem]) rfl (HYES.out _ _ _ _ _ HH1.out HF.out)
      · have hq : ((S mark).toList == ((⟨#[32, 67, 67]⟩ : ByteArray) ++ S (ltr n)).toList) = false := beq_eq_false_iff_ne.2 (fun e => hP (by rw [show (⟨#[32, 67, 67]⟩ : ByteArray) ++ S (ltr n) = S (32 :: ([67, 67] ++ ltr n)) from S_add [32, 67, 67] (ltr n), S_tl, S_tl] at e; exact e))
        have HP := Lib.hid hP; clear hP
        have HM := Lib.hid M; clear M
        go_wp2_with fail
        refine (refLetter_any n _ ⟨by omega, by omega⟩).mono ?_
        rintro e w7 ⟨rfl, b7⟩
        have M := HM.out.under b7; clear HM b7 hq
        by_cases hR : mark = 32 :: ([82, 82] ++ ltr n)
        · have hq : ((S mark).toList == ((⟨#[32, 82, 82]⟩ : ByteArray) ++ S (ltr n)).toList) = true := by rw [show (⟨#[32, 82, 82]⟩ : ByteArray) ++ S (ltr n) = S (32 :: ([82, 82] ++ ltr n)) from S_add [32, 82, 82] (ltr n), hR]; exact beq_self_eq_true _
          have HH1 := Lib.hid ((HH.out c a 0 n).2 ⟨rfl, HCC.out, HST.out, .inr ⟨n, ⟨by omega, by omega⟩, .inr ⟨hR, rfl, rfl⟩⟩⟩)
          clear hR
          obtain ⟨p0, p1, p2, p3, p4⟩ := row5 M.r6
          have g0 := M.r6.thaw 3
          go_upto_region 17 with fail
          refine forget (fun Y => R2 w #[.string (S c), .int .i64 a, .int .i64 0, .int .i64 n, .slice none 0 0] Y) (M.put 3 (.int .i64 n)) ?_
          clear M p0 p1 p2 p3 p4 g0
          rintro Y3 M
          have f0 := M.r4.thaw 0
          have f1 := M.r4.thaw 1
          have f2 := M.r4.thaw 2
          have f3 := M.r4.thaw 3
          have f4 := M.r4.thaw 4
          obtain ⟨q0, q1, q2, q3, q4⟩ := row5 M.r4
          obtain ⟨p0, p1, p2, p3, p4⟩ := row5 M.r6
          have HZ := Lib.hid (set5_row (.string (S c)) (.int .i64 a) (.int .i64 0) (.int .i64 n) (.slice none 0 0) M.r4)
          have HF := Lib.hid (set5_below (u0 := .string (S c)) (u1 := .int .i64 a) (u2 := .int .i64 0) (u3 := .int .i64 n) (u4 := .slice none 0 0) M.below (Nat.le_refl _))
          clear M
          go_wp2_with fail
          clear f0 f1 f2 f3 f4 q0 q1 q2 q3 q4 p0 p1 p2 p3 p4
          exact bodyPost_ret (v := .tuple #[.agg #[.string (S c), .int .i64 a, .int .i64 0, .int .i64 n, .slice none 0 0], .bool true]) (by obtain ⟨z0, z1, z2, z3, z4⟩ := row5 HZ.out; simp [results, Tryz.results56, z0, z1, z2, z3, z4, go_sem]) rfl (HYES.out _ _ _ _ _ HH1.out HF.out)
        · have hq : ((S mark).toList == ((⟨#[32, 82, 82]⟩ : ByteArray) ++ S (ltr n)).toList) = false := beq_eq_false_iff_ne.2 (fun e => hR (by rw [show (⟨#[32, 82, 82]⟩ : ByteArray) ++ S (ltr n) = S (32 :: ([82, 82] ++ ltr n)) from S_add [32, 82, 82] (ltr n), S_tl, S_tl] at e; exact e))
          have HALL2 : Hid (∀ j : Nat, 1 ≤ j → j < n + 1 → mark ≠ 32 :: ([67, 67] ++ ltr j) ∧ mark ≠ 32 :: ([82, 82] ++ ltr j)) := Lib.hid (fun j j1 j2 => by
            rcases Nat.lt_or_ge j n with h | h
            · exact HALL.out j j1 h
            · obtain rfl : j = n := by omega
              exact ⟨HP.out, hR⟩)
          clear hR
          have HM := Lib.hid M; clear M
          go_wp2_with fail
          go_roundw
          case rel => exact ⟨n + 1, by omega, by omega, by go_num, HALL2.out, HM.out⟩
          case measure => simp [intOf]; omega
    · have n26 : ¬ ((n : Int) ≤ 26) := by omega
      have hall26 : ∀ m : Int, 1 ≤ m ∧ m ≤ 26 → mark ≠ 32 :: ([67, 67] ++ ltr m) ∧ mark ≠ 32 :: ([82, 82] ++ ltr m) := fun m hm => by
        obtain ⟨q, rfl⟩ := Int.eq_ofNat_of_zero_le (show 0 ≤ m by omega)
        exact HALL.out q (by omega) (by omega)
      have HA26 := Lib.hid hall26; clear hall26
      by_cases hz : mark = []
      · have HH1 := Lib.hid ((HH.out c a 0 0).2 ⟨rfl, HCC.out, HST.out, .inl ⟨hz, rfl, rfl⟩⟩)
        have hq : (S mark).toList = [] := by rw [S_tl]; exact hz
        clear hz
        have f0 := M.r4.thaw 0
        have f1 := M.r4.thaw 1
        have f2 := M.r4.thaw 2
        have f3 := M.r4.thaw 3
        have f4 := M.r4.thaw 4
        obtain ⟨q0, q1, q2, q3, q4⟩ := row5 M.r4
        obtain ⟨p0, p1, p2, p3, p4⟩ := row5 M.r6
        have HZ := Lib.hid (set5_row (.string (S c)) (.int .i64 a) (.int .i64 0) (.int .i64 0) (.slice none 0 0) M.r4)
        have HF := Lib.hid (set5_below (u0 := .string (S c)) (u1 := .int .i64 a) (u2 := .int .i64 0) (u3 := .int .i64 0) (u4 := .slice none 0 0) M.below (Nat.le_refl _))
        clear M
        go_wp2_with fail
        clear f0 f1 f2 f3 f4 q0 q1 q2 q3 q4 p0 p1 p2 p3 p4
        exact bodyPost_ret (v := .tuple #[.agg #[.string (S c), .int .i64 a, .int .i64 0, .int .i64 0, .slice none 0 0], .bool true]) (by obtain ⟨z0, z1, z2, z3, z4⟩ := row5 HZ.out; simp [results, Tryz.results56, z0, z1, z2, z3, z4, go_sem]) rfl (HYES.out _ _ _ _ _ HH1.out HF.out)
      · have hq : ¬ (S mark).toList = [] := fun e => hz (by rw [S_tl] at e; exact e)
        have HN : Hid (∀ c' t' cor del, ¬ Hdr (hws s) near c' t' cor del) := Lib.hid (fun c' t' cor del h => by
          rcases ((HH.out c' t' cor del).1 h).2.2.2 with ⟨h1, -⟩ | ⟨m, hm, ⟨h1, -⟩ | ⟨h1, -⟩⟩
          · exact hz h1
          · exact (HA26.out m hm).1 h1
          · exact (HA26.out m hm).2 h1)
        have f0 := M.r4.thaw 0
        have f1 := M.r4.thaw 1
        have f2 := M.r4.thaw 2
        have f3 := M.r4.thaw 3
        have f4 := M.r4.thaw 4
        obtain ⟨q0, q1, q2, q3, q4⟩ := row5 M.r4
        obtain ⟨p0, p1, p2, p3, p4⟩ := row5 M.r6
        have HZ := Lib.hid (set5_row (.string (S c)) (.int .i64 a) (.int .i64 0) (.int .i64 0) (.slice none 0 0) M.r4)
        have HF := Lib.hid (set5_below (u0 := .string (S c)) (u1 := .int .i64 a) (u2 := .int .i64 0) (u3 := .int .i64 0) (u4 := .slice none 0 0) M.below (Nat.le_refl _))
        clear M
        go_wp2_with fail
        clear f0 f1 f2 f3 f4 q0 q1 q2 q3 q4 p0 p1 p2 p3 p4
        exact bodyPost_ret (v := .tuple #[.agg #[.string (S c), .int .i64 a, .int .i64 0, .int .i64 0, .slice none 0 0], .bool false]) (by obtain ⟨z0, z1, z2, z3, z4⟩ := row5 HZ.out; simp [results, Tryz.results56, z0, z1, z2, z3, z4, go_sem, hq]) rfl (HNO.out _ _ _ _ _ HN.out HF.out)
end Go.Proofs.YtfnlgfacadmjpaaGreatDoor.Bu
