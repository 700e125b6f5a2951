/- Both readings of a text are the same. -/
import Derived.Test.YtaohndjlaamdaaaDoorBackLaw
import Derived.Test.YtaohndjlaamdaaaDoorRefParse
namespace Go.Proofs.YtaohndjlaamdaaaDoor
open Go.RowKit

theorem b10_eq {x : Int} {c : UInt8} (h1 : 48 ≤ c.toNat) (h : x = (c.toNat : Int) - 48) : b10 x = c := by
  unfold b10; rw [show 48 + x.toNat = c.toNat by omega]; exact UInt8.ofNat_toNat
theorem digs_cons (c : UInt8) (l : List UInt8) : digs (c :: l) = true ↔ (48 ≤ c.toNat ∧ c.toNat ≤ 57) ∧ digs l = true := by
  simp [digs]
theorem dig2_numv {a b : UInt8} (h : digs [a, b] = true) : dig2 (numv [a, b]) = [a, b] := by
  simp only [digs_cons] at h
  obtain ⟨⟨a1, a2⟩, ⟨b1, b2⟩, -⟩ := h
  have e : numv [a, b] = 10 * ((a.toNat : Int) - 48) + ((b.toNat : Int) - 48) := by simp only [numv, List.foldl]; omega
  rw [e]; unfold dig2
  rw [b10_eq a1 (by omega), b10_eq b1 (by omega)]
theorem dig4_numv {a b c d : UInt8} (h : digs [a, b, c, d] = true) : dig4 (numv [a, b, c, d]) = [a, b, c, d] := by
  simp only [digs_cons] at h
  obtain ⟨⟨a1, a2⟩, ⟨b1, b2⟩, ⟨c1, c2⟩, ⟨d1, d2⟩, -⟩ := h
  have e : numv [a, b, c, d] = 1000 * ((a.toNat : Int) - 48) + 100 * ((b.toNat : Int) - 48) + 10 * ((c.toNat : Int) - 48) + ((d.toNat : Int) - 48) := by simp only [numv, List.foldl]; omega
  rw [e]; unfold dig4
  rw [b10_eq a1 (by omega), b10_eq b1 (by omega), b10_eq c1 (by omega), b10_eq d1 (by omega)]
theorem rnum_nonneg {l : List UInt8} (h : 0 ≤ rnum l) : digs l = true ∧ rnum l = numv l := by
  unfold rnum at h ⊢
  by_cases hd : digs l = true
  · exact ⟨hd, by rw [if_pos hd]⟩
  · rw [if_neg hd] at h; omega
theorem list16 (l : List UInt8) (h : l.length = 16) : ∃ c0 c1 c2 c3 c4 c5 c6 c7 c8 c9 c10 c11 c12 c13 c14 c15, l = [c0, c1, c2, c3, c4, c5, c6, c7, c8, c9, c10, c11, c12, c13, c14, c15] := by
  match l, h with
  | [c0, c1, c2, c3, c4, c5, c6, c7, c8, c9, c10, c11, c12, c13, c14, c15], _ => exact ⟨c0, c1, c2, c3, c4, c5, c6, c7, c8, c9, c10, c11, c12, c13, c14, c15, rfl⟩
theorem fld_S (l : List UInt8) (a b : Nat) : fld (S l) a b = numv ((l.drop a).take (b - a)) := by unfold fld; rw [extract_S]
theorem rfld_S (l : List UInt8) (a b : Nat) : rfld (S l) a b = rnum ((l.drop a).take (b - a)) := by unfold rfld; rw [extract_S]
theorem u8_of {c : UInt8} {n : Nat} (h : c.toNat = n) : c = UInt8.ofNat n := by
  rw [← h, UInt8.ofNat_toNat]
/-- What the reference takes is the text of its date. -/
theorem good_txt (s : ByteArray) (hs : s.size = 16) (h : seps s hs) (hv : Cal.vld (rfld s 0 4) (rfld s 5 7) (rfld s 8 10) (rfld s 11 13) (rfld s 14 16) = true) :
    s = S (txt (rfld s 0 4) (rfld s 5 7) (rfld s 8 10) (rfld s 11 13) (rfld s 14 16)) := by
  obtain ⟨⟨a1, a2, a3, a4⟩, a5, a6, a7, a8, a9, a10⟩ := Cal.vld_iff.1 hv
  clear hv
  obtain ⟨c0, c1, c2, c3, c4, c5, c6, c7, c8, c9, c10, c11, c12, c13, c14, c15, hl⟩ := list16 s.data.toList (by rw [Array.length_toList]; exact hs)
  obtain rfl : s = S [c0, c1, c2, c3, c4, c5, c6, c7, c8, c9, c10, c11, c12, c13, c14, c15] := by rw [← hl, S_of]
  clear hl
  simp only [rfld_S, List.drop, List.take, Nat.reduceSub] at *
  obtain ⟨y1, y2⟩ := rnum_nonneg (l := [c0, c1, c2, c3]) (by omega)
  obtain ⟨m1, m2⟩ := rnum_nonneg (l := [c5, c6]) (by omega)
  obtain ⟨d1, d2⟩ := rnum_nonneg (l := [c8, c9]) (by omega)
  obtain ⟨h1, h2⟩ := rnum_nonneg (l := [c11, c12]) (by omega)
  obtain ⟨i1, i2⟩ := rnum_nonneg (l := [c14, c15]) (by omega)
  obtain ⟨p1, p2, p3, p4⟩ := h
  rw [y2, m2, d2, h2, i2]
  unfold txt
  rw [dig4_numv y1, dig2_numv m1, dig2_numv d1, dig2_numv h1, dig2_numv i1]
  have q1 : c4 = 45 := u8_of p1
  have q2 : c7 = 45 := u8_of p2
  have q3 : c10 = 32 := u8_of p3
  have q4 : c13 = 58 := u8_of p4
  rw [q1, q2, q3, q4]
  rfl
theorem digs_dig2 {n : Int} (h1 : 0 ≤ n) (h2 : n ≤ 99) : digs (dig2 n) = true := by
  have a := b10_toNat (x := n / 10) (by omega) (by omega)
  have b := b10_toNat (x := n % 10) (by omega) (by omega)
  unfold dig2
  simp only [digs_cons]
  exact ⟨⟨by omega, by omega⟩, ⟨by omega, by omega⟩, rfl⟩
theorem digs_dig4 {n : Int} (h1 : 0 ≤ n) (h2 : n ≤ 9999) : digs (dig4 n) = true := by
  have a := b10_toNat (x := n / 1000) (by omega) (by omega)
  have b := b10_toNat (x := n / 100 % 10) (by omega) (by omega)
  have c := b10_toNat (x := n / 10 % 10) (by omega) (by omega)
  have d := b10_toNat (x := n % 10) (by omega) (by omega)
  unfold dig4
  simp only [digs_cons]
  exact ⟨⟨by omega, by omega⟩, ⟨by omega, by omega⟩, ⟨by omega, by omega⟩, ⟨by omega, by omega⟩, rfl⟩
theorem txt_rfld {y m d h i : Int} (hv : Cal.vld y m d h i = true) :
    rfld (S (txt y m d h i)) 0 4 = y ∧ rfld (S (txt y m d h i)) 5 7 = m ∧ rfld (S (txt y m d h i)) 8 10 = d ∧ rfld (S (txt y m d h i)) 11 13 = h ∧ rfld (S (txt y m d h i)) 14 16 = i := by
  obtain ⟨⟨a1, a2, a3, a4⟩, a5, a6, a7, a8, a9, a10⟩ := Cal.vld_iff.1 hv
  have c2 := Cal.dim_bd y m
  simp only [rfld_S]
  exact ⟨(rnum_good (digs_dig4 (by omega) (by omega))).trans (numv_dig4 (by omega) (by omega)), (rnum_good (digs_dig2 (by omega) (by omega))).trans (numv_dig2 (by omega) (by omega)), (rnum_good (digs_dig2 (by omega) (by omega))).trans (numv_dig2 (by omega) (by omega)), (rnum_good (digs_dig2 (by omega) (by omega))).trans (numv_dig2 (by omega) (by omega)), (rnum_good (digs_dig2 (by omega) (by omega))).trans (numv_dig2 (by omega) (by omega))⟩
theorem txt_seps (y m d h i : Int) : seps (S (txt y m d h i)) rfl := ⟨rfl, rfl, rfl, rfl⟩
/-- Whatever the text: both functions answer the same. -/
theorem both_parse (s : ByteArray) : ∃ a b : Int,
    (∀ w, Env w → Calls Tryd.prog 23 #[.string s] w fun e w' => e = .returned (.tuple #[.int .i64 a, .int .i64 b]) ∧ Below w.heap.size w w') ∧
    (∀ w, Calls Tryd.prog 30 #[.string s] w fun e w' => e = .returned (.tuple #[.int .i64 a, .int .i64 b]) ∧ Below w.heap.size w w') := by
  by_cases hs : s.size = 16
  · by_cases hg : ∃ y m d h i, Cal.vld y m d h i = true ∧ s = S (txt y m d h i)
    · obtain ⟨y, m, d, h, i, hv, rfl⟩ := hg
      refine ⟨Cal.num y m d h i, 0, fun w hE => parse_txt _ _ _ _ _ _ w hE rfl hv, fun w => ?_⟩
      obtain ⟨e1, e2, e3, e4, e5⟩ := txt_rfld hv
      have k := refParse_yes (S (txt y m d h i)) w rfl (txt_seps _ _ _ _ _) (by rw [e1, e2, e3, e4, e5]; exact hv)
      rw [e1, e2, e3, e4, e5] at k
      exact k
    · refine ⟨0, 3, fun w hE => ?_, fun w => ?_⟩
      · by_cases hv : Cal.vld (fld s 0 4) (fld s 5 7) (fld s 8 10) (fld s 11 13) (fld s 14 16) = true
        · exact parse_other s w hE hs hv fun e => hg ⟨_, _, _, _, _, hv, e.symm⟩
        · exact parse_no s w hE.1 hs (Bool.eq_false_iff.2 hv)
      · by_cases hp : seps s hs
        · by_cases hv : Cal.vld (rfld s 0 4) (rfld s 5 7) (rfld s 8 10) (rfld s 11 13) (rfld s 14 16) = true
          · exact absurd ⟨_, _, _, _, _, hv, good_txt s hs hp hv⟩ hg
          · exact refParse_no s w hs hp (Bool.eq_false_iff.2 hv)
        · exact (refParse_sep s w hs hp).mono fun e w' ⟨h1, h2⟩ => ⟨h1, h2 ▸ Below.refl _ _⟩
  · exact ⟨0, 3, fun w _ => parse_len s w hs, fun w => (refParse_len s w hs).mono fun e w' ⟨h1, h2⟩ => ⟨h1, h2 ▸ Below.refl _ _⟩⟩
end Go.Proofs.YtaohndjlaamdaaaDoor
