/- Contracts of the reference's Append and Read. -/
import Derived.Test.YtjabnicflpeopaaRfC
import Derived.Test.YtjabnicflpeopaaBitG
namespace Go.Proofs.Ytjabnicflpeopaa
open Go.RowKit

theorem pack_cong {n : Nat} {f g : Nat → Bool} (h : ∀ i, i < n → f i = g i) : pack n f = pack n g := (pack_pk n f).eq h
theorem bl_cong {n : Nat} {f g : Nat → Bool} (h : ∀ i, i < n → f i = g i) : bl f n = bl g n := by
  unfold bl
  exact List.map_congr_left (fun i hi => by rw [h i (List.mem_range.1 hi)])
/-- The list of some bits. -/
theorem refOf_bl (w : World) (A : Option Addr) (c : Nat) (f : Nat → Bool) (n : Nat) (h : Ins w A c (bl f n)) (hn : n ≤ 40000) :
    Calls Try.prog 27 #[.slice A n c] w fun e w' => ∃ A' c', e = .returned (btV A' c' (pack n f) n) ∧ Bys w' A' c' (pack n f) ∧ Below w.heap.size w w' := by
  have hl := bl_len f n
  have h0 := refOf_any w A c (bl f n) h (by rw [hl]; exact hn)
  rw [hl] at h0
  have e : pack n (isb (bl f n)) = pack n f := pack_cong (fun i hi => isb_bl f n i hi)
  rw [e] at h0
  exact h0
theorem pack_bl (f : Nat → Bool) (n : Nat) : pack n (isb (bl f n)) = pack n f := pack_cong (fun i hi => isb_bl f n i hi)
set_option maxHeartbeats 1000000 in
theorem refAppend_state (w : World) (A : Option Addr) (c : Nat) (L : List Nat) (n v k : Int) (h : Bys w A c L) (hn0 : -9223372036854775808 ≤ n) (hn1 : n ≤ 9223372036854775807) (hv : vb L n = false) :
    Calls Try.prog 14 #[btV A c L n, .int .i64 v, .int .i64 k] w (Gives (appA L n v k) w) := by
  have E : Hid (appA L n v k = noAns 7) := Lib.hid (by unfold appA; rw [if_pos hv])
  have HV := Lib.hid hv
  clear hv
  have HA : Hid (Below w.heap.size w ((w.alloc (.cells #[.slice A L.length c, .int .i64 n] 24)).alloc (.cells #[.slice none 0 0, .int .i64 0] 24))) := Lib.hid (((Below.refl _ _).alloc (Nat.le_refl _) _).alloc (by simp) _)
  have H := Lib.hid h
  clear h
  go_enter Try.func14, Try.ntmps14
  go_wp2_with fail
  refine (refValid_any _ A c L n (H.out.under HA.out) hn0 hn1).mono ?_
  rw [HV.out]
  rintro e w1 ⟨rfl, hb⟩
  have r0 : Row w1 w.heap.size 24 #[.slice A L.length c, .int .i64 n] := (Row.alloc (Row.new _ _ _) _).under hb
  have r1 : Row w1 (w.heap.size + 1) 24 #[.slice none 0 0, .int .i64 0] := (Row.newAt (by simp)).under hb
  have HB : Hid (Below w.heap.size w w1) := Lib.hid (HA.out.trans (hb.mono HA.out.size))
  have e1 : Hid (w.heap.size ≤ w.heap.size + 1) := Lib.hid (by omega)
  have e2 : Hid (w.heap.size ≠ w.heap.size + 1) := Lib.hid (by omega)
  clear hb HA
  generalize w.heap.size + 1 = g1 at r1 e1 e2 ⊢
  generalize hG : w.heap.size = g0 at r0 e1 e2 HB ⊢
  have G0 := Lib.hid hG
  clear hG
  obtain ⟨p0, p1⟩ := row2 r0
  obtain ⟨q0, q1⟩ := row2 r1
  have f0 := r1.thaw 0
  have f1 := r1.thaw 1
  have R0 := Lib.hid r0
  have R1 := Lib.hid r1
  clear r0 r1
  go_wp2
  have zr := set2_row (.slice none 0 0) (.int .i64 0) R1.out
  have zb := set2_below (u0 := .slice none 0 0) (u1 := .int .i64 0) HB.out e1.out
  clear p0 p1 q0 q1 f0 f1 R1 R0 HB
  generalize (w1.setCell ⟨g1, 0, none⟩ (.slice none 0 0)).setCell ⟨g1, 1, none⟩ (.int .i64 0) = V at zr zb ⊢
  obtain ⟨k0, k1⟩ := row2 zr
  have ZB := Lib.hid zb
  clear zr zb
  exact bodyPost_ret (v := .tuple #[.agg #[.slice none 0 0, .int .i64 0], .int .i64 7]) (by simp [results, Try.results14, go_sem, k0, k1]) rfl (by rw [E.out]; exact ⟨none, 0, rfl, Bys.none _, by rw [G0.out]; exact ZB.out⟩)
set_option maxHeartbeats 2000000 in
theorem refAppend_range (w : World) (A : Option Addr) (c : Nat) (L : List Nat) (n v k : Int) (h : Bys w A c L) (hn0 : -9223372036854775808 ≤ n) (hn1 : n ≤ 9223372036854775807) (hv : vb L n = true) (hf : fits v k = false) :
    Calls Try.prog 14 #[btV A c L n, .int .i64 v, .int .i64 k] w (Gives (appA L n v k) w) := by
  have E : Hid (appA L n v k = noAns 1) := Lib.hid (by unfold appA; rw [if_neg (by simp [hv]), if_pos hf])
  have HV := Lib.hid hv
  clear hv
  by_cases hk : isw k = true
  · obtain ⟨k1, k2⟩ := isw_is hk
    by_cases hv0 : 0 ≤ v
    · obtain ⟨K, rfl⟩ := Int.eq_ofNat_of_zero_le (by omega : 0 ≤ k)
      have hw : ¬ v < 2 ^ K := fun e => by
        have : fits v (K : Int) = true := (fits_iff _ _).2 ⟨k1, k2, hv0, e⟩
        rw [this] at hf; cases hf
      have hp : (2 : Int) ^ K ≤ 16777216 := pow_le24 (by omega)
      have hp0 : (0 : Int) < 2 ^ K := Int.pow_pos (by decide)
      have hw1 : (2 : Int) ^ K ≤ v := by omega
      clear hf hw
      have HA : Hid (Below w.heap.size w ((w.alloc (.cells #[.slice A L.length c, .int .i64 n] 24)).alloc (.cells #[.slice none 0 0, .int .i64 0] 24))) := Lib.hid (((Below.refl _ _).alloc (Nat.le_refl _) _).alloc (by simp) _)
      have H := Lib.hid h
      clear h
      go_enter Try.func14, Try.ntmps14
      go_wp2_with fail
      refine (refValid_any _ A c L n (H.out.under HA.out) hn0 hn1).mono ?_
      rw [HV.out]
      rintro e w1 ⟨rfl, hb⟩
      have r0 : Row w1 w.heap.size 24 #[.slice A L.length c, .int .i64 n] := (Row.alloc (Row.new _ _ _) _).under hb
      have r1 : Row w1 (w.heap.size + 1) 24 #[.slice none 0 0, .int .i64 0] := (Row.newAt (by simp)).under hb
      have HB : Hid (Below w.heap.size w w1) := Lib.hid (HA.out.trans (hb.mono HA.out.size))
      have e1 : Hid (w.heap.size ≤ w.heap.size + 1) := Lib.hid (by omega)
      have e2 : Hid (w.heap.size ≠ w.heap.size + 1) := Lib.hid (by omega)
      clear hb HA
      generalize w.heap.size + 1 = g1 at r1 e1 e2 ⊢
      generalize hG : w.heap.size = g0 at r0 e1 e2 HB ⊢
      have G0 := Lib.hid hG
      clear hG
      obtain ⟨p0, p1⟩ := row2 r0
      obtain ⟨q0, q1⟩ := row2 r1
      have f0 := r1.thaw 0
      have f1 := r1.thaw 1
      have R0 := Lib.hid r0
      have R1 := Lib.hid r1
      clear r0 r1
      go_wp2_with (go_at_call 32; refine (refwidth_any _ _).mono ?_; rintro e w9 ⟨rfl, rfl⟩)
      have zr := set2_row (.slice none 0 0) (.int .i64 0) R1.out
      have zb := set2_below (u0 := .slice none 0 0) (u1 := .int .i64 0) HB.out e1.out
      clear p0 p1 q0 q1 f0 f1 R1 R0 HB
      generalize (w1.setCell ⟨g1, 0, none⟩ (.slice none 0 0)).setCell ⟨g1, 1, none⟩ (.int .i64 0) = V at zr zb ⊢
      obtain ⟨k0, k1⟩ := row2 zr
      have ZB := Lib.hid zb
      clear zr zb
      exact bodyPost_ret (v := .tuple #[.agg #[.slice none 0 0, .int .i64 0], .int .i64 1]) (by simp [results, Try.results14, go_sem, k0, k1]) rfl (by rw [E.out]; exact ⟨none, 0, rfl, Bys.none _, by rw [G0.out]; exact ZB.out⟩)
    · clear hf
      have HA : Hid (Below w.heap.size w ((w.alloc (.cells #[.slice A L.length c, .int .i64 n] 24)).alloc (.cells #[.slice none 0 0, .int .i64 0] 24))) := Lib.hid (((Below.refl _ _).alloc (Nat.le_refl _) _).alloc (by simp) _)
      have H := Lib.hid h
      clear h
      go_enter Try.func14, Try.ntmps14
      go_wp2_with fail
      refine (refValid_any _ A c L n (H.out.under HA.out) hn0 hn1).mono ?_
      rw [HV.out]
      rintro e w1 ⟨rfl, hb⟩
      have r0 : Row w1 w.heap.size 24 #[.slice A L.length c, .int .i64 n] := (Row.alloc (Row.new _ _ _) _).under hb
      have r1 : Row w1 (w.heap.size + 1) 24 #[.slice none 0 0, .int .i64 0] := (Row.newAt (by simp)).under hb
      have HB : Hid (Below w.heap.size w w1) := Lib.hid (HA.out.trans (hb.mono HA.out.size))
      have e1 : Hid (w.heap.size ≤ w.heap.size + 1) := Lib.hid (by omega)
      have e2 : Hid (w.heap.size ≠ w.heap.size + 1) := Lib.hid (by omega)
      clear hb HA
      generalize w.heap.size + 1 = g1 at r1 e1 e2 ⊢
      generalize hG : w.heap.size = g0 at r0 e1 e2 HB ⊢
      have G0 := Lib.hid hG
      clear hG
      obtain ⟨p0, p1⟩ := row2 r0
      obtain ⟨q0, q1⟩ := row2 r1
      have f0 := r1.thaw 0
      have f1 := r1.thaw 1
      have R0 := Lib.hid r0
      have R1 := Lib.hid r1
      clear r0 r1
      go_wp2_with (go_at_call 32; refine (refwidth_any _ _).mono ?_; rintro e w9 ⟨rfl, rfl⟩)
      have zr := set2_row (.slice none 0 0) (.int .i64 0) R1.out
      have zb := set2_below (u0 := .slice none 0 0) (u1 := .int .i64 0) HB.out e1.out
      clear p0 p1 q0 q1 f0 f1 R1 R0 HB
      generalize (w1.setCell ⟨g1, 0, none⟩ (.slice none 0 0)).setCell ⟨g1, 1, none⟩ (.int .i64 0) = V at zr zb ⊢
      obtain ⟨k0, k1⟩ := row2 zr
      have ZB := Lib.hid zb
      clear zr zb
      exact bodyPost_ret (v := .tuple #[.agg #[.slice none 0 0, .int .i64 0], .int .i64 1]) (by simp [results, Try.results14, go_sem, k0, k1]) rfl (by rw [E.out]; exact ⟨none, 0, rfl, Bys.none _, by rw [G0.out]; exact ZB.out⟩)
  · have hk : isw k = false := by simpa using hk
    clear hf
    have HA : Hid (Below w.heap.size w ((w.alloc (.cells #[.slice A L.length c, .int .i64 n] 24)).alloc (.cells #[.slice none 0 0, .int .i64 0] 24))) := Lib.hid (((Below.refl _ _).alloc (Nat.le_refl _) _).alloc (by simp) _)
    have H := Lib.hid h
    clear h
    go_enter Try.func14, Try.ntmps14
    go_wp2_with fail
    refine (refValid_any _ A c L n (H.out.under HA.out) hn0 hn1).mono ?_
    rw [HV.out]
    rintro e w1 ⟨rfl, hb⟩
    have r0 : Row w1 w.heap.size 24 #[.slice A L.length c, .int .i64 n] := (Row.alloc (Row.new _ _ _) _).under hb
    have r1 : Row w1 (w.heap.size + 1) 24 #[.slice none 0 0, .int .i64 0] := (Row.newAt (by simp)).under hb
    have HB : Hid (Below w.heap.size w w1) := Lib.hid (HA.out.trans (hb.mono HA.out.size))
    have e1 : Hid (w.heap.size ≤ w.heap.size + 1) := Lib.hid (by omega)
    have e2 : Hid (w.heap.size ≠ w.heap.size + 1) := Lib.hid (by omega)
    clear hb HA
    generalize w.heap.size + 1 = g1 at r1 e1 e2 ⊢
    generalize hG : w.heap.size = g0 at r0 e1 e2 HB ⊢
    have G0 := Lib.hid hG
    clear hG
    obtain ⟨p0, p1⟩ := row2 r0
    obtain ⟨q0, q1⟩ := row2 r1
    have f0 := r1.thaw 0
    have f1 := r1.thaw 1
    have R0 := Lib.hid r0
    have R1 := Lib.hid r1
    clear r0 r1
    go_wp2_with (go_at_call 32; refine (refwidth_any _ _).mono ?_; rintro e w9 ⟨rfl, rfl⟩)
    have zr := set2_row (.slice none 0 0) (.int .i64 0) R1.out
    have zb := set2_below (u0 := .slice none 0 0) (u1 := .int .i64 0) HB.out e1.out
    clear p0 p1 q0 q1 f0 f1 R1 R0 HB
    generalize (w1.setCell ⟨g1, 0, none⟩ (.slice none 0 0)).setCell ⟨g1, 1, none⟩ (.int .i64 0) = V at zr zb ⊢
    obtain ⟨k0, k1⟩ := row2 zr
    have ZB := Lib.hid zb
    clear zr zb
    exact bodyPost_ret (v := .tuple #[.agg #[.slice none 0 0, .int .i64 0], .int .i64 1]) (by simp [results, Try.results14, go_sem, k0, k1]) rfl (by rw [E.out]; exact ⟨none, 0, rfl, Bys.none _, by rw [G0.out]; exact ZB.out⟩)
set_option maxHeartbeats 2000000 in
theorem refAppend_limit (w : World) (A : Option Addr) (c : Nat) (L : List Nat) (n v k : Int) (h : Bys w A c L) (hn0 : -9223372036854775808 ≤ n) (hn1 : n ≤ 9223372036854775807) (hv : vb L n = true) (hf : fits v k = true) (hl : 40000 < n + k) :
    Calls Try.prog 14 #[btV A c L n, .int .i64 v, .int .i64 k] w (Gives (appA L n v k) w) := by
  have E : Hid (appA L n v k = noAns 2) := Lib.hid (by unfold appA; rw [if_neg (by simp [hv]), if_neg (by simp [hf]), if_pos hl])
  have HV := Lib.hid hv
  obtain ⟨k1, k2, hv0, hw⟩ := (fits_iff _ _).1 hf
  obtain ⟨n1, n2, -, -⟩ := vb_is hv
  obtain ⟨K, rfl⟩ := Int.eq_ofNat_of_zero_le (by omega : 0 ≤ k)
  rw [Int.toNat_natCast] at hw
  have hp : (2 : Int) ^ K ≤ 16777216 := pow_le24 (by omega)
  have hp0 : (0 : Int) < 2 ^ K := Int.pow_pos (by decide)
  have hk : isw (K : Int) = true := by unfold isw; exact decide_eq_true ⟨k1, k2⟩
  clear hf hv
  have HA : Hid (Below w.heap.size w ((w.alloc (.cells #[.slice A L.length c, .int .i64 n] 24)).alloc (.cells #[.slice none 0 0, .int .i64 0] 24))) := Lib.hid (((Below.refl _ _).alloc (Nat.le_refl _) _).alloc (by simp) _)
  have H := Lib.hid h
  clear h
  go_enter Try.func14, Try.ntmps14
  go_wp2_with fail
  refine (refValid_any _ A c L n (H.out.under HA.out) hn0 hn1).mono ?_
  rw [HV.out]
  rintro e w1 ⟨rfl, hb⟩
  have r0 : Row w1 w.heap.size 24 #[.slice A L.length c, .int .i64 n] := (Row.alloc (Row.new _ _ _) _).under hb
  have r1 : Row w1 (w.heap.size + 1) 24 #[.slice none 0 0, .int .i64 0] := (Row.newAt (by simp)).under hb
  have HB : Hid (Below w.heap.size w w1) := Lib.hid (HA.out.trans (hb.mono HA.out.size))
  have e1 : Hid (w.heap.size ≤ w.heap.size + 1) := Lib.hid (by omega)
  have e2 : Hid (w.heap.size ≠ w.heap.size + 1) := Lib.hid (by omega)
  clear hb HA
  generalize w.heap.size + 1 = g1 at r1 e1 e2 ⊢
  generalize hG : w.heap.size = g0 at r0 e1 e2 HB ⊢
  have G0 := Lib.hid hG
  clear hG
  obtain ⟨p0, p1⟩ := row2 r0
  obtain ⟨q0, q1⟩ := row2 r1
  have f0 := r1.thaw 0
  have f1 := r1.thaw 1
  have R0 := Lib.hid r0
  have R1 := Lib.hid r1
  clear r0 r1
  go_wp2_with (go_at_call 32; refine (refwidth_any _ _).mono ?_; rintro e w9 ⟨rfl, rfl⟩)
  have zr := set2_row (.slice none 0 0) (.int .i64 0) R1.out
  have zb := set2_below (u0 := .slice none 0 0) (u1 := .int .i64 0) HB.out e1.out
  clear p0 p1 q0 q1 f0 f1 R1 R0 HB
  generalize (w1.setCell ⟨g1, 0, none⟩ (.slice none 0 0)).setCell ⟨g1, 1, none⟩ (.int .i64 0) = V at zr zb ⊢
  obtain ⟨k0, k1⟩ := row2 zr
  have ZB := Lib.hid zb
  clear zr zb
  exact bodyPost_ret (v := .tuple #[.agg #[.slice none 0 0, .int .i64 0], .int .i64 2]) (by simp [results, Try.results14, go_sem, k0, k1]) rfl (by rw [E.out]; exact ⟨none, 0, rfl, Bys.none _, by rw [G0.out]; exact ZB.out⟩)
set_option maxHeartbeats 4000000 in
theorem refAppend_yes (w : World) (A : Option Addr) (c : Nat) (L : List Nat) (n v k : Int) (h : Bys w A c L) (hn0 : -9223372036854775808 ≤ n) (hn1 : n ≤ 9223372036854775807) (hv : vb L n = true) (hf : fits v k = true) (hl : ¬ 40000 < n + k) :
    Calls Try.prog 14 #[btV A c L n, .int .i64 v, .int .i64 k] w (Gives (appA L n v k) w) := by
  have HV := Lib.hid hv
  obtain ⟨k1, k2, hv0, hw⟩ := (fits_iff _ _).1 hf
  have VD := vb_is hv
  obtain ⟨N, rfl⟩ := Int.eq_ofNat_of_zero_le VD.1
  obtain ⟨K, rfl⟩ := Int.eq_ofNat_of_zero_le (by omega : 0 ≤ k)
  obtain ⟨V, rfl⟩ := Int.eq_ofNat_of_zero_le hv0
  have E : Hid (appA L N V K = ⟨pack (N + K) (wrt L N V K), N + K, 0⟩) := Lib.hid (by unfold appA; rw [if_neg (by simp [hv]), if_neg (by simp [hf]), if_neg hl]; rfl)
  rw [Int.toNat_natCast] at hw
  have hp : (2 : Int) ^ K ≤ 16777216 := pow_le24 (by omega)
  have hp0 : (0 : Int) < 2 ^ K := Int.pow_pos (by decide)
  have hk : isw (K : Int) = true := by unfold isw; exact decide_eq_true ⟨k1, k2⟩
  have hNK : N + K ≤ 40000 := by omega
  have HLn : Hid (L.length = (N + 7) / 8) := Lib.hid (by have := VD.2.2.1; simpa using this)
  have HVV : Hid (V < 2 ^ 62) := Lib.hid (by omega)
  clear hf hv VD
  have HA : Hid (Below w.heap.size w ((w.alloc (.cells #[.slice A L.length c, .int .i64 (N : Int)] 24)).alloc (.cells #[.slice none 0 0, .int .i64 0] 24))) := Lib.hid (((Below.refl _ _).alloc (Nat.le_refl _) _).alloc (by simp) _)
  have H := Lib.hid h
  clear h
  go_enter Try.func14, Try.ntmps14
  go_wp2_with fail
  refine (refValid_any _ A c L N (H.out.under HA.out) hn0 hn1).mono ?_
  rw [HV.out]
  rintro e w1 ⟨rfl, hb⟩
  have r0 : Row w1 w.heap.size 24 #[.slice A L.length c, .int .i64 (N : Int)] := (Row.alloc (Row.new _ _ _) _).under hb
  have r1 : Row w1 (w.heap.size + 1) 24 #[.slice none 0 0, .int .i64 0] := (Row.newAt (by simp)).under hb
  have HB : Hid (Below w.heap.size w w1) := Lib.hid (HA.out.trans (hb.mono HA.out.size))
  have e1 : Hid (w.heap.size ≤ w.heap.size + 1) := Lib.hid (by omega)
  have e2 : Hid (w.heap.size ≠ w.heap.size + 1) := Lib.hid (by omega)
  clear hb HA
  generalize w.heap.size + 1 = g1 at r1 e1 e2 ⊢
  generalize hG : w.heap.size = g0 at r0 e1 e2 HB ⊢
  have G0 := Lib.hid hG
  clear hG
  obtain ⟨p0, p1⟩ := row2 r0
  obtain ⟨q0, q1⟩ := row2 r1
  have f0 := r1.thaw 0
  have f1 := r1.thaw 1
  have R0 := Lib.hid r0
  have R1 := Lib.hid r1
  clear r0 r1
  have HX : Hid (Bys w1 A c L) := Lib.hid (H.out.under (by rw [G0.out]; exact HB.out))
  go_upto_region 7 with (go_at_call 32; refine (refwidth_any _ _).mono ?_; rintro e w9 ⟨rfl, rfl⟩)
  go_wp2_with fail
  refine (refAll_any w1 A c L N HX.out HLn.out (by omega)).mono ?_
  rintro e w2 ⟨v, rfl, hO, hb2⟩
  have MS : Hid (Row w2 g1 24 #[.slice none 0 0, .int .i64 0] ∧ Below g0 w w2 ∧ OwnI w2 w1.heap.size v (bl (wrt L N V K) (N + 0)) ∧ w1.heap.size ≤ w2.heap.size) := Lib.hid ⟨R1.out.under hb2, HB.out.trans (hb2.mono (by have := HB.out.size; have := G0.out; omega)), by
    rw [Nat.add_zero, bl_cong (g := bt L) (fun i hi => by unfold wrt; rw [if_pos hi])]; exact hO, hb2.size⟩
  have HG : Hid (g1 < w1.heap.size) := Lib.hid (Row.lt R1.out)
  have HW1 : Hid (g0 ≤ w1.heap.size) := Lib.hid (by have := HB.out.size; have := G0.out; omega)
  clear hO hb2 HB R0 R1 p0 p1 q0 q1 f0 f1 HX
  generalize w1.heap.size = B0 at MS HG HW1 ⊢
  go_wp2_with fail
  go_loopw [8, 9] (fun v t Y => ∃ i : Nat, i ≤ K ∧ t = .int .i64 ((K : Int) - 1 - i) ∧ Hid (Row Y g1 24 #[.slice none 0 0, .int .i64 0] ∧ Below g0 w Y ∧ OwnI Y B0 v (bl (wrt L N V K) (N + i)) ∧ B0 ≤ Y.heap.size)) (fun _ t _ => (intOf t + 1).toNat)
  case atStart => exact ⟨0, Nat.zero_le _, by go_num, MS⟩
  case round =>
    clear MS
    obtain ⟨i, hi, rfl, M⟩ := hrel
    by_cases hlt : i < K
    · have i0 : (0 : Int) ≤ (i : Int) := by omega
      have i1 : (0 : Int) ≤ (K : Int) - 1 - i := by omega
      have i5 : ((K : Int) - 1 - i).toNat = K - 1 - i := by omega
      have x6 := sh_bit V (K - 1 - i) HVV.out
      have HS : Hid (bl (wrt L N V K) (N + (i + 1)) = bl (wrt L N V K) (N + i) ++ [((V.testBit (K - 1 - i)).toNat : Int)]) := Lib.hid (by rw [← Nat.add_assoc, bl_succ]; unfold wrt; rw [if_neg (by omega), Nat.add_sub_cancel_left])
      generalize ((V.testBit (K - 1 - i)).toNat : Int) = b at x6 HS
      have HLn2 : Hid ((bl (wrt L N V K) (N + i)).length = N + i) := Lib.hid (bl_len _ _)
      have S3 := Lib.hid (show Row (wr.alloc (.cells #[.int .i64 b] 3)) g1 24 #[.slice none 0 0, .int .i64 0] ∧ Below g0 w (wr.alloc (.cells #[.int .i64 b] 3)) ∧ (wr.alloc (.cells #[.int .i64 b] 3)).ownsRow B0 3 1 _ (bl (wrt L N V K) (N + i)).length (ic (bl (wrt L N V K) (N + i))) ∧ B0 ≤ (wr.alloc (.cells #[.int .i64 b] 3)).heap.size from ⟨M.out.1.alloc _, M.out.2.1.alloc (by have := M.out.2.1.size; have := G0.out; omega) _, own_under M.out.2.2.1 ((Below.refl _ _).alloc (Nat.le_refl _) _), by have := M.out.2.2.2; simp; omega⟩)
      clear M
      generalize bl (wrt L N V K) (N + i) = X at S3 HS HLn2
      go_wp2_with (at_builtin; go_loud (refine wpList_append_lies _ rfl (.tmp 43) (.tmp 49) 25 rfl B0 3 Try.t3 _ 1 8 Try.underlying25 intI intZ intS intB rfl (by decide) «u8» X.length (ic X) rfl S3.out.2.2.1 ⟨wr.heap.size, 0, none⟩ 1 1 [.int .i64 b] rfl rfl (World.news_of_block (cs := #[.int .i64 b]) (t := 3) (fr := (0, 0)) (heap_alloc_new wr _)) (by simp [Value.oneCell']) (by omega) (by have := HLn2.out; unfold maxLen; omega) (by have := HLn2.out; omega) S3.out.2.2.2 (wr.heap.size + 1) (by simp) ?_; intro g' cap' w4 hown4 hgrow4 hat4 hlt4; have S4 := Lib.hid (show Row w4 g1 24 #[.slice none 0 0, .int .i64 0] ∧ Below g0 w w4 ∧ OwnI w4 B0 _ (X ++ [b]) ∧ B0 ≤ w4.heap.size from ⟨row_own S3.out.1 HG.out S3.out.2.2.1 hgrow4, below_own S3.out.2.1 (by have := S3.out.2.1.size; have := G0.out; omega) HW1.out S3.out.2.2.1 hgrow4, OwnI.more hown4, Nat.le_trans S3.out.2.2.2 hgrow4.size⟩); clear hown4 hgrow4 hat4 hlt4))
      go_roundw
      case rel => exact ⟨i + 1, by omega, by go_num, by rw [HS.out]; exact S4⟩
      case measure => simp [intOf]; omega
    · have k1 : ¬ (0 : Int) ≤ (K : Int) - 1 - i := by omega
      obtain rfl : i = K := by omega
      obtain ⟨A2, c2, e, HI⟩ := OwnI.ins M.out.2.2.1
      subst e
      rw [bl_len] at *
      have hI := Lib.hid HI
      clear hlt HI
      go_wp2_with fail
      refine (refOf_bl wr A2 c2 _ _ hI.out hNK).mono ?_
      rintro e w3 ⟨A3, c3, rfl, HB3, hb3⟩
      have r1 : Row w3 g1 24 #[.slice none 0 0, .int .i64 0] := M.out.1.under hb3
      have HB := Lib.hid (M.out.2.1.trans (hb3.mono (by have := M.out.2.1.size; have := G0.out; omega)))
      have HP := Lib.hid HB3
      clear hb3 HB3 M hI
      obtain ⟨q0, q1⟩ := row2 r1
      have f0 := r1.thaw 0
      have f1 := r1.thaw 1
      have R1 := Lib.hid r1
      clear r1
      go_wp2_with fail
      have zr := set2_row (.slice A3 (pack (N + i) (wrt L N V i)).length c3) (.int .i64 ((N : Int) + i)) R1.out
      have zb := set2_below (u0 := .slice A3 (pack (N + i) (wrt L N V i)).length c3) (u1 := .int .i64 ((N : Int) + i)) HB.out e1.out
      have zp : Bys ((w3.setCell ⟨g1, 0, none⟩ (.slice A3 (pack (N + i) (wrt L N V i)).length c3)).setCell ⟨g1, 1, none⟩ (.int .i64 ((N : Int) + i))) A3 c3 (pack (N + i) (wrt L N V i)) := Bys.far (j := 1) (Bys.far (j := 0) HP.out R1.out) (Row.put R1.out 0 _ : Row _ _ _ #[.slice A3 (pack (N + i) (wrt L N V i)).length c3, .int .i64 0])
      clear q0 q1 f0 f1 R1 HB HP
      generalize (w3.setCell ⟨g1, 0, none⟩ (.slice A3 (pack (N + i) (wrt L N V i)).length c3)).setCell ⟨g1, 1, none⟩ (.int .i64 ((N : Int) + i)) = V9 at zr zb zp ⊢
      obtain ⟨k7, k8⟩ := row2 zr
      have ZB := Lib.hid zb
      have ZP := Lib.hid zp
      clear zr zb zp
      exact bodyPost_ret (v := .tuple #[.agg #[.slice A3 (pack (N + i) (wrt L N V i)).length c3, .int .i64 ((N : Int) + i)], .int .i64 0]) (by simp [results, Try.results14, go_sem, k7, k8]) rfl (by rw [E.out]; exact ⟨A3, c3, rfl, ZP.out, by rw [G0.out]; exact ZB.out⟩)
theorem refAppend_any (w : World) (A : Option Addr) (c : Nat) (L : List Nat) (n v k : Int) (h : Bys w A c L) (hn0 : -9223372036854775808 ≤ n) (hn1 : n ≤ 9223372036854775807) :
    Calls Try.prog 14 #[btV A c L n, .int .i64 v, .int .i64 k] w (Gives (appA L n v k) w) := by
  by_cases hv : vb L n = true
  · by_cases hf : fits v k = true
    · by_cases hl : 40000 < n + k
      · exact refAppend_limit w A c L n v k h hn0 hn1 hv hf hl
      · exact refAppend_yes w A c L n v k h hn0 hn1 hv hf hl
    · exact refAppend_range w A c L n v k h hn0 hn1 hv (by simpa using hf)
  · exact refAppend_state w A c L n v k h hn0 hn1 (by simpa using hv)
set_option maxHeartbeats 1000000 in
theorem refRead_state (w : World) (A : Option Addr) (c : Nat) (L : List Nat) (n p k : Int) (h : Bys w A c L) (hn0 : -9223372036854775808 ≤ n) (hn1 : n ≤ 9223372036854775807) (hv : vb L n = false) :
    Calls Try.prog 17 #[btV A c L n, .int .i64 p, .int .i64 k] w (GivesN (readA L n p k) w) := by
  have E : Hid (readA L n p k = (0, 7)) := Lib.hid (by unfold readA; rw [if_pos hv])
  have HV := Lib.hid hv
  clear hv
  have HA : Hid (Below w.heap.size w (w.alloc (.cells #[.slice A L.length c, .int .i64 n] 24))) := Lib.hid ((Below.refl _ _).alloc (Nat.le_refl _) _)
  have H := Lib.hid h
  clear h
  go_enter Try.func17, Try.ntmps17
  go_wp2_with fail
  refine (refValid_any _ A c L n (H.out.under HA.out) hn0 hn1).mono ?_
  rw [HV.out]
  rintro e w1 ⟨rfl, hb⟩
  have r0 : Row w1 w.heap.size 24 #[.slice A L.length c, .int .i64 n] := (Row.new _ _ _).under hb
  have HB : Hid (Below w.heap.size w w1) := Lib.hid (HA.out.trans (hb.mono HA.out.size))
  clear hb HA
  generalize hG : w.heap.size = g0 at r0 HB ⊢
  have G0 := Lib.hid hG
  clear hG
  obtain ⟨p0, p1⟩ := row2 r0
  have R0 := Lib.hid r0
  clear r0
  go_wp2
  go_ret2
  exact ⟨by rw [E.out]; rfl, by rw [G0.out]; exact HB.out⟩
set_option maxHeartbeats 1000000 in
theorem refRead_width (w : World) (A : Option Addr) (c : Nat) (L : List Nat) (n p k : Int) (h : Bys w A c L) (hn0 : -9223372036854775808 ≤ n) (hn1 : n ≤ 9223372036854775807) (hv : vb L n = true) (hk : isw k = false) :
    Calls Try.prog 17 #[btV A c L n, .int .i64 p, .int .i64 k] w (GivesN (readA L n p k) w) := by
  have E : Hid (readA L n p k = (0, 1)) := Lib.hid (by unfold readA; rw [if_neg (by simp [hv]), if_pos hk])
  have HV := Lib.hid hv
  clear hv
  have HA : Hid (Below w.heap.size w (w.alloc (.cells #[.slice A L.length c, .int .i64 n] 24))) := Lib.hid ((Below.refl _ _).alloc (Nat.le_refl _) _)
  have H := Lib.hid h
  clear h
  go_enter Try.func17, Try.ntmps17
  go_wp2_with fail
  refine (refValid_any _ A c L n (H.out.under HA.out) hn0 hn1).mono ?_
  rw [HV.out]
  rintro e w1 ⟨rfl, hb⟩
  have r0 : Row w1 w.heap.size 24 #[.slice A L.length c, .int .i64 n] := (Row.new _ _ _).under hb
  have HB : Hid (Below w.heap.size w w1) := Lib.hid (HA.out.trans (hb.mono HA.out.size))
  clear hb HA
  generalize hG : w.heap.size = g0 at r0 HB ⊢
  have G0 := Lib.hid hG
  clear hG
  obtain ⟨p0, p1⟩ := row2 r0
  have R0 := Lib.hid r0
  clear r0
  go_wp2_with (go_at_call 32; refine (refwidth_any _ _).mono ?_; rintro e w9 ⟨rfl, rfl⟩)
  go_ret2
  exact ⟨by rw [E.out]; rfl, by rw [G0.out]; exact HB.out⟩
set_option maxHeartbeats 1000000 in
theorem refRead_neg (w : World) (A : Option Addr) (c : Nat) (L : List Nat) (n p k : Int) (h : Bys w A c L) (hn0 : -9223372036854775808 ≤ n) (hn1 : n ≤ 9223372036854775807) (hv : vb L n = true) (hk : isw k = true) (hp : p < 0) :
    Calls Try.prog 17 #[btV A c L n, .int .i64 p, .int .i64 k] w (GivesN (readA L n p k) w) := by
  have E : Hid (readA L n p k = (0, 1)) := Lib.hid (by unfold readA; rw [if_neg (by simp [hv]), if_neg (by simp [hk]), if_pos hp])
  have HV := Lib.hid hv
  clear hv
  have HA : Hid (Below w.heap.size w (w.alloc (.cells #[.slice A L.length c, .int .i64 n] 24))) := Lib.hid ((Below.refl _ _).alloc (Nat.le_refl _) _)
  have H := Lib.hid h
  clear h
  go_enter Try.func17, Try.ntmps17
  go_wp2_with fail
  refine (refValid_any _ A c L n (H.out.under HA.out) hn0 hn1).mono ?_
  rw [HV.out]
  rintro e w1 ⟨rfl, hb⟩
  have r0 : Row w1 w.heap.size 24 #[.slice A L.length c, .int .i64 n] := (Row.new _ _ _).under hb
  have HB : Hid (Below w.heap.size w w1) := Lib.hid (HA.out.trans (hb.mono HA.out.size))
  clear hb HA
  generalize hG : w.heap.size = g0 at r0 HB ⊢
  have G0 := Lib.hid hG
  clear hG
  obtain ⟨p0, p1⟩ := row2 r0
  have R0 := Lib.hid r0
  clear r0
  go_wp2_with (go_at_call 32; refine (refwidth_any _ _).mono ?_; rintro e w9 ⟨rfl, rfl⟩)
  go_ret2
  exact ⟨by rw [E.out]; rfl, by rw [G0.out]; exact HB.out⟩
set_option maxHeartbeats 1000000 in
theorem refRead_short (w : World) (A : Option Addr) (c : Nat) (L : List Nat) (n p k : Int) (h : Bys w A c L) (hn0 : -9223372036854775808 ≤ n) (hn1 : n ≤ 9223372036854775807) (hv : vb L n = true) (hk : isw k = true) (hp : ¬ p < 0) (hs : n - k < p) :
    Calls Try.prog 17 #[btV A c L n, .int .i64 p, .int .i64 k] w (GivesN (readA L n p k) w) := by
  have E : Hid (readA L n p k = (0, 11)) := Lib.hid (by unfold readA; rw [if_neg (by simp [hv]), if_neg (by simp [hk]), if_neg hp, if_pos hs])
  have HV := Lib.hid hv
  obtain ⟨n1, n2, -, -⟩ := vb_is hv
  obtain ⟨k1, k2⟩ := isw_is hk
  clear hv
  have HA : Hid (Below w.heap.size w (w.alloc (.cells #[.slice A L.length c, .int .i64 n] 24))) := Lib.hid ((Below.refl _ _).alloc (Nat.le_refl _) _)
  have H := Lib.hid h
  clear h
  go_enter Try.func17, Try.ntmps17
  go_wp2_with fail
  refine (refValid_any _ A c L n (H.out.under HA.out) hn0 hn1).mono ?_
  rw [HV.out]
  rintro e w1 ⟨rfl, hb⟩
  have r0 : Row w1 w.heap.size 24 #[.slice A L.length c, .int .i64 n] := (Row.new _ _ _).under hb
  have HB : Hid (Below w.heap.size w w1) := Lib.hid (HA.out.trans (hb.mono HA.out.size))
  clear hb HA
  generalize hG : w.heap.size = g0 at r0 HB ⊢
  have G0 := Lib.hid hG
  clear hG
  obtain ⟨p0, p1⟩ := row2 r0
  have R0 := Lib.hid r0
  clear r0
  go_wp2_with (go_at_call 32; refine (refwidth_any _ _).mono ?_; rintro e w9 ⟨rfl, rfl⟩)
  go_ret2
  exact ⟨by rw [E.out]; rfl, by rw [G0.out]; exact HB.out⟩
set_option maxHeartbeats 2000000 in
theorem refRead_yes (w : World) (A : Option Addr) (c : Nat) (L : List Nat) (n p k : Int) (h : Bys w A c L) (hn0 : -9223372036854775808 ≤ n) (hn1 : n ≤ 9223372036854775807) (hv : vb L n = true) (hk : isw k = true) (hp : ¬ p < 0) (hs : ¬ n - k < p) :
    Calls Try.prog 17 #[btV A c L n, .int .i64 p, .int .i64 k] w (GivesN (readA L n p k) w) := by
  have E0 : readA L n p k = ((num (bt L) p.toNat k.toNat : Int), 0) := by unfold readA; rw [if_neg (by simp [hv]), if_neg (by simp [hk]), if_neg hp, if_neg hs]
  have HV := Lib.hid hv
  have VD := vb_is hv
  obtain ⟨k1, k2⟩ := isw_is hk
  obtain ⟨N, rfl⟩ := Int.eq_ofNat_of_zero_le VD.1
  obtain ⟨K, rfl⟩ := Int.eq_ofNat_of_zero_le (by omega : 0 ≤ k)
  obtain ⟨P, rfl⟩ := Int.eq_ofNat_of_zero_le (by omega : 0 ≤ p)
  have E : Hid (readA L N P K = ((num (bt L) P K : Int), 0)) := Lib.hid E0
  have hN : N ≤ 40000 := by have := VD.2.1; omega
  have hPK : P + K ≤ N := by omega
  have HLn : Hid (L.length = (N + 7) / 8) := Lib.hid (by have := VD.2.2.1; simpa using this)
  clear hv VD E0
  have HA : Hid (Below w.heap.size w (w.alloc (.cells #[.slice A L.length c, .int .i64 (N : Int)] 24))) := Lib.hid ((Below.refl _ _).alloc (Nat.le_refl _) _)
  have H := Lib.hid h
  clear h
  go_enter Try.func17, Try.ntmps17
  go_wp2_with fail
  refine (refValid_any _ A c L N (H.out.under HA.out) hn0 hn1).mono ?_
  rw [HV.out]
  rintro e w1 ⟨rfl, hb⟩
  have r0 : Row w1 w.heap.size 24 #[.slice A L.length c, .int .i64 (N : Int)] := (Row.new _ _ _).under hb
  have HB : Hid (Below w.heap.size w w1) := Lib.hid (HA.out.trans (hb.mono HA.out.size))
  clear hb HA
  generalize hG : w.heap.size = g0 at r0 HB ⊢
  have G0 := Lib.hid hG
  clear hG
  obtain ⟨p0, p1⟩ := row2 r0
  have R0 := Lib.hid r0
  clear r0
  go_wp2_with (go_at_call 32; refine (refwidth_any _ _).mono ?_; rintro e w9 ⟨rfl, rfl⟩)
  go_loopw [8, 9] (fun s t Y => ∃ i : Nat, i ≤ K ∧ t = .int .i64 i ∧ s = .int .i64 (num (bt L) P i : Nat) ∧ Hid (Row Y g0 24 #[.slice A L.length c, .int .i64 (N : Int)] ∧ Below g0 w Y)) (fun _ t _ => K - (intOf t).toNat)
  case atStart => exact ⟨0, Nat.zero_le _, rfl, rfl, Lib.hid ⟨R0.out, HB.out⟩⟩
  case round =>
    clear HB R0 p0 p1
    obtain ⟨i, hi, rfl, rfl, M⟩ := hrel
    by_cases hlt : i < K
    · have i0 : (0 : Int) ≤ (i : Int) := by omega
      have i1 : (i : Int) < (K : Int) := by omega
      obtain ⟨p0, p1⟩ := row2 M.out.1
      have HX : Hid (Bys wr A c L) := Lib.hid (H.out.under (by rw [G0.out]; exact M.out.2))
      have hq : num (bt L) P i < 16777216 := Nat.lt_of_lt_of_le (num_lt _ _ _) (Nat.le_trans (Nat.pow_le_pow_right (by decide) (by omega : i ≤ 24)) (by decide))
      have HS : Hid (num (bt L) P (i + 1) = 2 * num (bt L) P i + (bt L (P + i)).toNat) := Lib.hid rfl
      have hbv := Bool.toNat_le (bt L (P + i))
      generalize num (bt L) P i = q at hq HS ⊢
      have HI : Hid ((P + i) / 8 < L.length) := Lib.hid (by rw [HLn.out]; omega)
      have HC := refAt_any wr A c L (N : Int) (P + i) HX.out HI.out (by omega)
      simp only [Int.natCast_add] at HC
      have HC2 := Lib.hid HC
      clear HC
      generalize (bt L (P + i)).toNat = b at hbv HS HC2 ⊢
      go_wp2_with fail
      refine HC2.out.mono ?_
      rintro e w2 ⟨rfl, hb⟩
      have HR := Lib.hid (show Row w2 g0 24 #[.slice A L.length c, .int .i64 (N : Int)] ∧ Below g0 w w2 from ⟨M.out.1.under hb, M.out.2.trans (hb.mono (by have := M.out.2.size; have := G0.out; omega))⟩)
      clear hb M p0 p1 HC2
      go_wp2_with fail
      go_roundw
      case rel => exact ⟨i + 1, by omega, by go_num, by rw [HS.out]; go_num, HR⟩
      case measure => simp [intOf]; omega
    · have k1 : ¬ (i : Int) < (K : Int) := by omega
      obtain rfl : i = K := by omega
      clear hlt
      go_wp2_with fail
      go_ret2
      exact ⟨by rw [E.out]; rfl, by rw [G0.out]; exact M.out.2⟩
theorem refRead_any (w : World) (A : Option Addr) (c : Nat) (L : List Nat) (n p k : Int) (h : Bys w A c L) (hn0 : -9223372036854775808 ≤ n) (hn1 : n ≤ 9223372036854775807) :
    Calls Try.prog 17 #[btV A c L n, .int .i64 p, .int .i64 k] w (GivesN (readA L n p k) w) := by
  by_cases hv : vb L n = true
  · by_cases hk : isw k = true
    · by_cases hp : p < 0
      · exact refRead_neg w A c L n p k h hn0 hn1 hv hk hp
      · by_cases hs : n - k < p
        · exact refRead_short w A c L n p k h hn0 hn1 hv hk hp hs
        · exact refRead_yes w A c L n p k h hn0 hn1 hv hk hp hs
    · exact refRead_width w A c L n p k h hn0 hn1 hv (by simpa using hk)
  · exact refRead_state w A c L n p k h hn0 hn1 (by simpa using hv)
end Go.Proofs.Ytjabnicflpeopaa
