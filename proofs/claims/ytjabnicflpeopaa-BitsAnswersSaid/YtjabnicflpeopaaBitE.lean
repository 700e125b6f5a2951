/- Contracts of the program's Append, Join, Pad, Read. -/
import Derived.Test.YtjabnicflpeopaaBitB
import Derived.Test.YtjabnicflpeopaaBitC
namespace Go.Proofs.Ytjabnicflpeopaa
open Go.RowKit

/-- A list of bits as a value; what an answer holds. -/
abbrev btV (A : Option Addr) (c : Nat) (L : List Nat) (n : Int) : Value := .agg #[.slice A L.length c, .int .i64 n]
/-- The answer of a function that makes a list: the list, the number of its bits, the error. -/
structure Ans where
  L : List Nat
  n : Int
  e : Int
def noAns (e : Int) : Ans := ⟨[], 0, e⟩
def Gives (a : Ans) (w : World) (e : Ending) (w' : World) : Prop := ∃ A c, e = .returned (.tuple #[btV A c a.L a.n, .int .i64 a.e]) ∧ Bys w' A c a.L ∧ Below w.heap.size w w'
/-- Does the number fit the width? -/
def fits (v k : Int) : Bool := isw k && decide (0 ≤ v) && decide (v < 2 ^ k.toNat)
/-- The bits behind which a number is written. -/
def wrt (L : List Nat) (n v k : Nat) : Nat → Bool := fun i => if i < n then bt L i else v.testBit (k - 1 - (i - n))
noncomputable def appA (L : List Nat) (n v k : Int) : Ans :=
  if vb L n = false then noAns 7
  else if fits v k = false then noAns 1
  else if 40000 < n + k then noAns 2
  else ⟨pack (n.toNat + k.toNat) (wrt L n.toNat v.toNat k.toNat), n + k, 0⟩
theorem Bys.none (w : World) : Bys w none 0 [] := ⟨by decide, by decide, fun _ => ⟨rfl, rfl⟩, fun x hx => by (cases hx), fun i hi => by (cases hi)⟩
theorem fits_iff (v k : Int) : fits v k = true ↔ 1 ≤ k ∧ k ≤ 24 ∧ 0 ≤ v ∧ v < 2 ^ k.toNat := by
  unfold fits isw
  rw [Bool.and_eq_true, Bool.and_eq_true, decide_eq_true_iff, decide_eq_true_iff, decide_eq_true_iff]
  exact ⟨fun ⟨⟨⟨a, b⟩, c⟩, d⟩ => ⟨a, b, c, d⟩, fun ⟨a, b, c, d⟩ => ⟨⟨⟨a, b⟩, c⟩, d⟩⟩
theorem pow_le24 {K : Nat} (h : K ≤ 24) : (2 : Int) ^ K ≤ 16777216 := by
  have h1 : (2 : Nat) ^ K ≤ 2 ^ 24 := Nat.pow_le_pow_right (by decide) h
  have h2 : ((2 ^ K : Nat) : Int) ≤ ((2 ^ 24 : Nat) : Int) := Int.ofNat_le.2 h1
  rw [Int.natCast_pow] at h2
  exact h2
open Classical in
theorem vb_is {L : List Nat} {n : Int} (h : vb L n = true) : Vd L n := by unfold vb at h; exact of_decide_eq_true h
set_option maxHeartbeats 1000000 in
theorem append_state (w : World) (A : Option Addr) (c : Nat) (L : List Nat) (n v k : Int) (h : Bys w A c L) (hn0 : -9223372036854775808 ≤ n) (hn1 : n ≤ 9223372036854775807) (hv : vb L n = false) :
    Calls Try.prog 13 #[btV A c L n, .int .i64 v, .int .i64 k] w (Gives (appA L n v k) w) := by
  have E : Hid (appA L n v k = noAns 7) := Lib.hid (by unfold appA; rw [if_pos hv])
  have HV := Lib.hid hv
  clear hv
  have HA : Hid (Below w.heap.size w ((w.alloc (.cells #[.slice A L.length c, .int .i64 n] 24)).alloc (.cells #[.slice none 0 0, .int .i64 0] 24))) := Lib.hid (((Below.refl _ _).alloc (Nat.le_refl _) _).alloc (by simp) _)
  have H := Lib.hid h
  clear h
  go_enter Try.func13, Try.ntmps13
  go_wp2_with fail
  refine (valid_any _ A c L n (H.out.under HA.out) hn0 hn1).mono ?_
  rw [HV.out]
  rintro e w1 ⟨rfl, hb⟩
  have r0 : Row w1 w.heap.size 24 #[.slice A L.length c, .int .i64 n] := (Row.alloc (Row.new _ _ _) _).under hb
  have r1 : Row w1 (w.heap.size + 1) 24 #[.slice none 0 0, .int .i64 0] := (Row.newAt (by simp)).under hb
  have HB : Hid (Below w.heap.size w w1) := Lib.hid (HA.out.trans (hb.mono HA.out.size))
  have e1 : Hid (w.heap.size ≤ w.heap.size + 1) := Lib.hid (by omega)
  have e2 : Hid (w.heap.size ≠ w.heap.size + 1) := Lib.hid (by omega)
  clear hb HA
  generalize w.heap.size + 1 = g1 at r1 e1 e2 ⊢
  generalize hG : w.heap.size = g0 at r0 e1 e2 HB ⊢
  have G0 := Lib.hid hG
  clear hG
  obtain ⟨p0, p1⟩ := row2 r0
  obtain ⟨q0, q1⟩ := row2 r1
  have f0 := r1.thaw 0
  have f1 := r1.thaw 1
  have R0 := Lib.hid r0
  have R1 := Lib.hid r1
  clear r0 r1
  go_wp2
  have zr := set2_row (.slice none 0 0) (.int .i64 0) R1.out
  have zb := set2_below (u0 := .slice none 0 0) (u1 := .int .i64 0) HB.out e1.out
  clear p0 p1 q0 q1 f0 f1 R1 R0 HB
  generalize (w1.setCell ⟨g1, 0, none⟩ (.slice none 0 0)).setCell ⟨g1, 1, none⟩ (.int .i64 0) = V at zr zb ⊢
  obtain ⟨k0, k1⟩ := row2 zr
  have ZB := Lib.hid zb
  clear zr zb
  exact bodyPost_ret (v := .tuple #[.agg #[.slice none 0 0, .int .i64 0], .int .i64 7]) (by simp [results, Try.results13, go_sem, k0, k1]) rfl (by rw [E.out]; exact ⟨none, 0, rfl, Bys.none _, by rw [G0.out]; exact ZB.out⟩)
set_option maxHeartbeats 2000000 in
theorem append_range (w : World) (A : Option Addr) (c : Nat) (L : List Nat) (n v k : Int) (h : Bys w A c L) (hn0 : -9223372036854775808 ≤ n) (hn1 : n ≤ 9223372036854775807) (hv : vb L n = true) (hf : fits v k = false) :
    Calls Try.prog 13 #[btV A c L n, .int .i64 v, .int .i64 k] w (Gives (appA L n v k) w) := by
  have E : Hid (appA L n v k = noAns 1) := Lib.hid (by unfold appA; rw [if_neg (by simp [hv]), if_pos hf])
  have HV := Lib.hid hv
  clear hv
  by_cases hk : isw k = true
  · obtain ⟨k1, k2⟩ : 1 ≤ k ∧ k ≤ 24 := by unfold isw at hk; exact of_decide_eq_true hk
    by_cases hv0 : 0 ≤ v
    · obtain ⟨K, rfl⟩ := Int.eq_ofNat_of_zero_le (by omega : 0 ≤ k)
      have hw : ¬ v < 2 ^ K := fun e => by
        have : fits v (K : Int) = true := (fits_iff _ _).2 ⟨k1, k2, hv0, e⟩
        rw [this] at hf; cases hf
      have hp : (2 : Int) ^ K ≤ 16777216 := pow_le24 (by omega)
      have hp0 : (0 : Int) < 2 ^ K := Int.pow_pos (by decide)
      have hw1 : (2 : Int) ^ K ≤ v := by omega
      clear hf hw
      have HA : Hid (Below w.heap.size w ((w.alloc (.cells #[.slice A L.length c, .int .i64 n] 24)).alloc (.cells #[.slice none 0 0, .int .i64 0] 24))) := Lib.hid (((Below.refl _ _).alloc (Nat.le_refl _) _).alloc (by simp) _)
      have H := Lib.hid h
      clear h
      go_enter Try.func13, Try.ntmps13
      go_wp2_with fail
      refine (valid_any _ A c L n (H.out.under HA.out) hn0 hn1).mono ?_
      rw [HV.out]
      rintro e w1 ⟨rfl, hb⟩
      have r0 : Row w1 w.heap.size 24 #[.slice A L.length c, .int .i64 n] := (Row.alloc (Row.new _ _ _) _).under hb
      have r1 : Row w1 (w.heap.size + 1) 24 #[.slice none 0 0, .int .i64 0] := (Row.newAt (by simp)).under hb
      have HB : Hid (Below w.heap.size w w1) := Lib.hid (HA.out.trans (hb.mono HA.out.size))
      have e1 : Hid (w.heap.size ≤ w.heap.size + 1) := Lib.hid (by omega)
      have e2 : Hid (w.heap.size ≠ w.heap.size + 1) := Lib.hid (by omega)
      clear hb HA
      generalize w.heap.size + 1 = g1 at r1 e1 e2 ⊢
      generalize hG : w.heap.size = g0 at r0 e1 e2 HB ⊢
      have G0 := Lib.hid hG
      clear hG
      obtain ⟨p0, p1⟩ := row2 r0
      obtain ⟨q0, q1⟩ := row2 r1
      have f0 := r1.thaw 0
      have f1 := r1.thaw 1
      have R0 := Lib.hid r0
      have R1 := Lib.hid r1
      clear r0 r1
      go_wp2_with (go_at_call 29; refine (isWidth_any _ _).mono ?_; rintro e w9 ⟨rfl, rfl⟩)
      have zr := set2_row (.slice none 0 0) (.int .i64 0) R1.out
      have zb := set2_below (u0 := .slice none 0 0) (u1 := .int .i64 0) HB.out e1.out
      clear p0 p1 q0 q1 f0 f1 R1 R0 HB
      generalize (w1.setCell ⟨g1, 0, none⟩ (.slice none 0 0)).setCell ⟨g1, 1, none⟩ (.int .i64 0) = V at zr zb ⊢
      obtain ⟨k0, k1⟩ := row2 zr
      have ZB := Lib.hid zb
      clear zr zb
      exact bodyPost_ret (v := .tuple #[.agg #[.slice none 0 0, .int .i64 0], .int .i64 1]) (by simp [results, Try.results13, go_sem, k0, k1]) rfl (by rw [E.out]; exact ⟨none, 0, rfl, Bys.none _, by rw [G0.out]; exact ZB.out⟩)
    · clear hf
      have HA : Hid (Below w.heap.size w ((w.alloc (.cells #[.slice A L.length c, .int .i64 n] 24)).alloc (.cells #[.slice none 0 0, .int .i64 0] 24))) := Lib.hid (((Below.refl _ _).alloc (Nat.le_refl _) _).alloc (by simp) _)
      have H := Lib.hid h
      clear h
      go_enter Try.func13, Try.ntmps13
      go_wp2_with fail
      refine (valid_any _ A c L n (H.out.under HA.out) hn0 hn1).mono ?_
      rw [HV.out]
      rintro e w1 ⟨rfl, hb⟩
      have r0 : Row w1 w.heap.size 24 #[.slice A L.length c, .int .i64 n] := (Row.alloc (Row.new _ _ _) _).under hb
      have r1 : Row w1 (w.heap.size + 1) 24 #[.slice none 0 0, .int .i64 0] := (Row.newAt (by simp)).under hb
      have HB : Hid (Below w.heap.size w w1) := Lib.hid (HA.out.trans (hb.mono HA.out.size))
      have e1 : Hid (w.heap.size ≤ w.heap.size + 1) := Lib.hid (by omega)
      have e2 : Hid (w.heap.size ≠ w.heap.size + 1) := Lib.hid (by omega)
      clear hb HA
      generalize w.heap.size + 1 = g1 at r1 e1 e2 ⊢
      generalize hG : w.heap.size = g0 at r0 e1 e2 HB ⊢
      have G0 := Lib.hid hG
      clear hG
      obtain ⟨p0, p1⟩ := row2 r0
      obtain ⟨q0, q1⟩ := row2 r1
      have f0 := r1.thaw 0
      have f1 := r1.thaw 1
      have R0 := Lib.hid r0
      have R1 := Lib.hid r1
      clear r0 r1
      go_wp2_with (go_at_call 29; refine (isWidth_any _ _).mono ?_; rintro e w9 ⟨rfl, rfl⟩)
      have zr := set2_row (.slice none 0 0) (.int .i64 0) R1.out
      have zb := set2_below (u0 := .slice none 0 0) (u1 := .int .i64 0) HB.out e1.out
      clear p0 p1 q0 q1 f0 f1 R1 R0 HB
      generalize (w1.setCell ⟨g1, 0, none⟩ (.slice none 0 0)).setCell ⟨g1, 1, none⟩ (.int .i64 0) = V at zr zb ⊢
      obtain ⟨k0, k1⟩ := row2 zr
      have ZB := Lib.hid zb
      clear zr zb
      exact bodyPost_ret (v := .tuple #[.agg #[.slice none 0 0, .int .i64 0], .int .i64 1]) (by simp [results, Try.results13, go_sem, k0, k1]) rfl (by rw [E.out]; exact ⟨none, 0, rfl, Bys.none _, by rw [G0.out]; exact ZB.out⟩)
  · have hk : isw k = false := by simpa using hk
    clear hf
    have HA : Hid (Below w.heap.size w ((w.alloc (.cells #[.slice A L.length c, .int .i64 n] 24)).alloc (.cells #[.slice none 0 0, .int .i64 0] 24))) := Lib.hid (((Below.refl _ _).alloc (Nat.le_refl _) _).alloc (by simp) _)
    have H := Lib.hid h
    clear h
    go_enter Try.func13, Try.ntmps13
    go_wp2_with fail
    refine (valid_any _ A c L n (H.out.under HA.out) hn0 hn1).mono ?_
    rw [HV.out]
    rintro e w1 ⟨rfl, hb⟩
    have r0 : Row w1 w.heap.size 24 #[.slice A L.length c, .int .i64 n] := (Row.alloc (Row.new _ _ _) _).under hb
    have r1 : Row w1 (w.heap.size + 1) 24 #[.slice none 0 0, .int .i64 0] := (Row.newAt (by simp)).under hb
    have HB : Hid (Below w.heap.size w w1) := Lib.hid (HA.out.trans (hb.mono HA.out.size))
    have e1 : Hid (w.heap.size ≤ w.heap.size + 1) := Lib.hid (by omega)
    have e2 : Hid (w.heap.size ≠ w.heap.size + 1) := Lib.hid (by omega)
    clear hb HA
    generalize w.heap.size + 1 = g1 at r1 e1 e2 ⊢
    generalize hG : w.heap.size = g0 at r0 e1 e2 HB ⊢
    have G0 := Lib.hid hG
    clear hG
    obtain ⟨p0, p1⟩ := row2 r0
    obtain ⟨q0, q1⟩ := row2 r1
    have f0 := r1.thaw 0
    have f1 := r1.thaw 1
    have R0 := Lib.hid r0
    have R1 := Lib.hid r1
    clear r0 r1
    go_wp2_with (go_at_call 29; refine (isWidth_any _ _).mono ?_; rintro e w9 ⟨rfl, rfl⟩)
    have zr := set2_row (.slice none 0 0) (.int .i64 0) R1.out
    have zb := set2_below (u0 := .slice none 0 0) (u1 := .int .i64 0) HB.out e1.out
    clear p0 p1 q0 q1 f0 f1 R1 R0 HB
    generalize (w1.setCell ⟨g1, 0, none⟩ (.slice none 0 0)).setCell ⟨g1, 1, none⟩ (.int .i64 0) = V at zr zb ⊢
    obtain ⟨k0, k1⟩ := row2 zr
    have ZB := Lib.hid zb
    clear zr zb
    exact bodyPost_ret (v := .tuple #[.agg #[.slice none 0 0, .int .i64 0], .int .i64 1]) (by simp [results, Try.results13, go_sem, k0, k1]) rfl (by rw [E.out]; exact ⟨none, 0, rfl, Bys.none _, by rw [G0.out]; exact ZB.out⟩)
set_option maxHeartbeats 2000000 in
theorem append_limit (w : World) (A : Option Addr) (c : Nat) (L : List Nat) (n v k : Int) (h : Bys w A c L) (hn0 : -9223372036854775808 ≤ n) (hn1 : n ≤ 9223372036854775807) (hv : vb L n = true) (hf : fits v k = true) (hl : 40000 < n + k) :
    Calls Try.prog 13 #[btV A c L n, .int .i64 v, .int .i64 k] w (Gives (appA L n v k) w) := by
  have E : Hid (appA L n v k = noAns 2) := Lib.hid (by unfold appA; rw [if_neg (by simp [hv]), if_neg (by simp [hf]), if_pos hl])
  have HV := Lib.hid hv
  obtain ⟨k1, k2, hv0, hw⟩ := (fits_iff _ _).1 hf
  obtain ⟨n1, n2, -, -⟩ := vb_is hv
  obtain ⟨K, rfl⟩ := Int.eq_ofNat_of_zero_le (by omega : 0 ≤ k)
  rw [Int.toNat_natCast] at hw
  have hp : (2 : Int) ^ K ≤ 16777216 := pow_le24 (by omega)
  have hp0 : (0 : Int) < 2 ^ K := Int.pow_pos (by decide)
  have hk : isw (K : Int) = true := by unfold isw; exact decide_eq_true ⟨k1, k2⟩
  clear hf hv
  have HA : Hid (Below w.heap.size w ((w.alloc (.cells #[.slice A L.length c, .int .i64 n] 24)).alloc (.cells #[.slice none 0 0, .int .i64 0] 24))) := Lib.hid (((Below.refl _ _).alloc (Nat.le_refl _) _).alloc (by simp) _)
  have H := Lib.hid h
  clear h
  go_enter Try.func13, Try.ntmps13
  go_wp2_with fail
  refine (valid_any _ A c L n (H.out.under HA.out) hn0 hn1).mono ?_
  rw [HV.out]
  rintro e w1 ⟨rfl, hb⟩
  have r0 : Row w1 w.heap.size 24 #[.slice A L.length c, .int .i64 n] := (Row.alloc (Row.new _ _ _) _).under hb
  have r1 : Row w1 (w.heap.size + 1) 24 #[.slice none 0 0, .int .i64 0] := (Row.newAt (by simp)).under hb
  have HB : Hid (Below w.heap.size w w1) := Lib.hid (HA.out.trans (hb.mono HA.out.size))
  have e1 : Hid (w.heap.size ≤ w.heap.size + 1) := Lib.hid (by omega)
  have e2 : Hid (w.heap.size ≠ w.heap.size + 1) := Lib.hid (by omega)
  clear hb HA
  generalize w.heap.size + 1 = g1 at r1 e1 e2 ⊢
  generalize hG : w.heap.size = g0 at r0 e1 e2 HB ⊢
  have G0 := Lib.hid hG
  clear hG
  obtain ⟨p0, p1⟩ := row2 r0
  obtain ⟨q0, q1⟩ := row2 r1
  have f0 := r1.thaw 0
  have f1 := r1.thaw 1
  have R0 := Lib.hid r0
  have R1 := Lib.hid r1
  clear r0 r1
  go_wp2_with (go_at_call 29; refine (isWidth_any _ _).mono ?_; rintro e w9 ⟨rfl, rfl⟩)
  have zr := set2_row (.slice none 0 0) (.int .i64 0) R1.out
  have zb := set2_below (u0 := .slice none 0 0) (u1 := .int .i64 0) HB.out e1.out
  clear p0 p1 q0 q1 f0 f1 R1 R0 HB
  generalize (w1.setCell ⟨g1, 0, none⟩ (.slice none 0 0)).setCell ⟨g1, 1, none⟩ (.int .i64 0) = V at zr zb ⊢
  obtain ⟨k0, k1⟩ := row2 zr
  have ZB := Lib.hid zb
  clear zr zb
  exact bodyPost_ret (v := .tuple #[.agg #[.slice none 0 0, .int .i64 0], .int .i64 2]) (by simp [results, Try.results13, go_sem, k0, k1]) rfl (by rw [E.out]; exact ⟨none, 0, rfl, Bys.none _, by rw [G0.out]; exact ZB.out⟩)
/-- How far the bits are written. -/
def upto (f : Nat → Bool) (i : Nat) : Nat → Bool := fun j => decide (j < i) && f j
theorem upto_step {L : List Nat} {N i : Nat} {f : Nat → Bool} (h : Pk L N (upto f i)) (hi : i < N) : Pk (L.set (i / 8) (L.getD (i / 8) 0 ||| (f i).toNat <<< (7 - i % 8))) N (upto f (i + 1)) := by
  refine (h.put hi (by unfold upto; simp) (f i)).cong (fun j hj => ?_)
  unfold upto
  by_cases e : j = i
  · subst e; simp
  · rw [if_neg e]
    by_cases h1 : j < i
    · simp [h1, show j < i + 1 by omega]
    · simp [h1, show ¬ j < i + 1 by omega]
theorem sh_bit (V e : Nat) (hV : V < 2 ^ 62) : bits .and .i64 ((V : Int) / 2 ^ e) 1 = ((V.testBit e).toNat : Int) := by
  have e1 : ((V : Int) / 2 ^ e) = ((V / 2 ^ e : Nat) : Int) := by rw [Int.natCast_ediv, Int.natCast_pow]; rfl
  have h1 : V / 2 ^ e ≤ V := Nat.div_le_self _ _
  rw [e1, and_one_i64 _ (Int.natCast_nonneg _) (by omega), Nat.toNat_testBit]
  omega
/-- The same, the bytes in new memory. -/
def GivesF (a : Ans) (w : World) (e : Ending) (w' : World) : Prop := ∃ A c, e = .returned (.tuple #[btV A c a.L a.n, .int .i64 a.e]) ∧ Bys w' A c a.L ∧ Below w.heap.size w w' ∧ ∀ bk off, A = some ⟨bk, off, none⟩ → w.heap.size ≤ bk
/-- What is in memory while bits are laid into a new list. -/
structure Mid (w : World) (g0 g3 g1 g2 : Nat) (c0 c1 c2 : Array Value) (N : Nat) (f : Nat → Bool) (i : Nat) (Z : World) : Prop where
  r0 : Row Z g0 24 c0
  r1 : Row Z g1 24 c1
  r2 : Row Z g2 24 c2
  own : ∃ M, Own Z g3 M ∧ Pk M N (upto f i)
  below : Below g0 w Z
set_option maxHeartbeats 4000000 in
theorem append_yesF (w : World) (A : Option Addr) (c : Nat) (L : List Nat) (n v k : Int) (h : Bys w A c L) (hn0 : -9223372036854775808 ≤ n) (hn1 : n ≤ 9223372036854775807) (hv : vb L n = true) (hf : fits v k = true) (hl : ¬ 40000 < n + k) :
    Calls Try.prog 13 #[btV A c L n, .int .i64 v, .int .i64 k] w (GivesF (appA L n v k) w) := by
  have HV := Lib.hid hv
  obtain ⟨k1, k2, hv0, hw⟩ := (fits_iff _ _).1 hf
  have VD := vb_is hv
  obtain ⟨N, rfl⟩ := Int.eq_ofNat_of_zero_le VD.1
  obtain ⟨K, rfl⟩ := Int.eq_ofNat_of_zero_le (by omega : 0 ≤ k)
  obtain ⟨V, rfl⟩ := Int.eq_ofNat_of_zero_le hv0
  have E : Hid (appA L N V K = ⟨pack (N + K) (wrt L N V K), N + K, 0⟩) := Lib.hid (by unfold appA; rw [if_neg (by simp [hv]), if_neg (by simp [hf]), if_neg hl]; rfl)
  rw [Int.toNat_natCast] at hw
  have hp : (2 : Int) ^ K ≤ 16777216 := pow_le24 (by omega)
  have hp0 : (0 : Int) < 2 ^ K := Int.pow_pos (by decide)
  have hk : isw (K : Int) = true := by unfold isw; exact decide_eq_true ⟨k1, k2⟩
  have hNK : N + K ≤ 40000 := by omega
  have HPk : Hid (Pk L N (bt L)) := Lib.hid (by have := VD.pk h.2.2.2.1; simpa using this)
  have HLn : Hid (L.length = (N + 7) / 8) := Lib.hid HPk.out.len
  clear hf hv VD
  have HA : Hid (Below w.heap.size w ((w.alloc (.cells #[.slice A L.length c, .int .i64 (N : Int)] 24)).alloc (.cells #[.slice none 0 0, .int .i64 0] 24))) := Lib.hid (((Below.refl _ _).alloc (Nat.le_refl _) _).alloc (by simp) _)
  have H := Lib.hid h
  clear h
  go_enter Try.func13, Try.ntmps13
  go_wp2_with fail
  refine (valid_any _ A c L N (H.out.under HA.out) hn0 hn1).mono ?_
  rw [HV.out]
  rintro e w1 ⟨rfl, hb⟩
  have r0 : Row w1 w.heap.size 24 #[.slice A L.length c, .int .i64 (N : Int)] := (Row.alloc (Row.new _ _ _) _).under hb
  have r1 : Row w1 (w.heap.size + 1) 24 #[.slice none 0 0, .int .i64 0] := (Row.newAt (by simp)).under hb
  have HB : Hid (Below w.heap.size w w1) := Lib.hid (HA.out.trans (hb.mono HA.out.size))
  have e1 : Hid (w.heap.size ≤ w.heap.size + 1) := Lib.hid (by omega)
  have e2 : Hid (w.heap.size ≠ w.heap.size + 1) := Lib.hid (by omega)
  clear hb HA
  generalize w.heap.size + 1 = g1 at r1 e1 e2 ⊢
  generalize hG : w.heap.size = g0 at r0 e1 e2 HB ⊢
  have G0 := Lib.hid hG
  clear hG
  obtain ⟨p0, p1⟩ := row2 r0
  obtain ⟨q0, q1⟩ := row2 r1
  have f0 := r1.thaw 0
  have f1 := r1.thaw 1
  have R0 := Lib.hid r0
  have R1 := Lib.hid r1
  clear r0 r1
  have HX : Hid (Bys w1 A c L) := Lib.hid (H.out.under (by rw [G0.out]; exact HB.out))
  go_upto_region 7 with (go_at_call 29; refine (isWidth_any _ _).mono ?_; rintro e w9 ⟨rfl, rfl⟩)
  generalize hQ : (N + K + 7) / 8 = Q
  have hQ2 : Q ≤ 5000 := by omega
  have HQ := Lib.hid hQ.symm
  clear hQ
  go_wp2_with fail
  refine (extended_any w1 A c L N K Q HX.out HLn.out hNK HQ.out).mono ?_
  rintro e w2 ⟨g3, rfl, hg3, ho, hb2⟩
  have s0 : Row w2 g0 24 #[.slice A L.length c, .int .i64 (N : Int)] := R0.out.under hb2
  have s1 : Row w2 g1 24 #[.slice none 0 0, .int .i64 0] := R1.out.under hb2
  have l0 := Row.lt R0.out
  have l1 := Row.lt R1.out
  have l3 := Row.lt ho
  have hb3 := HB.out.trans (hb2.mono (by have := HB.out.size; have := G0.out; omega))
  have hz : w2.heap.size ≠ g3 := by omega
  have hz1 : w2.heap.size ≠ g1 := by have := hb2.size; omega
  have hz3 : g3 ≠ g1 := by omega
  have hz4 : g0 ≤ g3 := by omega
  clear hb2 R0 R1 HB HX p0 p1 q0 q1 f0 f1
  have MS : Hid (Mid w g0 g3 g1 w2.heap.size #[.slice A L.length c, .int .i64 (N : Int)] #[.slice none 0 0, .int .i64 0] #[.slice (some ⟨g3, 0, none⟩) Q Q, .int .i64 ((N + K : Nat) : Int)] (N + K) (wrt L N V K) N (w2.alloc (.cells #[.slice (some ⟨g3, 0, none⟩) Q Q, .int .i64 ((N + K : Nat) : Int)] 24))) :=
    Lib.hid ⟨s0.alloc _, s1.alloc _, Row.new _ _ _, ⟨_, ho.alloc _, by
      rw [HQ.out]
      refine (HPk.out.more (Nat.le_add_right N K)).cong (fun j _ => ?_)
      unfold upto wrt
      by_cases hj : j < N
      · simp [hj]
      · simp [hj]⟩, hb3.alloc (by have := hb3.size; have := G0.out; omega) _⟩
  have Z := Lib.hid (show w2.heap.size ≠ g3 ∧ w2.heap.size ≠ g1 ∧ g3 ≠ g1 ∧ g0 ≤ g3 ∧ g0 ≠ g3 from ⟨hz, hz1, hz3, hz4, by omega⟩)
  clear s0 s1 ho l0 l1 l3 hb3 hz hz1 hz3 hz4 hg3
  go_upto_region 8 with fail
  generalize w2.heap.size = g2 at MS Z ⊢
  refine forget (fun Y => Hid (Mid w g0 g3 g1 g2 #[.slice A L.length c, .int .i64 (N : Int)] #[.slice none 0 0, .int .i64 0] #[.slice (some ⟨g3, 0, none⟩) Q Q, .int .i64 ((N + K : Nat) : Int)] (N + K) (wrt L N V K) N Y)) MS ?_
  clear MS
  intro Y MS
  go_wp2_with fail
  go_loopw [41] (fun t Y => ∃ i : Nat, i ≤ K ∧ t = .int .i64 i ∧ Hid (Mid w g0 g3 g1 g2 #[.slice A L.length c, .int .i64 (N : Int)] #[.slice none 0 0, .int .i64 0] #[.slice (some ⟨g3, 0, none⟩) Q Q, .int .i64 ((N + K : Nat) : Int)] (N + K) (wrt L N V K) (N + i) Y)) (fun t _ => K - (intOf t).toNat)
  case atStart => exact ⟨0, Nat.zero_le _, rfl, MS⟩
  case round =>
    clear MS
    obtain ⟨i, hi, rfl, M⟩ := hrel
    by_cases hlt : i < K
    · have i0 : (0 : Int) ≤ (i : Int) := by omega
      have i1 : (i : Int) < (K : Int) := by omega
      obtain ⟨b0, b1⟩ := row2 M.out.r0
      obtain ⟨b2, b3⟩ := row2 M.out.r2
      obtain ⟨W, hO, hP⟩ := M.out.own
      have O := Lib.hid hO
      have PP := Lib.hid hP
      clear hO hP
      have HWl : Hid (W.length = Q) := Lib.hid (PP.out.len.trans HQ.out.symm)
      have HNi : Hid (N + i < N + K ∧ (N + i) / 8 < W.length ∧ N + i ≤ 9000000 ∧ W.length ≤ Q ∧ Q ≤ 9223372036854775807) := Lib.hid ⟨by omega, by rw [PP.out.len]; omega, by omega, Nat.le_of_eq HWl.out, by omega⟩
      have HPt := put_any wr.drew g3 Q Q W ((N + K : Nat) : Int) (N + i) (V.testBit (K - 1 - i)) HWl.out (Row.drew O.out) HNi.out.2.1 HNi.out.2.2.1 PP.out.byte (by rw [HWl.out]; exact Nat.le_refl _) HNi.out.2.2.2.2
      simp only [Int.natCast_add] at HPt
      have HPt := Lib.hid HPt
      have HS := Lib.hid (upto_step PP.out HNi.out.1)
      have hf : wrt L N V K (N + i) = V.testBit (K - 1 - i) := by unfold wrt; rw [if_neg (by omega), Nat.add_sub_cancel_left]
      rw [hf] at HS
      have HMs := Lib.hid (show Row wr g0 24 _ ∧ Row wr g1 24 _ ∧ Row wr g2 24 _ ∧ Below g0 w wr from ⟨M.out.r0, M.out.r1, M.out.r2, M.out.below⟩)
      clear hf M O PP
      go_upto_region 11 with fail
      have x1 : IntKind.i64.wrap ((N : Int) + i) = (N : Int) + i := IntWalk.i64_in _ ⟨by omega, by omega⟩
      have x2 : IntKind.i64.wrap ((K : Int) - 1) = (K : Int) - 1 := IntWalk.i64_in _ ⟨by omega, by omega⟩
      have x3 : IntKind.i64.wrap ((K : Int) - 1 - i) = (K : Int) - 1 - i := IntWalk.i64_in _ ⟨by omega, by omega⟩
      have x4 : (0 : Int) ≤ (K : Int) - 1 - i := by omega
      have x5 : ((K : Int) - 1 - i).toNat = K - 1 - i := by omega
      have x6 := sh_bit V (K - 1 - i) (by omega)
      go_still_tail 12, (by kernel_rfl)
      change wpList _ _ _ _ _ wr.drew
      clear x1 x2 x3 x4 x5 b0 b1 b2 b3
      go_wp2_with fail
      refine HPt.out.mono ?_
      clear HPt x6
      rintro e w6 ⟨rfl, o6, g6⟩
      have HR : Hid (Mid w g0 g3 g1 g2 #[.slice A L.length c, .int .i64 (N : Int)] #[.slice none 0 0, .int .i64 0] #[.slice (some ⟨g3, 0, none⟩) Q Q, .int .i64 ((N + K : Nat) : Int)] (N + K) (wrt L N V K) (N + (i + 1)) w6) :=
        Lib.hid ⟨Row.grown (Row.drew HMs.out.1) g6 (fun e => Z.out.2.2.2.2 (by injection e)), Row.grown (Row.drew HMs.out.2.1) g6 (fun e => Z.out.2.2.1 (by injection e with e; exact e.symm)), Row.grown (Row.drew HMs.out.2.2.1) g6 (fun e => Z.out.1 (by injection e)), ⟨_, o6, HS.out⟩,
          below_grown (b := wr.drew) (below_drewN HMs.out.2.2.2 1) g6 Z.out.2.2.2.1 (by have := HMs.out.2.2.2.size; have := G0.out; show g0 ≤ wr.heap.size; omega)⟩
      clear o6 g6 HS HMs
      go_wp2_with fail
      go_roundw
      case rel => exact ⟨i + 1, by omega, by go_num, HR⟩
      case measure => simp [intOf]; omega
    · have k1 : ¬ (i : Int) < (K : Int) := by omega
      obtain rfl : i = K := by omega
      obtain ⟨b0, b1⟩ := row2 M.out.r1
      obtain ⟨b2, b3⟩ := row2 M.out.r2
      have f0 := Row.thaw M.out.r1 0
      have f1 := Row.thaw M.out.r1 1
      clear hlt
      go_wp2_with fail
      obtain ⟨W, hO, hP⟩ := M.out.own
      have zr := set2_row (.slice (some ⟨g3, 0, none⟩) Q Q) (.int .i64 ((N : Int) + i)) M.out.r1
      have zo : Own ((wr.setCell ⟨g1, 0, none⟩ (.slice (some ⟨g3, 0, none⟩) Q Q)).setCell ⟨g1, 1, none⟩ (.int .i64 ((N : Int) + i))) g3 W :=
        Row.far (p := ⟨g1, 1, none⟩) (Row.far (p := ⟨g1, 0, none⟩) hO (fun e => Z.out.2.2.1 e.symm) _) (fun e => Z.out.2.2.1 e.symm) _
      have zb := set2_below (u0 := .slice (some ⟨g3, 0, none⟩) Q Q) (u1 := .int .i64 ((N : Int) + i)) M.out.below e1.out
      clear b0 b1 b2 b3 f0 f1 M
      generalize (wr.setCell ⟨g1, 0, none⟩ (.slice (some ⟨g3, 0, none⟩) Q Q)).setCell ⟨g1, 1, none⟩ (.int .i64 ((N : Int) + i)) = V9 at zr zo zb ⊢
      obtain ⟨k7, k8⟩ := row2 zr
      have ZB := Lib.hid zb
      have hW : W = pack (N + i) (wrt L N V i) := hP.eq (fun j hj => by unfold upto; simp [hj])
      have hWl : (pack (N + i) (wrt L N V i)).length = Q := by rw [pack_len, HQ.out]
      have ZO := Lib.hid (Own.bys (hW ▸ zo) (hW ▸ hP.byte) (by rw [hWl]; omega))
      rw [hWl] at ZO
      have HWl := Lib.hid hWl
      clear zr zb zo hW hO hP hWl
      exact bodyPost_ret (v := .tuple #[.agg #[.slice (some ⟨g3, 0, none⟩) Q Q, .int .i64 ((N : Int) + i)], .int .i64 0]) (by simp [results, Try.results13, go_sem, k7, k8]) rfl (by rw [E.out]; exact ⟨some ⟨g3, 0, none⟩, Q, by rw [btV, HWl.out], ZO.out, by rw [G0.out]; exact ZB.out, fun bk off e => by injection e with e; injection e with e1; rw [G0.out, ← e1]; exact Z.out.2.2.2.1⟩)
theorem append_yes (w : World) (A : Option Addr) (c : Nat) (L : List Nat) (n v k : Int) (h : Bys w A c L) (hn0 : -9223372036854775808 ≤ n) (hn1 : n ≤ 9223372036854775807) (hv : vb L n = true) (hf : fits v k = true) (hl : ¬ 40000 < n + k) :
    Calls Try.prog 13 #[btV A c L n, .int .i64 v, .int .i64 k] w (Gives (appA L n v k) w) := (append_yesF w A c L n v k h hn0 hn1 hv hf hl).mono fun _ _ ⟨A, c, h1, h2, h3, _⟩ => ⟨A, c, h1, h2, h3⟩
theorem append_any (w : World) (A : Option Addr) (c : Nat) (L : List Nat) (n v k : Int) (h : Bys w A c L) (hn0 : -9223372036854775808 ≤ n) (hn1 : n ≤ 9223372036854775807) :
    Calls Try.prog 13 #[btV A c L n, .int .i64 v, .int .i64 k] w (Gives (appA L n v k) w) := by
  by_cases hv : vb L n = true
  · by_cases hf : fits v k = true
    · by_cases hl : 40000 < n + k
      · exact append_limit w A c L n v k h hn0 hn1 hv hf hl
      · exact append_yes w A c L n v k h hn0 hn1 hv hf hl
    · exact append_range w A c L n v k h hn0 hn1 hv (by simpa using hf)
  · exact append_state w A c L n v k h hn0 hn1 (by simpa using hv)
end Go.Proofs.Ytjabnicflpeopaa
