/- Contracts of the program's Join and Pad. -/
import Derived.Test.YtjabnicflpeopaaBitE
namespace Go.Proofs.Ytjabnicflpeopaa
open Go.RowKit

/-- The bits of one list behind those of another. -/
def behind (L : List Nat) (n : Nat) (M : List Nat) : Nat → Bool := fun i => if i < n then bt L i else bt M (i - n)
noncomputable def joinA (L : List Nat) (n : Int) (M : List Nat) (m : Int) : Ans :=
  if vb L n = false then noAns 7
  else if vb M m = false then noAns 7
  else if 40000 < n + m then noAns 2
  else ⟨pack (n.toNat + m.toNat) (behind L n.toNat M), n + m, 0⟩
set_option maxHeartbeats 1000000 in
theorem join_state1 (w : World) (A B : Option Addr) (c d : Nat) (L M : List Nat) (n m : Int) (h : Bys w A c L) (k : Bys w B d M) (hn0 : -9223372036854775808 ≤ n) (hn1 : n ≤ 9223372036854775807) (hm0 : -9223372036854775808 ≤ m) (hm1 : m ≤ 9223372036854775807) (hv : vb L n = false) :
    Calls Try.prog 18 #[btV A c L n, btV B d M m] w (Gives (joinA L n M m) w) := by
  have E : Hid (joinA L n M m = noAns 7) := Lib.hid (by unfold joinA; rw [if_pos hv])
  have HV := Lib.hid hv
  clear hv
  have HA : Hid (Below w.heap.size w (((w.alloc (.cells #[.slice A L.length c, .int .i64 n] 24)).alloc (.cells #[.slice B M.length d, .int .i64 m] 24)).alloc (.cells #[.slice none 0 0, .int .i64 0] 24))) := Lib.hid ((((Below.refl _ _).alloc (Nat.le_refl _) _).alloc (by simp) _).alloc (by simp; omega) _)
  have H := Lib.hid h
  have KK := Lib.hid k
  clear h k
  go_enter Try.func18, Try.ntmps18
  go_wp2_with fail
  refine (valid_any _ A c L n (H.out.under HA.out) hn0 hn1).mono ?_
  rw [HV.out]
  rintro e w1 ⟨rfl, hb⟩
  have r0 : Row w1 w.heap.size 24 #[.slice A L.length c, .int .i64 n] := (Row.alloc (Row.alloc (Row.new _ _ _) _) _).under hb
  have ra : Row w1 (w.heap.size + 1) 24 #[.slice B M.length d, .int .i64 m] := (Row.alloc (Row.newAt (by simp)) _).under hb
  have r1 : Row w1 (w.heap.size + 1 + 1) 24 #[.slice none 0 0, .int .i64 0] := (Row.newAt (by simp)).under hb
  have HB : Hid (Below w.heap.size w w1) := Lib.hid (HA.out.trans (hb.mono HA.out.size))
  have e1 : Hid (w.heap.size ≤ w.heap.size + 1 + 1) := Lib.hid (by omega)
  have e2 : Hid (w.heap.size ≠ w.heap.size + 1 + 1 ∧ w.heap.size + 1 ≠ w.heap.size + 1 + 1) := Lib.hid ⟨by omega, by omega⟩
  have e3 : Hid (w.heap.size ≤ w.heap.size + 1) := Lib.hid (by omega)
  clear hb HA
  generalize w.heap.size + 1 + 1 = g1 at r1 e1 e2 ⊢
  generalize w.heap.size + 1 = ga at ra e2 e3 ⊢
  generalize hG : w.heap.size = g0 at r0 e1 e2 e3 HB ⊢
  have G0 := Lib.hid hG
  clear hG
  obtain ⟨p0, p1⟩ := row2 r0
  obtain ⟨a0, a1⟩ := row2 ra
  obtain ⟨q0, q1⟩ := row2 r1
  have f0 := r1.thaw 0
  have f1 := r1.thaw 1
  have R0 := Lib.hid r0
  have RA := Lib.hid ra
  have R1 := Lib.hid r1
  clear r0 ra r1
  go_wp2
  have zr := set2_row (.slice none 0 0) (.int .i64 0) R1.out
  have zb := set2_below (u0 := .slice none 0 0) (u1 := .int .i64 0) HB.out e1.out
  clear p0 p1 q0 q1 f0 f1 R1 R0 RA HB a0 a1
  generalize (w1.setCell ⟨g1, 0, none⟩ (.slice none 0 0)).setCell ⟨g1, 1, none⟩ (.int .i64 0) = V at zr zb ⊢
  obtain ⟨k0, k1⟩ := row2 zr
  have ZB := Lib.hid zb
  clear zr zb
  exact bodyPost_ret (v := .tuple #[.agg #[.slice none 0 0, .int .i64 0], .int .i64 7]) (by simp [results, Try.results18, go_sem, k0, k1]) rfl (by rw [E.out]; exact ⟨none, 0, rfl, Bys.none _, by rw [G0.out]; exact ZB.out⟩)
set_option maxHeartbeats 1000000 in
theorem join_state2 (w : World) (A B : Option Addr) (c d : Nat) (L M : List Nat) (n m : Int) (h : Bys w A c L) (k : Bys w B d M) (hn0 : -9223372036854775808 ≤ n) (hn1 : n ≤ 9223372036854775807) (hm0 : -9223372036854775808 ≤ m) (hm1 : m ≤ 9223372036854775807) (hv : vb L n = true) (hv2 : vb M m = false) :
    Calls Try.prog 18 #[btV A c L n, btV B d M m] w (Gives (joinA L n M m) w) := by
  have E : Hid (joinA L n M m = noAns 7) := Lib.hid (by unfold joinA; rw [if_neg (by simp [hv]), if_pos hv2])
  have HV := Lib.hid hv
  have HV2 := Lib.hid hv2
  clear hv hv2
  have HA : Hid (Below w.heap.size w (((w.alloc (.cells #[.slice A L.length c, .int .i64 n] 24)).alloc (.cells #[.slice B M.length d, .int .i64 m] 24)).alloc (.cells #[.slice none 0 0, .int .i64 0] 24))) := Lib.hid ((((Below.refl _ _).alloc (Nat.le_refl _) _).alloc (by simp) _).alloc (by simp; omega) _)
  have H := Lib.hid h
  have KK := Lib.hid k
  clear h k
  go_enter Try.func18, Try.ntmps18
  go_wp2_with fail
  refine (valid_any _ A c L n (H.out.under HA.out) hn0 hn1).mono ?_
  rw [HV.out]
  rintro e w1 ⟨rfl, hb⟩
  have r0 : Row w1 w.heap.size 24 #[.slice A L.length c, .int .i64 n] := (Row.alloc (Row.alloc (Row.new _ _ _) _) _).under hb
  have ra : Row w1 (w.heap.size + 1) 24 #[.slice B M.length d, .int .i64 m] := (Row.alloc (Row.newAt (by simp)) _).under hb
  have r1 : Row w1 (w.heap.size + 1 + 1) 24 #[.slice none 0 0, .int .i64 0] := (Row.newAt (by simp)).under hb
  have HB : Hid (Below w.heap.size w w1) := Lib.hid (HA.out.trans (hb.mono HA.out.size))
  have e1 : Hid (w.heap.size ≤ w.heap.size + 1 + 1) := Lib.hid (by omega)
  have e2 : Hid (w.heap.size ≠ w.heap.size + 1 + 1 ∧ w.heap.size + 1 ≠ w.heap.size + 1 + 1) := Lib.hid ⟨by omega, by omega⟩
  have e3 : Hid (w.heap.size ≤ w.heap.size + 1) := Lib.hid (by omega)
  clear hb HA
  generalize w.heap.size + 1 + 1 = g1 at r1 e1 e2 ⊢
  generalize w.heap.size + 1 = ga at ra e2 e3 ⊢
  generalize hG : w.heap.size = g0 at r0 e1 e2 e3 HB ⊢
  have G0 := Lib.hid hG
  clear hG
  obtain ⟨p0, p1⟩ := row2 r0
  obtain ⟨a0, a1⟩ := row2 ra
  obtain ⟨q0, q1⟩ := row2 r1
  have f0 := r1.thaw 0
  have f1 := r1.thaw 1
  have R0 := Lib.hid r0
  have RA := Lib.hid ra
  have R1 := Lib.hid r1
  clear r0 ra r1
  go_wp2_with fail
  refine (valid_any _ B d M m (KK.out.under (by rw [G0.out]; exact HB.out)) hm0 hm1).mono ?_
  rw [HV2.out]
  rintro e w2 ⟨rfl, hb⟩
  have r0 := R0.out.under hb
  have ra := RA.out.under hb
  have r1 := R1.out.under hb
  have HB2 : Hid (Below g0 w w2) := Lib.hid (HB.out.trans (hb.mono (by have := HB.out.size; have := G0.out; omega)))
  clear hb p0 p1 a0 a1 q0 q1 f0 f1 R0 RA R1 HB
  have HB := HB2
  clear HB2
  obtain ⟨p0, p1⟩ := row2 r0
  obtain ⟨a0, a1⟩ := row2 ra
  obtain ⟨q0, q1⟩ := row2 r1
  have f0 := r1.thaw 0
  have f1 := r1.thaw 1
  have R0 := Lib.hid r0
  have RA := Lib.hid ra
  have R1 := Lib.hid r1
  clear r0 ra r1
  go_wp2
  have zr := set2_row (.slice none 0 0) (.int .i64 0) R1.out
  have zb := set2_below (u0 := .slice none 0 0) (u1 := .int .i64 0) HB.out e1.out
  clear p0 p1 q0 q1 f0 f1 R1 R0 RA HB a0 a1
  generalize (w2.setCell ⟨g1, 0, none⟩ (.slice none 0 0)).setCell ⟨g1, 1, none⟩ (.int .i64 0) = V at zr zb ⊢
  obtain ⟨k0, k1⟩ := row2 zr
  have ZB := Lib.hid zb
  clear zr zb
  exact bodyPost_ret (v := .tuple #[.agg #[.slice none 0 0, .int .i64 0], .int .i64 7]) (by simp [results, Try.results18, go_sem, k0, k1]) rfl (by rw [E.out]; exact ⟨none, 0, rfl, Bys.none _, by rw [G0.out]; exact ZB.out⟩)
set_option maxHeartbeats 1000000 in
theorem join_limit (w : World) (A B : Option Addr) (c d : Nat) (L M : List Nat) (n m : Int) (h : Bys w A c L) (k : Bys w B d M) (hn0 : -9223372036854775808 ≤ n) (hn1 : n ≤ 9223372036854775807) (hm0 : -9223372036854775808 ≤ m) (hm1 : m ≤ 9223372036854775807) (hv : vb L n = true) (hv2 : vb M m = true) (hl : 40000 < n + m) :
    Calls Try.prog 18 #[btV A c L n, btV B d M m] w (Gives (joinA L n M m) w) := by
  have E : Hid (joinA L n M m = noAns 2) := Lib.hid (by unfold joinA; rw [if_neg (by simp [hv]), if_neg (by simp [hv2]), if_pos hl])
  have HV := Lib.hid hv
  have HV2 := Lib.hid hv2
  obtain ⟨n1, n2, -, -⟩ := vb_is hv
  obtain ⟨m1, m2, -, -⟩ := vb_is hv2
  clear hv hv2
  have HA : Hid (Below w.heap.size w (((w.alloc (.cells #[.slice A L.length c, .int .i64 n] 24)).alloc (.cells #[.slice B M.length d, .int .i64 m] 24)).alloc (.cells #[.slice none 0 0, .int .i64 0] 24))) := Lib.hid ((((Below.refl _ _).alloc (Nat.le_refl _) _).alloc (by simp) _).alloc (by simp; omega) _)
  have H := Lib.hid h
  have KK := Lib.hid k
  clear h k
  go_enter Try.func18, Try.ntmps18
  go_wp2_with fail
  refine (valid_any _ A c L n (H.out.under HA.out) hn0 hn1).mono ?_
  rw [HV.out]
  rintro e w1 ⟨rfl, hb⟩
  have r0 : Row w1 w.heap.size 24 #[.slice A L.length c, .int .i64 n] := (Row.alloc (Row.alloc (Row.new _ _ _) _) _).under hb
  have ra : Row w1 (w.heap.size + 1) 24 #[.slice B M.length d, .int .i64 m] := (Row.alloc (Row.newAt (by simp)) _).under hb
  have r1 : Row w1 (w.heap.size + 1 + 1) 24 #[.slice none 0 0, .int .i64 0] := (Row.newAt (by simp)).under hb
  have HB : Hid (Below w.heap.size w w1) := Lib.hid (HA.out.trans (hb.mono HA.out.size))
  have e1 : Hid (w.heap.size ≤ w.heap.size + 1 + 1) := Lib.hid (by omega)
  have e2 : Hid (w.heap.size ≠ w.heap.size + 1 + 1 ∧ w.heap.size + 1 ≠ w.heap.size + 1 + 1) := Lib.hid ⟨by omega, by omega⟩
  have e3 : Hid (w.heap.size ≤ w.heap.size + 1) := Lib.hid (by omega)
  clear hb HA
  generalize w.heap.size + 1 + 1 = g1 at r1 e1 e2 ⊢
  generalize w.heap.size + 1 = ga at ra e2 e3 ⊢
  generalize hG : w.heap.size = g0 at r0 e1 e2 e3 HB ⊢
  have G0 := Lib.hid hG
  clear hG
  obtain ⟨p0, p1⟩ := row2 r0
  obtain ⟨a0, a1⟩ := row2 ra
  obtain ⟨q0, q1⟩ := row2 r1
  have f0 := r1.thaw 0
  have f1 := r1.thaw 1
  have R0 := Lib.hid r0
  have RA := Lib.hid ra
  have R1 := Lib.hid r1
  clear r0 ra r1
  go_wp2_with fail
  refine (valid_any _ B d M m (KK.out.under (by rw [G0.out]; exact HB.out)) hm0 hm1).mono ?_
  rw [HV2.out]
  rintro e w2 ⟨rfl, hb⟩
  have r0 := R0.out.under hb
  have ra := RA.out.under hb
  have r1 := R1.out.under hb
  have HB2 : Hid (Below g0 w w2) := Lib.hid (HB.out.trans (hb.mono (by have := HB.out.size; have := G0.out; omega)))
  clear hb p0 p1 a0 a1 q0 q1 f0 f1 R0 RA R1 HB
  have HB := HB2
  clear HB2
  obtain ⟨p0, p1⟩ := row2 r0
  obtain ⟨a0, a1⟩ := row2 ra
  obtain ⟨q0, q1⟩ := row2 r1
  have f0 := r1.thaw 0
  have f1 := r1.thaw 1
  have R0 := Lib.hid r0
  have RA := Lib.hid ra
  have R1 := Lib.hid r1
  clear r0 ra r1
  go_wp2
  have zr := set2_row (.slice none 0 0) (.int .i64 0) R1.out
  have zb := set2_below (u0 := .slice none 0 0) (u1 := .int .i64 0) HB.out e1.out
  clear p0 p1 q0 q1 f0 f1 R1 R0 RA HB a0 a1
  generalize (w2.setCell ⟨g1, 0, none⟩ (.slice none 0 0)).setCell ⟨g1, 1, none⟩ (.int .i64 0) = V at zr zb ⊢
  obtain ⟨k0, k1⟩ := row2 zr
  have ZB := Lib.hid zb
  clear zr zb
  exact bodyPost_ret (v := .tuple #[.agg #[.slice none 0 0, .int .i64 0], .int .i64 2]) (by simp [results, Try.results18, go_sem, k0, k1]) rfl (by rw [E.out]; exact ⟨none, 0, rfl, Bys.none _, by rw [G0.out]; exact ZB.out⟩)
/-- What is in memory while bits are laid into a new list. -/
structure Mid2 (w : World) (g0 g3 g1 g2 ga : Nat) (c0 c1 c2 ca : Array Value) (N : Nat) (f : Nat → Bool) (i : Nat) (Z : World) : Prop where
  r0 : Row Z g0 24 c0
  r1 : Row Z g1 24 c1
  r2 : Row Z g2 24 c2
  ra : Row Z ga 24 ca
  own : ∃ M, Own Z g3 M ∧ Pk M N (upto f i)
  below : Below g0 w Z
theorem bt_num (b : Bool) : ((b.toNat : Nat) : Int) = (b.toNat : Int) := rfl
set_option maxHeartbeats 4000000 in
theorem join_yes (w : World) (A B : Option Addr) (c d : Nat) (L M : List Nat) (n m : Int) (h : Bys w A c L) (k : Bys w B d M) (hn0 : -9223372036854775808 ≤ n) (hn1 : n ≤ 9223372036854775807) (hm0 : -9223372036854775808 ≤ m) (hm1 : m ≤ 9223372036854775807) (hv : vb L n = true) (hv2 : vb M m = true) (hl : ¬ 40000 < n + m) :
    Calls Try.prog 18 #[btV A c L n, btV B d M m] w (Gives (joinA L n M m) w) := by
  have HV := Lib.hid hv
  have HV2 := Lib.hid hv2
  have VD := vb_is hv
  have VD2 := vb_is hv2
  obtain ⟨N, rfl⟩ := Int.eq_ofNat_of_zero_le VD.1
  obtain ⟨K, rfl⟩ := Int.eq_ofNat_of_zero_le VD2.1
  have E : Hid (joinA L N M K = ⟨pack (N + K) (behind L N M), N + K, 0⟩) := Lib.hid (by unfold joinA; rw [if_neg (by simp [hv]), if_neg (by simp [hv2]), if_neg hl]; rfl)
  have hNK : N + K ≤ 40000 := by omega
  have HPk : Hid (Pk L N (bt L)) := Lib.hid (by have := VD.pk h.2.2.2.1; simpa using this)
  have HLn : Hid (L.length = (N + 7) / 8) := Lib.hid HPk.out.len
  have HMn : Hid (M.length = (K + 7) / 8) := Lib.hid (by have := VD2.2.2.1; simpa using this)
  clear hv hv2 VD VD2
  have HA : Hid (Below w.heap.size w (((w.alloc (.cells #[.slice A L.length c, .int .i64 (N : Int)] 24)).alloc (.cells #[.slice B M.length d, .int .i64 (K : Int)] 24)).alloc (.cells #[.slice none 0 0, .int .i64 0] 24))) := Lib.hid ((((Below.refl _ _).alloc (Nat.le_refl _) _).alloc (by simp) _).alloc (by simp; omega) _)
  have H := Lib.hid h
  have KK := Lib.hid k
  clear h k
  go_enter Try.func18, Try.ntmps18
  go_wp2_with fail
  refine (valid_any _ A c L N (H.out.under HA.out) hn0 hn1).mono ?_
  rw [HV.out]
  rintro e w1 ⟨rfl, hb⟩
  have r0 : Row w1 w.heap.size 24 #[.slice A L.length c, .int .i64 (N : Int)] := (Row.alloc (Row.alloc (Row.new _ _ _) _) _).under hb
  have ra : Row w1 (w.heap.size + 1) 24 #[.slice B M.length d, .int .i64 (K : Int)] := (Row.alloc (Row.newAt (by simp)) _).under hb
  have r1 : Row w1 (w.heap.size + 1 + 1) 24 #[.slice none 0 0, .int .i64 0] := (Row.newAt (by simp)).under hb
  have HB : Hid (Below w.heap.size w w1) := Lib.hid (HA.out.trans (hb.mono HA.out.size))
  have e1 : Hid (w.heap.size ≤ w.heap.size + 1 + 1) := Lib.hid (by omega)
  have e2 : Hid (w.heap.size ≠ w.heap.size + 1 + 1 ∧ w.heap.size + 1 ≠ w.heap.size + 1 + 1) := Lib.hid ⟨by omega, by omega⟩
  have e3 : Hid (w.heap.size ≤ w.heap.size + 1) := Lib.hid (by omega)
  clear hb HA
  generalize w.heap.size + 1 + 1 = g1 at r1 e1 e2 ⊢
  generalize w.heap.size + 1 = ga at ra e2 e3 ⊢
  generalize hG : w.heap.size = g0 at r0 e1 e2 e3 HB ⊢
  have G0 := Lib.hid hG
  clear hG
  obtain ⟨p0, p1⟩ := row2 r0
  obtain ⟨a0, a1⟩ := row2 ra
  obtain ⟨q0, q1⟩ := row2 r1
  have f0 := r1.thaw 0
  have f1 := r1.thaw 1
  have R0 := Lib.hid r0
  have RA := Lib.hid ra
  have R1 := Lib.hid r1
  clear r0 ra r1
  go_wp2_with fail
  refine (valid_any _ B d M K (KK.out.under (by rw [G0.out]; exact HB.out)) hm0 hm1).mono ?_
  rw [HV2.out]
  rintro e w2 ⟨rfl, hb⟩
  have r0 := R0.out.under hb
  have ra := RA.out.under hb
  have r1 := R1.out.under hb
  have HB2 : Hid (Below g0 w w2) := Lib.hid (HB.out.trans (hb.mono (by have := HB.out.size; have := G0.out; omega)))
  clear hb p0 p1 a0 a1 q0 q1 f0 f1 R0 RA R1 HB
  have HB := HB2
  clear HB2
  obtain ⟨p0, p1⟩ := row2 r0
  obtain ⟨a0, a1⟩ := row2 ra
  obtain ⟨q0, q1⟩ := row2 r1
  have f0 := r1.thaw 0
  have f1 := r1.thaw 1
  have R0 := Lib.hid r0
  have RA := Lib.hid ra
  have R1 := Lib.hid r1
  clear r0 ra r1
  have HX : Hid (Bys w2 A c L) := Lib.hid (H.out.under (by rw [G0.out]; exact HB.out))
  have HY : Hid (Bys w2 B d M) := Lib.hid (KK.out.under (by rw [G0.out]; exact HB.out))
  go_upto_region 5 with fail
  generalize hQ : (N + K + 7) / 8 = Q
  have hQ2 : Q ≤ 5000 := by omega
  have HQ := Lib.hid hQ.symm
  clear hQ
  go_wp2_with fail
  refine (extended_any w2 A c L N K Q HX.out HLn.out hNK HQ.out).mono ?_
  rintro e w3 ⟨g3, rfl, hg3, ho, hb2⟩
  have s0 := R0.out.under hb2
  have sa := RA.out.under hb2
  have s1 := R1.out.under hb2
  have l0 := Row.lt R0.out
  have la := Row.lt RA.out
  have l1 := Row.lt R1.out
  have l3 := Row.lt ho
  have hb3 := HB.out.trans (hb2.mono (by have := HB.out.size; have := G0.out; omega))
  have hz : w3.heap.size ≠ g3 := by omega
  have hz1 : w3.heap.size ≠ g1 := by have := hb2.size; omega
  have hz3 : g3 ≠ g1 := by omega
  have hz4 : g0 ≤ g3 := by omega
  have hz5 : ga ≠ g3 := by omega
  have HY3 : Hid (Bys w B d M) := KK
  clear hb2 R0 R1 RA HB HX HY p0 p1 q0 q1 f0 f1 a0 a1
  have MS : Hid (Mid2 w g0 g3 g1 w3.heap.size ga #[.slice A L.length c, .int .i64 (N : Int)] #[.slice none 0 0, .int .i64 0] #[.slice (some ⟨g3, 0, none⟩) Q Q, .int .i64 ((N + K : Nat) : Int)] #[.slice B M.length d, .int .i64 (K : Int)] (N + K) (behind L N M) N (w3.alloc (.cells #[.slice (some ⟨g3, 0, none⟩) Q Q, .int .i64 ((N + K : Nat) : Int)] 24))) :=
    Lib.hid ⟨s0.alloc _, s1.alloc _, Row.new _ _ _, sa.alloc _, ⟨_, ho.alloc _, by
      rw [HQ.out]
      refine (HPk.out.more (Nat.le_add_right N K)).cong (fun j _ => ?_)
      unfold upto behind
      by_cases hj : j < N
      · simp [hj]
      · simp [hj]⟩, hb3.alloc (by have := hb3.size; have := G0.out; omega) _⟩
  have Z := Lib.hid (show w3.heap.size ≠ g3 ∧ w3.heap.size ≠ g1 ∧ g3 ≠ g1 ∧ g0 ≤ g3 ∧ g0 ≠ g3 ∧ ga ≠ g3 from ⟨hz, hz1, hz3, hz4, by omega, hz5⟩)
  clear s0 s1 sa ho l0 l1 l3 la hb3 hz hz1 hz3 hz4 hg3 hz5
  go_upto_region 6 with fail
  generalize w3.heap.size = g2 at MS Z ⊢
  refine forget (fun Y => Hid (Mid2 w g0 g3 g1 g2 ga #[.slice A L.length c, .int .i64 (N : Int)] #[.slice none 0 0, .int .i64 0] #[.slice (some ⟨g3, 0, none⟩) Q Q, .int .i64 ((N + K : Nat) : Int)] #[.slice B M.length d, .int .i64 (K : Int)] (N + K) (behind L N M) N Y)) MS ?_
  clear MS
  intro Y MS
  obtain ⟨a0, a1⟩ := row2 MS.out.ra
  go_wp2_with fail
  clear a0 a1
  go_loopw [32] (fun t Y => ∃ i : Nat, i ≤ K ∧ t = .int .i64 i ∧ Hid (Mid2 w g0 g3 g1 g2 ga #[.slice A L.length c, .int .i64 (N : Int)] #[.slice none 0 0, .int .i64 0] #[.slice (some ⟨g3, 0, none⟩) Q Q, .int .i64 ((N + K : Nat) : Int)] #[.slice B M.length d, .int .i64 (K : Int)] (N + K) (behind L N M) (N + i) Y)) (fun t _ => K - (intOf t).toNat)
  case atStart => exact ⟨0, Nat.zero_le _, rfl, MS⟩
  case round =>
    clear MS
    obtain ⟨i, hi, rfl, MM⟩ := hrel
    by_cases hlt : i < K
    · have i0 : (0 : Int) ≤ (i : Int) := by omega
      have i1 : (i : Int) < (K : Int) := by omega
      obtain ⟨b0, b1⟩ := row2 MM.out.r0
      obtain ⟨b2, b3⟩ := row2 MM.out.r2
      obtain ⟨b4, b5⟩ := row2 MM.out.ra
      obtain ⟨W, hO, hP⟩ := MM.out.own
      have O := Lib.hid hO
      have PP := Lib.hid hP
      clear hO hP
      have HWl : Hid (W.length = Q) := Lib.hid (PP.out.len.trans HQ.out.symm)
      have HNi : Hid (N + i < N + K ∧ (N + i) / 8 < W.length ∧ N + i ≤ 9000000 ∧ W.length ≤ Q ∧ Q ≤ 9223372036854775807 ∧ i / 8 < M.length ∧ i ≤ 9000000) := Lib.hid ⟨by omega, by rw [PP.out.len]; omega, by omega, Nat.le_of_eq HWl.out, by omega, by rw [HMn.out]; omega, by omega⟩
      have HS := Lib.hid (upto_step PP.out HNi.out.1)
      have hf : behind L N M (N + i) = bt M i := by unfold behind; rw [if_neg (by omega), Nat.add_sub_cancel_left]
      rw [hf] at HS
      have HMs := Lib.hid (show Row wr g0 24 _ ∧ Row wr g1 24 _ ∧ Row wr g2 24 _ ∧ Below g0 w wr ∧ Row wr ga 24 _ ∧ Own wr g3 W from ⟨MM.out.r0, MM.out.r1, MM.out.r2, MM.out.below, MM.out.ra, O.out⟩)
      have HPb := Lib.hid PP.out.byte
      clear hf MM O PP
      go_upto_region 9 with fail
      have x1 : IntKind.i64.wrap ((N : Int) + i) = (N : Int) + i := IntWalk.i64_in _ ⟨by omega, by omega⟩
      refine wp_region_held_drew (S := fun Y : World => (Y.cell? ⟨g0, 1, none⟩ = some (.int .i64 (N : Int))) ∧ (Y.cell? ⟨g2, 0, none⟩ = some (.slice (some ⟨g3, 0, none⟩) Q Q) ∧ Y.cell? ⟨g2, 1, none⟩ = some (.int .i64 ((N + K : Nat) : Int))) ∧ (Y.cell? ⟨ga, 0, none⟩ = some (.slice B M.length d) ∧ Y.cell? ⟨ga, 1, none⟩ = some (.int .i64 (K : Int)))) (by kernel_rfl) ⟨b1, ⟨b2, b3⟩, ⟨b4, b5⟩⟩ (fun hHeld => ?_)
      clear b0 b1 b2 b3 b4 b5
      refine wpAnyH_take (i := 0) (oi := ⟨some 35, _, _, _, _, none⟩) (v := ?_) rfl (by kernel_rfl) (by kernel_rfl) (by kernel_rfl) (fun _ _ _ h => h) (Or.inl ⟨by rfl, ?_⟩) (by assumption) ?_
      case refine_2 => (intro wx hSx; (try dsimp only at hSx); go_simp; first | done | with_reducible rfl)
      try simp only [Act.put, List.setIfInBounds_toArray, List.set_cons_zero, List.set_cons_succ]
      refine wpAnyH_take (i := 1) (oi := ⟨some 36, _, _, _, _, none⟩) (v := ?_) rfl (by kernel_rfl) (by kernel_rfl) (by kernel_rfl) (fun _ _ _ h => h) (Or.inl ⟨by rfl, ?_⟩) (by assumption) ?_
      case refine_2 => (intro wx hSx; (try dsimp only at hSx); go_simp; first | done | with_reducible rfl)
      try simp only [Act.put, List.setIfInBounds_toArray, List.set_cons_zero, List.set_cons_succ]
      refine wpAnyH_take (i := 2) (oi := ⟨some 37, _, _, _, _, none⟩) (v := ?_) rfl (by kernel_rfl) (by kernel_rfl) (by kernel_rfl) (fun _ _ _ h => h) (Or.inl ⟨by rfl, ?_⟩) (by assumption) ?_
      case refine_2 => (intro wx hSx; (try dsimp only at hSx); go_simp; first | done | with_reducible rfl)
      try simp only [Act.put, List.setIfInBounds_toArray, List.set_cons_zero, List.set_cons_succ]
      refine wpAnyH_take (i := 3) (oi := ⟨some 38, _, _, _, _, none⟩) (v := ?_) rfl (by kernel_rfl) (by kernel_rfl) (by kernel_rfl) (fun _ _ _ h => h) (Or.inl ⟨by rfl, ?_⟩) (by assumption) ?_
      case refine_2 => (intro wx hSx; (try dsimp only at hSx); go_simp; first | done | with_reducible rfl)
      try simp only [Act.put, List.setIfInBounds_toArray, List.set_cons_zero, List.set_cons_succ]
      refine wpAnyH_take (i := 4) (oi := ⟨some 39, _, _, _, _, none⟩) (v := ?_) rfl (by kernel_rfl) (by kernel_rfl) (by kernel_rfl) (fun _ _ _ h => h) (Or.inl ⟨by rfl, ?_⟩) (by assumption) ?_
      case refine_2 => (intro wx hSx; (try dsimp only at hSx); go_simp; first | done | with_reducible rfl)
      try simp only [Act.put, List.setIfInBounds_toArray, List.set_cons_zero, List.set_cons_succ]
      refine wpAnyH_take (i := 5) (oi := ⟨some 40, _, _, _, _, none⟩) (v := ?_) rfl (by kernel_rfl) (by kernel_rfl) (by kernel_rfl) (fun _ _ _ h => h) (Or.inl ⟨by rfl, ?_⟩) (by assumption) ?_
      case refine_2 => (intro wx hSx; (try dsimp only at hSx); go_simp; first | done | with_reducible rfl)
      try simp only [Act.put, List.setIfInBounds_toArray, List.set_cons_zero, List.set_cons_succ]
      refine wpAnyH_take (i := 6) (oi := ⟨some 41, _, _, _, _, none⟩) (v := ?_) rfl (by kernel_rfl) (by kernel_rfl) (by kernel_rfl) (fun _ _ _ h => h) (Or.inl ⟨by rfl, ?_⟩) (by assumption) ?_
      case refine_2 => (intro wx hSx; (try dsimp only at hSx); go_simp; first | done | with_reducible rfl)
      try simp only [Act.put, List.setIfInBounds_toArray, List.set_cons_zero, List.set_cons_succ]
      clear x1
      refine wpAnyH_ready (rs := [7]) (by kernel_rfl) (by simp) ?_
      refine AllReadyH.cons (o := ⟨some 42, _, _, _, _, none⟩) rfl (fun Kx hK => ?_) AllReadyH.nil
      go_simp
      refine (bit_any _ B d M _ i (HY3.out.under (by rw [G0.out]; exact below_drewN HMs.out.2.2.2.1 1)) HNi.out.2.2.2.2.2.1 HNi.out.2.2.2.2.2.2).mono ?_
      rintro e w4 ⟨rfl, hb4⟩
      have B4 : Hid (Below wr.drew.heap.size wr.drew w4) := Lib.hid hb4
      have q0 := Row.under (Row.drew HMs.out.1) B4.out
      have q1 := Row.under (Row.drew HMs.out.2.1) B4.out
      have q2 := Row.under (Row.drew HMs.out.2.2.1) B4.out
      have qa := Row.under (Row.drew HMs.out.2.2.2.2.1) B4.out
      have qo : Own w4 g3 W := Row.under (Row.drew HMs.out.2.2.2.2.2) B4.out
      have qb : Below g0 w w4 := (below_drewN HMs.out.2.2.2.1 1).trans (B4.out.mono (by have := HMs.out.2.2.2.1.size; have := G0.out; show g0 ≤ wr.heap.size; omega))
      have HPt := put_any w4 g3 Q Q W ((N + K : Nat) : Int) (N + i) (bt M i) HWl.out qo HNi.out.2.1 HNi.out.2.2.1 HPb.out (by rw [HWl.out]; exact Nat.le_refl _) HNi.out.2.2.2.2.1
      simp only [Int.natCast_add] at HPt
      have HPt2 := Lib.hid HPt
      have HW4 := Lib.hid (show Row w4 g0 24 _ ∧ Row w4 g1 24 _ ∧ Row w4 g2 24 _ ∧ Below g0 w w4 ∧ Row w4 ga 24 _ from ⟨q0, q1, q2, qb, qa⟩)
      clear q0 q1 q2 qa qo qb HPt hb4 hHeld
      go_wp2_with fail
      refine hK.out _ _ ⟨(row2 HW4.out.1).2, row2 HW4.out.2.2.1, row2 HW4.out.2.2.2.2⟩ (fun hHeld2 => ?_)
      clear hK Kx
      try simp only [Act.put, List.setIfInBounds_toArray, List.set_cons_zero, List.set_cons_succ]
      refine wpAnyH_ready (rs := [8]) (by kernel_rfl) (by simp) ?_
      refine AllReadyH.cons (o := ⟨some 43, _, _, _, _, none⟩) rfl (fun Kx hK => ?_) AllReadyH.nil
      go_simp
      refine HPt2.out.mono ?_
      rintro e w6 ⟨rfl, o6, g6⟩
      have HR : Hid (Mid2 w g0 g3 g1 g2 ga #[.slice A L.length c, .int .i64 (N : Int)] #[.slice none 0 0, .int .i64 0] #[.slice (some ⟨g3, 0, none⟩) Q Q, .int .i64 ((N + K : Nat) : Int)] #[.slice B M.length d, .int .i64 (K : Int)] (N + K) (behind L N M) (N + (i + 1)) w6) :=
        Lib.hid ⟨Row.grown HW4.out.1 g6 (fun e => Z.out.2.2.2.2.1 (by injection e)), Row.grown HW4.out.2.1 g6 (fun e => Z.out.2.2.1 (by injection e with e; exact e.symm)), Row.grown HW4.out.2.2.1 g6 (fun e => Z.out.1 (by injection e)), Row.grown HW4.out.2.2.2.2 g6 (fun e => Z.out.2.2.2.2.2 (by injection e)), ⟨_, o6, HS.out⟩,
          below_grown HW4.out.2.2.2.1 g6 Z.out.2.2.2.1 (by have := HW4.out.2.2.2.1.size; have := G0.out; omega)⟩
      clear o6 g6 HS HMs HW4 HPt2 B4
      go_wp2_with fail
      refine hK.out _ _ ⟨(row2 HR.out.r0).2, row2 HR.out.r2, row2 HR.out.ra⟩ (fun hHeld3 => ?_)
      clear hK Kx hHeld2 hHeld3
      try simp only [Act.put, List.setIfInBounds_toArray, List.set_cons_zero, List.set_cons_succ]
      refine wpAnyH_done (by kernel_rfl) ?_ _
      go_wp2_with fail
      go_roundw
      case rel => exact ⟨i + 1, by omega, by go_num, HR⟩
      case measure => simp [intOf]; omega
    · have k1 : ¬ (i : Int) < (K : Int) := by omega
      obtain rfl : i = K := by omega
      obtain ⟨b0, b1⟩ := row2 MM.out.r1
      obtain ⟨b2, b3⟩ := row2 MM.out.r2
      have f0 := Row.thaw MM.out.r1 0
      have f1 := Row.thaw MM.out.r1 1
      clear hlt
      go_wp2_with fail
      obtain ⟨W, hO, hP⟩ := MM.out.own
      have zr := set2_row (.slice (some ⟨g3, 0, none⟩) Q Q) (.int .i64 ((N : Int) + i)) MM.out.r1
      have zo : Own ((wr.setCell ⟨g1, 0, none⟩ (.slice (some ⟨g3, 0, none⟩) Q Q)).setCell ⟨g1, 1, none⟩ (.int .i64 ((N : Int) + i))) g3 W :=
        Row.far (p := ⟨g1, 1, none⟩) (Row.far (p := ⟨g1, 0, none⟩) hO (fun e => Z.out.2.2.1 e.symm) _) (fun e => Z.out.2.2.1 e.symm) _
      have zb := set2_below (u0 := .slice (some ⟨g3, 0, none⟩) Q Q) (u1 := .int .i64 ((N : Int) + i)) MM.out.below e1.out
      clear b0 b1 b2 b3 f0 f1 MM
      generalize (wr.setCell ⟨g1, 0, none⟩ (.slice (some ⟨g3, 0, none⟩) Q Q)).setCell ⟨g1, 1, none⟩ (.int .i64 ((N : Int) + i)) = V9 at zr zo zb ⊢
      obtain ⟨k7, k8⟩ := row2 zr
      have ZB := Lib.hid zb
      have hW : W = pack (N + i) (behind L N M) := hP.eq (fun j hj => by unfold upto; simp [hj])
      have hWl : (pack (N + i) (behind L N M)).length = Q := by rw [pack_len, HQ.out]
      have ZO := Lib.hid (Own.bys (hW ▸ zo) (hW ▸ hP.byte) (by rw [hWl]; omega))
      rw [hWl] at ZO
      have HWl := Lib.hid hWl
      clear zr zb zo hW hO hP hWl
      exact bodyPost_ret (v := .tuple #[.agg #[.slice (some ⟨g3, 0, none⟩) Q Q, .int .i64 ((N : Int) + i)], .int .i64 0]) (by simp [results, Try.results18, go_sem, k7, k8]) rfl (by rw [E.out]; exact ⟨some ⟨g3, 0, none⟩, Q, by rw [btV, HWl.out], ZO.out, by rw [G0.out]; exact ZB.out⟩)
theorem join_any (w : World) (A B : Option Addr) (c d : Nat) (L M : List Nat) (n m : Int) (h : Bys w A c L) (k : Bys w B d M) (hn0 : -9223372036854775808 ≤ n) (hn1 : n ≤ 9223372036854775807) (hm0 : -9223372036854775808 ≤ m) (hm1 : m ≤ 9223372036854775807) :
    Calls Try.prog 18 #[btV A c L n, btV B d M m] w (Gives (joinA L n M m) w) := by
  by_cases hv : vb L n = true
  · by_cases hf : vb M m = true
    · by_cases hl : 40000 < n + m
      · exact join_limit w A B c d L M n m h k hn0 hn1 hm0 hm1 hv hf hl
      · exact join_yes w A B c d L M n m h k hn0 hn1 hm0 hm1 hv hf hl
    · exact join_state2 w A B c d L M n m h k hn0 hn1 hm0 hm1 hv (by simpa using hf)
  · exact join_state1 w A B c d L M n m h k hn0 hn1 hm0 hm1 (by simpa using hv)
end Go.Proofs.Ytjabnicflpeopaa
