/- Contracts of the program's Pad and Read. -/
import Derived.Test.YtjabnicflpeopaaBitE
namespace Go.Proofs.Ytjabnicflpeopaa
open Go.RowKit

noncomputable def padA (L : List Nat) (n : Int) : Ans := if vb L n = false then noAns 7 else ⟨pack (8 * L.length) (bt L), (L.length : Int) * 8, 0⟩
theorem pack_whole {L : List Nat} (hb : ∀ x ∈ L, x < 256) : pack (8 * L.length) (bt L) = L := by
  refine (Pk.eq (g := bt L) (f := bt L) ⟨by omega, hb, fun i => ?_⟩ (fun _ _ => rfl)).symm
  by_cases hi : i < 8 * L.length
  · simp [hi]
  · simp [hi, bt_ge (by omega : 8 * L.length ≤ i)]
set_option maxHeartbeats 1000000 in
theorem pad_state (w : World) (A : Option Addr) (c : Nat) (L : List Nat) (n : Int) (h : Bys w A c L) (hn0 : -9223372036854775808 ≤ n) (hn1 : n ≤ 9223372036854775807) (hv : vb L n = false) :
    Calls Try.prog 20 #[btV A c L n] w (Gives (padA L n) w) := by
  have E : Hid (padA L n = noAns 7) := Lib.hid (by unfold padA; rw [if_pos hv])
  have HV := Lib.hid hv
  clear hv
  have HA : Hid (Below w.heap.size w ((w.alloc (.cells #[.slice A L.length c, .int .i64 n] 24)).alloc (.cells #[.slice none 0 0, .int .i64 0] 24))) := Lib.hid (((Below.refl _ _).alloc (Nat.le_refl _) _).alloc (by simp) _)
  have H := Lib.hid h
  clear h
  go_enter Try.func20, Try.ntmps20
  go_wp2_with fail
  refine (valid_any _ A c L n (H.out.under HA.out) hn0 hn1).mono ?_
  rw [HV.out]
  rintro e w1 ⟨rfl, hb⟩
  have r0 : Row w1 w.heap.size 24 #[.slice A L.length c, .int .i64 n] := (Row.alloc (Row.new _ _ _) _).under hb
  have r1 : Row w1 (w.heap.size + 1) 24 #[.slice none 0 0, .int .i64 0] := (Row.newAt (by simp)).under hb
  have HB : Hid (Below w.heap.size w w1) := Lib.hid (HA.out.trans (hb.mono HA.out.size))
  have e1 : Hid (w.heap.size ≤ w.heap.size + 1) := Lib.hid (by omega)
  have e2 : Hid (w.heap.size ≠ w.heap.size + 1) := Lib.hid (by omega)
  clear hb HA
  generalize w.heap.size + 1 = g1 at r1 e1 e2 ⊢
  generalize hG : w.heap.size = g0 at r0 e1 e2 HB ⊢
  have G0 := Lib.hid hG
  clear hG
  obtain ⟨p0, p1⟩ := row2 r0
  obtain ⟨q0, q1⟩ := row2 r1
  have f0 := r1.thaw 0
  have f1 := r1.thaw 1
  have R0 := Lib.hid r0
  have R1 := Lib.hid r1
  clear r0 r1
  go_wp2
  have zr := set2_row (.slice none 0 0) (.int .i64 0) R1.out
  have zb := set2_below (u0 := .slice none 0 0) (u1 := .int .i64 0) HB.out e1.out
  clear p0 p1 q0 q1 f0 f1 R1 R0 HB
  generalize (w1.setCell ⟨g1, 0, none⟩ (.slice none 0 0)).setCell ⟨g1, 1, none⟩ (.int .i64 0) = V at zr zb ⊢
  obtain ⟨k0, k1⟩ := row2 zr
  have ZB := Lib.hid zb
  clear zr zb
  exact bodyPost_ret (v := .tuple #[.agg #[.slice none 0 0, .int .i64 0], .int .i64 7]) (by simp [results, Try.results20, go_sem, k0, k1]) rfl (by rw [E.out]; exact ⟨none, 0, rfl, Bys.none _, by rw [G0.out]; exact ZB.out⟩)
set_option maxHeartbeats 2000000 in
theorem pad_yes (w : World) (A : Option Addr) (c : Nat) (L : List Nat) (n : Int) (h : Bys w A c L) (hn0 : -9223372036854775808 ≤ n) (hn1 : n ≤ 9223372036854775807) (hv : vb L n = true) :
    Calls Try.prog 20 #[btV A c L n] w (Gives (padA L n) w) := by
  have E : Hid (padA L n = ⟨L, (L.length : Int) * 8, 0⟩) := Lib.hid (by unfold padA; rw [if_neg (by simp [hv]), pack_whole h.2.2.2.1])
  have HV := Lib.hid hv
  have VD := vb_is hv
  obtain ⟨N, rfl⟩ := Int.eq_ofNat_of_zero_le VD.1
  have hLn : L.length = (N + 7) / 8 := by have := VD.2.2.1; simpa using this
  have hN : N ≤ 40000 := by have := VD.2.1; omega
  have j1 : (N : Int) ≤ (L.length : Int) * 8 := by omega
  have j2 : (L.length : Int) * 8 ≤ 40000 := by omega
  have HP : Hid (L.length = (N + 7) / 8 ∧ N + (L.length * 8 - N) ≤ 40000 ∧ L.length = (N + (L.length * 8 - N) + 7) / 8) := Lib.hid ⟨hLn, by omega, by omega⟩
  have HM : Hid ((L.length : Int) * 8 - (N : Int) = ((L.length * 8 - N : Nat) : Int)) := Lib.hid (by omega)
  have HM2 : Hid (((N + (L.length * 8 - N) : Nat) : Int) = (L.length : Int) * 8) := Lib.hid (by omega)
  have HLb := Lib.hid h.2.2.2.1
  clear hv VD hLn hN
  have HA : Hid (Below w.heap.size w ((w.alloc (.cells #[.slice A L.length c, .int .i64 (N : Int)] 24)).alloc (.cells #[.slice none 0 0, .int .i64 0] 24))) := Lib.hid (((Below.refl _ _).alloc (Nat.le_refl _) _).alloc (by simp) _)
  have H := Lib.hid h
  clear h
  go_enter Try.func20, Try.ntmps20
  go_wp2_with fail
  refine (valid_any _ A c L N (H.out.under HA.out) hn0 hn1).mono ?_
  rw [HV.out]
  rintro e w1 ⟨rfl, hb⟩
  have r0 : Row w1 w.heap.size 24 #[.slice A L.length c, .int .i64 (N : Int)] := (Row.alloc (Row.new _ _ _) _).under hb
  have r1 : Row w1 (w.heap.size + 1) 24 #[.slice none 0 0, .int .i64 0] := (Row.newAt (by simp)).under hb
  have HB : Hid (Below w.heap.size w w1) := Lib.hid (HA.out.trans (hb.mono HA.out.size))
  have e1 : Hid (w.heap.size ≤ w.heap.size + 1) := Lib.hid (by omega)
  have e2 : Hid (w.heap.size ≠ w.heap.size + 1) := Lib.hid (by omega)
  clear hb HA
  generalize w.heap.size + 1 = g1 at r1 e1 e2 ⊢
  generalize hG : w.heap.size = g0 at r0 e1 e2 HB ⊢
  have G0 := Lib.hid hG
  clear hG
  obtain ⟨p0, p1⟩ := row2 r0
  obtain ⟨q0, q1⟩ := row2 r1
  have f0 := r1.thaw 0
  have f1 := r1.thaw 1
  have R0 := Lib.hid r0
  have R1 := Lib.hid r1
  clear r0 r1
  have HX : Hid (Bys w1 A c L) := Lib.hid (H.out.under (by rw [G0.out]; exact HB.out))
  go_wp2_with fail
  rw [HM.out]
  refine (extended_any w1 A c L N (L.length * 8 - N) L.length HX.out HP.out.1 HP.out.2.1 HP.out.2.2).mono ?_
  rintro e w2 ⟨g3, rfl, hg3, ho, hb2⟩
  rw [Nat.sub_self, List.replicate_zero, List.append_nil] at ho
  have s1 : Row w2 g1 24 #[.slice none 0 0, .int .i64 0] := R1.out.under hb2
  have l1 := Row.lt R1.out
  have hb3 := HB.out.trans (hb2.mono (by have := HB.out.size; have := G0.out; omega))
  have hz3 : g1 ≠ g3 := by omega
  have HO := Lib.hid ho
  have HB3 := Lib.hid hb3
  have HZ3 := Lib.hid hz3
  clear hb2 R0 R1 HB HX p0 p1 q0 q1 f0 f1 hz3 hb3 ho
  obtain ⟨q0, q1⟩ := row2 s1
  have f0 := s1.thaw 0
  have f1 := s1.thaw 1
  have R1 := Lib.hid s1
  clear s1
  rw [HM2.out]
  go_wp2_with fail
  have zr := set2_row (.slice (some ⟨g3, 0, none⟩) L.length L.length) (.int .i64 ((L.length : Int) * 8)) R1.out
  have zo : Own ((w2.setCell ⟨g1, 0, none⟩ (.slice (some ⟨g3, 0, none⟩) L.length L.length)).setCell ⟨g1, 1, none⟩ (.int .i64 ((L.length : Int) * 8))) g3 L :=
    Row.far (p := ⟨g1, 1, none⟩) (Row.far (p := ⟨g1, 0, none⟩) HO.out HZ3.out _) HZ3.out _
  have zb := set2_below (u0 := .slice (some ⟨g3, 0, none⟩) L.length L.length) (u1 := .int .i64 ((L.length : Int) * 8)) HB3.out e1.out
  clear q0 q1 f0 f1 R1 HO HB3
  generalize (w2.setCell ⟨g1, 0, none⟩ (.slice (some ⟨g3, 0, none⟩) L.length L.length)).setCell ⟨g1, 1, none⟩ (.int .i64 ((L.length : Int) * 8)) = V9 at zr zo zb ⊢
  obtain ⟨k7, k8⟩ := row2 zr
  have ZB := Lib.hid zb
  have ZO := Lib.hid (Own.bys zo HLb.out (by omega))
  clear zr zo zb
  exact bodyPost_ret (v := .tuple #[.agg #[.slice (some ⟨g3, 0, none⟩) L.length L.length, .int .i64 ((L.length : Int) * 8)], .int .i64 0]) (by simp [results, Try.results20, go_sem, k7, k8]) rfl (by rw [E.out]; exact ⟨some ⟨g3, 0, none⟩, L.length, rfl, ZO.out, by rw [G0.out]; exact ZB.out⟩)
theorem pad_any (w : World) (A : Option Addr) (c : Nat) (L : List Nat) (n : Int) (h : Bys w A c L) (hn0 : -9223372036854775808 ≤ n) (hn1 : n ≤ 9223372036854775807) :
    Calls Try.prog 20 #[btV A c L n] w (Gives (padA L n) w) := by
  by_cases hv : vb L n = true
  · exact pad_yes w A c L n h hn0 hn1 hv
  · exact pad_state w A c L n h hn0 hn1 (by simpa using hv)
/-- The answer of a function that reads a number. -/
def GivesN (a : Int × Int) (w : World) (e : Ending) (w' : World) : Prop := e = .returned (.tuple #[.int .i64 a.1, .int .i64 a.2]) ∧ Below w.heap.size w w'
noncomputable def readA (L : List Nat) (n p k : Int) : Int × Int :=
  if vb L n = false then (0, 7)
  else if isw k = false then (0, 1)
  else if p < 0 then (0, 1)
  else if n - k < p then (0, 11)
  else ((num (bt L) p.toNat k.toNat : Int), 0)
set_option maxHeartbeats 1000000 in
theorem read_state (w : World) (A : Option Addr) (c : Nat) (L : List Nat) (n p k : Int) (h : Bys w A c L) (hn0 : -9223372036854775808 ≤ n) (hn1 : n ≤ 9223372036854775807) (hv : vb L n = false) :
    Calls Try.prog 16 #[btV A c L n, .int .i64 p, .int .i64 k] w (GivesN (readA L n p k) w) := by
  have E : Hid (readA L n p k = (0, 7)) := Lib.hid (by unfold readA; rw [if_pos hv])
  have HV := Lib.hid hv
  clear hv
  have HA : Hid (Below w.heap.size w (w.alloc (.cells #[.slice A L.length c, .int .i64 n] 24))) := Lib.hid ((Below.refl _ _).alloc (Nat.le_refl _) _)
  have H := Lib.hid h
  clear h
  go_enter Try.func16, Try.ntmps16
  go_wp2_with fail
  refine (valid_any _ A c L n (H.out.under HA.out) hn0 hn1).mono ?_
  rw [HV.out]
  rintro e w1 ⟨rfl, hb⟩
  have r0 : Row w1 w.heap.size 24 #[.slice A L.length c, .int .i64 n] := (Row.new _ _ _).under hb
  have HB : Hid (Below w.heap.size w w1) := Lib.hid (HA.out.trans (hb.mono HA.out.size))
  clear hb HA
  generalize hG : w.heap.size = g0 at r0 HB ⊢
  have G0 := Lib.hid hG
  clear hG
  obtain ⟨p0, p1⟩ := row2 r0
  have R0 := Lib.hid r0
  clear r0
  go_wp2
  go_ret2
  exact ⟨by rw [E.out]; rfl, by rw [G0.out]; exact HB.out⟩
set_option maxHeartbeats 1000000 in
theorem read_width (w : World) (A : Option Addr) (c : Nat) (L : List Nat) (n p k : Int) (h : Bys w A c L) (hn0 : -9223372036854775808 ≤ n) (hn1 : n ≤ 9223372036854775807) (hv : vb L n = true) (hk : isw k = false) :
    Calls Try.prog 16 #[btV A c L n, .int .i64 p, .int .i64 k] w (GivesN (readA L n p k) w) := by
  have E : Hid (readA L n p k = (0, 1)) := Lib.hid (by unfold readA; rw [if_neg (by simp [hv]), if_pos hk])
  have HV := Lib.hid hv
  clear hv
  have HA : Hid (Below w.heap.size w (w.alloc (.cells #[.slice A L.length c, .int .i64 n] 24))) := Lib.hid ((Below.refl _ _).alloc (Nat.le_refl _) _)
  have H := Lib.hid h
  clear h
  go_enter Try.func16, Try.ntmps16
  go_wp2_with fail
  refine (valid_any _ A c L n (H.out.under HA.out) hn0 hn1).mono ?_
  rw [HV.out]
  rintro e w1 ⟨rfl, hb⟩
  have r0 : Row w1 w.heap.size 24 #[.slice A L.length c, .int .i64 n] := (Row.new _ _ _).under hb
  have HB : Hid (Below w.heap.size w w1) := Lib.hid (HA.out.trans (hb.mono HA.out.size))
  clear hb HA
  generalize hG : w.heap.size = g0 at r0 HB ⊢
  have G0 := Lib.hid hG
  clear hG
  obtain ⟨p0, p1⟩ := row2 r0
  have R0 := Lib.hid r0
  clear r0
  go_wp2_with (go_at_call 29; refine (isWidth_any _ _).mono ?_; rintro e w9 ⟨rfl, rfl⟩)
  go_ret2
  exact ⟨by rw [E.out]; rfl, by rw [G0.out]; exact HB.out⟩
set_option maxHeartbeats 1000000 in
theorem read_neg (w : World) (A : Option Addr) (c : Nat) (L : List Nat) (n p k : Int) (h : Bys w A c L) (hn0 : -9223372036854775808 ≤ n) (hn1 : n ≤ 9223372036854775807) (hv : vb L n = true) (hk : isw k = true) (hp : p < 0) :
    Calls Try.prog 16 #[btV A c L n, .int .i64 p, .int .i64 k] w (GivesN (readA L n p k) w) := by
  have E : Hid (readA L n p k = (0, 1)) := Lib.hid (by unfold readA; rw [if_neg (by simp [hv]), if_neg (by simp [hk]), if_pos hp])
  have HV := Lib.hid hv
  clear hv
  have HA : Hid (Below w.heap.size w (w.alloc (.cells #[.slice A L.length c, .int .i64 n] 24))) := Lib.hid ((Below.refl _ _).alloc (Nat.le_refl _) _)
  have H := Lib.hid h
  clear h
  go_enter Try.func16, Try.ntmps16
  go_wp2_with fail
  refine (valid_any _ A c L n (H.out.under HA.out) hn0 hn1).mono ?_
  rw [HV.out]
  rintro e w1 ⟨rfl, hb⟩
  have r0 : Row w1 w.heap.size 24 #[.slice A L.length c, .int .i64 n] := (Row.new _ _ _).under hb
  have HB : Hid (Below w.heap.size w w1) := Lib.hid (HA.out.trans (hb.mono HA.out.size))
  clear hb HA
  generalize hG : w.heap.size = g0 at r0 HB ⊢
  have G0 := Lib.hid hG
  clear hG
  obtain ⟨p0, p1⟩ := row2 r0
  have R0 := Lib.hid r0
  clear r0
  go_wp2_with (go_at_call 29; refine (isWidth_any _ _).mono ?_; rintro e w9 ⟨rfl, rfl⟩)
  go_ret2
  exact ⟨by rw [E.out]; rfl, by rw [G0.out]; exact HB.out⟩
theorem isw_is {k : Int} (h : isw k = true) : 1 ≤ k ∧ k ≤ 24 := by unfold isw at h; exact of_decide_eq_true h
set_option maxHeartbeats 1000000 in
theorem read_short (w : World) (A : Option Addr) (c : Nat) (L : List Nat) (n p k : Int) (h : Bys w A c L) (hn0 : -9223372036854775808 ≤ n) (hn1 : n ≤ 9223372036854775807) (hv : vb L n = true) (hk : isw k = true) (hp : ¬ p < 0) (hs : n - k < p) :
    Calls Try.prog 16 #[btV A c L n, .int .i64 p, .int .i64 k] w (GivesN (readA L n p k) w) := by
  have E : Hid (readA L n p k = (0, 11)) := Lib.hid (by unfold readA; rw [if_neg (by simp [hv]), if_neg (by simp [hk]), if_neg hp, if_pos hs])
  have HV := Lib.hid hv
  obtain ⟨n1, n2, -, -⟩ := vb_is hv
  obtain ⟨k1, k2⟩ := isw_is hk
  clear hv
  have HA : Hid (Below w.heap.size w (w.alloc (.cells #[.slice A L.length c, .int .i64 n] 24))) := Lib.hid ((Below.refl _ _).alloc (Nat.le_refl _) _)
  have H := Lib.hid h
  clear h
  go_enter Try.func16, Try.ntmps16
  go_wp2_with fail
  refine (valid_any _ A c L n (H.out.under HA.out) hn0 hn1).mono ?_
  rw [HV.out]
  rintro e w1 ⟨rfl, hb⟩
  have r0 : Row w1 w.heap.size 24 #[.slice A L.length c, .int .i64 n] := (Row.new _ _ _).under hb
  have HB : Hid (Below w.heap.size w w1) := Lib.hid (HA.out.trans (hb.mono HA.out.size))
  clear hb HA
  generalize hG : w.heap.size = g0 at r0 HB ⊢
  have G0 := Lib.hid hG
  clear hG
  obtain ⟨p0, p1⟩ := row2 r0
  have R0 := Lib.hid r0
  clear r0
  go_wp2_with (go_at_call 29; refine (isWidth_any _ _).mono ?_; rintro e w9 ⟨rfl, rfl⟩)
  go_ret2
  exact ⟨by rw [E.out]; rfl, by rw [G0.out]; exact HB.out⟩
set_option maxHeartbeats 2000000 in
theorem read_yes (w : World) (A : Option Addr) (c : Nat) (L : List Nat) (n p k : Int) (h : Bys w A c L) (hn0 : -9223372036854775808 ≤ n) (hn1 : n ≤ 9223372036854775807) (hv : vb L n = true) (hk : isw k = true) (hp : ¬ p < 0) (hs : ¬ n - k < p) :
    Calls Try.prog 16 #[btV A c L n, .int .i64 p, .int .i64 k] w (GivesN (readA L n p k) w) := by
  have E0 : readA L n p k = ((num (bt L) p.toNat k.toNat : Int), 0) := by unfold readA; rw [if_neg (by simp [hv]), if_neg (by simp [hk]), if_neg hp, if_neg hs]
  have HV := Lib.hid hv
  have VD := vb_is hv
  obtain ⟨k1, k2⟩ := isw_is hk
  obtain ⟨N, rfl⟩ := Int.eq_ofNat_of_zero_le VD.1
  obtain ⟨K, rfl⟩ := Int.eq_ofNat_of_zero_le (by omega : 0 ≤ k)
  obtain ⟨P, rfl⟩ := Int.eq_ofNat_of_zero_le (by omega : 0 ≤ p)
  have E : Hid (readA L N P K = ((num (bt L) P K : Int), 0)) := Lib.hid E0
  have hN : N ≤ 40000 := by have := VD.2.1; omega
  have hPK : P + K ≤ N := by omega
  have HLn : Hid (L.length = (N + 7) / 8) := Lib.hid (by have := VD.2.2.1; simpa using this)
  clear hv VD E0
  have HA : Hid (Below w.heap.size w (w.alloc (.cells #[.slice A L.length c, .int .i64 (N : Int)] 24))) := Lib.hid ((Below.refl _ _).alloc (Nat.le_refl _) _)
  have H := Lib.hid h
  clear h
  go_enter Try.func16, Try.ntmps16
  go_wp2_with fail
  refine (valid_any _ A c L N (H.out.under HA.out) hn0 hn1).mono ?_
  rw [HV.out]
  rintro e w1 ⟨rfl, hb⟩
  have r0 : Row w1 w.heap.size 24 #[.slice A L.length c, .int .i64 (N : Int)] := (Row.new _ _ _).under hb
  have HB : Hid (Below w.heap.size w w1) := Lib.hid (HA.out.trans (hb.mono HA.out.size))
  clear hb HA
  generalize hG : w.heap.size = g0 at r0 HB ⊢
  have G0 := Lib.hid hG
  clear hG
  obtain ⟨p0, p1⟩ := row2 r0
  have R0 := Lib.hid r0
  clear r0
  go_wp2_with (go_at_call 29; refine (isWidth_any _ _).mono ?_; rintro e w9 ⟨rfl, rfl⟩)
  go_loopw [8, 30] (fun s t Y => ∃ i : Nat, i ≤ K ∧ t = .int .i64 i ∧ s = .int .i64 (num (bt L) P i : Nat) ∧ Hid (Row Y g0 24 #[.slice A L.length c, .int .i64 (N : Int)] ∧ Below g0 w Y)) (fun _ t _ => K - (intOf t).toNat)
  case atStart => exact ⟨0, Nat.zero_le _, rfl, rfl, Lib.hid ⟨R0.out, HB.out⟩⟩
  case round =>
    clear HB R0 p0 p1
    obtain ⟨i, hi, rfl, rfl, M⟩ := hrel
    by_cases hlt : i < K
    · have i0 : (0 : Int) ≤ (i : Int) := by omega
      have i1 : (i : Int) < (K : Int) := by omega
      obtain ⟨p0, p1⟩ := row2 M.out.1
      have HX : Hid (Bys wr A c L) := Lib.hid (H.out.under (by rw [G0.out]; exact M.out.2))
      have hq : num (bt L) P i < 16777216 := Nat.lt_of_lt_of_le (num_lt _ _ _) (Nat.le_trans (Nat.pow_le_pow_right (by decide) (by omega : i ≤ 24)) (by decide))
      have HS : Hid (num (bt L) P (i + 1) = 2 * num (bt L) P i + (bt L (P + i)).toNat) := Lib.hid rfl
      have hbv := Bool.toNat_le (bt L (P + i))
      generalize num (bt L) P i = q at hq HS ⊢
      have HI : Hid ((P + i) / 8 < L.length) := Lib.hid (by rw [HLn.out]; omega)
      have HC := bit_any wr A c L (N : Int) (P + i) HX.out HI.out (by omega)
      simp only [Int.natCast_add] at HC
      have HC2 := Lib.hid HC
      clear HC
      generalize (bt L (P + i)).toNat = b at hbv HS HC2 ⊢
      go_wp2_with fail
      refine HC2.out.mono ?_
      rintro e w2 ⟨rfl, hb⟩
      have HR := Lib.hid (show Row w2 g0 24 #[.slice A L.length c, .int .i64 (N : Int)] ∧ Below g0 w w2 from ⟨M.out.1.under hb, M.out.2.trans (hb.mono (by have := M.out.2.size; have := G0.out; omega))⟩)
      clear hb M p0 p1 HC2
      go_wp2_with fail
      go_roundw
      case rel => exact ⟨i + 1, by omega, by go_num, by rw [HS.out]; go_num, HR⟩
      case measure => simp [intOf]; omega
    · have k1 : ¬ (i : Int) < (K : Int) := by omega
      obtain rfl : i = K := by omega
      clear hlt
      go_wp2_with fail
      go_ret2
      exact ⟨by rw [E.out]; rfl, by rw [G0.out]; exact M.out.2⟩
theorem read_any (w : World) (A : Option Addr) (c : Nat) (L : List Nat) (n p k : Int) (h : Bys w A c L) (hn0 : -9223372036854775808 ≤ n) (hn1 : n ≤ 9223372036854775807) :
    Calls Try.prog 16 #[btV A c L n, .int .i64 p, .int .i64 k] w (GivesN (readA L n p k) w) := by
  by_cases hv : vb L n = true
  · by_cases hk : isw k = true
    · by_cases hp : p < 0
      · exact read_neg w A c L n p k h hn0 hn1 hv hk hp
      · by_cases hs : n - k < p
        · exact read_short w A c L n p k h hn0 hn1 hv hk hp hs
        · exact read_yes w A c L n p k h hn0 hn1 hv hk hp hs
    · exact read_width w A c L n p k h hn0 hn1 hv (by simpa using hk)
  · exact read_state w A c L n p k h hn0 hn1 (by simpa using hv)
end Go.Proofs.Ytjabnicflpeopaa
