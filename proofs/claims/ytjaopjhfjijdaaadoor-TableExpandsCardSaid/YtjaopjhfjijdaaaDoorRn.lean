/- Contracts of the reference's Encode and Decode. -/
import Derived.Test.YtjaopjhfjijdaaaDoorRk
namespace Go.Proofs.YtjaopjhfjijdaaaDoor
open Go.RowKit

set_option maxRecDepth 100000 in
set_option maxHeartbeats 2000000 in
theorem refEncode_any (e : En) (y : Int) (w : World) (hI : I64 e.1) :
    Calls Tryd.prog 26 #[enV e, .int .i64 y] w fun x w' => x = .returned (.tuple #[.int .i64 (encA e y).1, .int .i64 (encA e y).2]) ∧ Below w.heap.size w w' := by
  obtain ⟨a1, ea1⟩ : ∃ a, (encA e y).1 = a := ⟨_, rfl⟩
  obtain ⟨a2, ea2⟩ : ∃ a, (encA e y).2 = a := ⟨_, rfl⟩
  rw [ea1, ea2]
  have HA : Hid (encA e y = (a1, a2)) := Lib.hid (by rw [← ea1, ← ea2])
  clear ea1 ea2
  have HF := Lib.hid (fun W => refValidEntry_any e W hI)
  clear hI
  obtain ⟨c, el, wd, sc, ls⟩ := e
  simp only [enV] at HF ⊢
  have b1 : Below w.heap.size w (w.alloc (.cells #[.int .i64 c, .int .i64 el, .int .i64 wd, .int .i64 sc, .int .i64 ls] 47)) := (Below.refl _ _).alloc (Nat.le_refl _) _
  have r1 := Row.new w #[.int .i64 c, .int .i64 el, .int .i64 wd, .int .i64 sc, .int .i64 ls] 47
  go_enter Tryd.func26, Tryd.ntmps26
  go_upto_region 1 with fail
  generalize w.alloc (.cells #[.int .i64 c, .int .i64 el, .int .i64 wd, .int .i64 sc, .int .i64 ls] 47) = W1 at *
  generalize w.heap.size = gb at r1 ⊢
  obtain ⟨p0, p1, p2, p3, p4⟩ := row5 r1
  have R1 := Lib.hid r1
  have B1 := Lib.hid b1
  clear r1 b1
  have HD := HF.out W1
  clear HF
  by_cases hok : okE (c, el, wd, sc, ls)
  case neg =>
    rw [decide_eq_false hok] at HD
    have HD := Lib.hid HD
    have HN : Hid (a1 = 0 ∧ a2 = 1) := Lib.hid (by have := HA.out; rw [encA_no (fun q => hok q.1)] at this; injection this with i1 i2; exact ⟨i1.symm, i2.symm⟩)
    clear hok
    go_wp2_with fail
    refine HD.out.mono ?_
    rintro x w2 ⟨rfl, g2⟩
    have B2 := Lib.hid (B1.out.trans (g2.mono B1.out.size))
    clear g2 p0 p1 p2 p3 p4
    go_wp2_with fail
    go_ret2
    exact ⟨by rw [HN.out.1, HN.out.2]; rfl, B2.out⟩
  rw [decide_eq_true hok] at HD
  have HD := Lib.hid HD
  obtain ⟨-, -, k1, k2, k3, k4, k5, k6⟩ := id hok
  simp only at k1 k2 k3 k4 k5 k6
  have HK := Lib.hid hok
  clear hok
  go_wp2_with fail
  refine HD.out.mono ?_
  rintro x w2 ⟨rfl, g2⟩
  have B2 := Lib.hid (B1.out.trans (g2.mono B1.out.size))
  have R2 := Lib.hid (R1.out.under g2)
  clear g2 R1 B1 HD p0 p1 p2 p3 p4
  obtain ⟨p0, p1, p2, p3, p4⟩ := row5 R2.out
  obtain ⟨k, rfl⟩ : ∃ k : Nat, wd = (k : Int) := ⟨wd.toNat, by omega⟩
  have PB := Lib.hid (pw_bd (k := k) (by omega) (by omega))
  obtain ⟨q1, q2⟩ := PB.out
  have wr1 : Hid (wrap64 (wrap64 (2 ^ k) - 2) = 2 ^ k - 2) := Lib.hid (by rw [IntWalk.wrap64_in (2 ^ k) ⟨by omega, by omega⟩, IntWalk.wrap64_in (2 ^ k - 2) ⟨by omega, by omega⟩])
  obtain ⟨P, hP⟩ : ∃ P : Int, 2 ^ k = P := ⟨_, rfl⟩
  have HP := Lib.hid hP
  rw [hP] at q1 q2
  clear PB
  obtain ⟨m1, m2⟩ := mul_bd (a := sc) (b := P - 1) k3 k4 (by omega) (by omega)
  have NO : Hid ((y < ls ∨ ls + sc * (P - 1) ≤ y) → a1 = 0 ∧ a2 = 1) := Lib.hid (fun q => by have := HA.out; rw [encA_no (fun q' => by have q1 := q'.2.1; have q2 := q'.2.2; simp only [Int.toNat_natCast] at q1 q2; rw [HP.out] at q2; omega)] at this; injection this with i1 i2; exact ⟨i1.symm, i2.symm⟩)
  have YES : Hid (ls ≤ y → y < ls + sc * (P - 1) → a1 = (y - ls) / sc ∧ a2 = 0) := Lib.hid (fun q1 q2 => by have := HA.out; rw [encA_yes HK.out q1 (by simp only [Int.toNat_natCast]; rw [HP.out]; exact q2)] at this; injection this with i1 i2; exact ⟨i1.symm, i2.symm⟩)
  clear hP
  by_cases c1 : y < ls
  case pos =>
    have HN := Lib.hid (NO.out (.inl c1))
    go_wp2_with fail
    go_ret2
    exact ⟨by rw [HN.out.1, HN.out.2]; rfl, B2.out⟩
  by_cases c2 : 1099511627776 < y
  case pos =>
    have HN := Lib.hid (NO.out (.inr (by omega)))
    go_wp2_with fail
    go_ret2
    exact ⟨by rw [HN.out.1, HN.out.2]; rfl, B2.out⟩
  have z0 : (sc == 0) = false := by
    have : sc ≠ 0 := by omega
    simpa using this
  have dv : Hid ((y - ls) / sc ≤ P - 2 ↔ y < ls + sc * (P - 1)) := Lib.hid (by
    have e := @Int.ediv_lt_iff_lt_mul (y - ls) (P - 1) sc (by omega)
    rw [Int.mul_comm sc]
    constructor
    · intro q
      have := e.1 (by omega)
      omega
    · intro q
      have := e.2 (by omega)
      omega)
  have q0 : Hid (0 ≤ (y - ls) / sc) := Lib.hid (Int.ediv_nonneg (by omega) (by omega))
  go_upto_region 4 with fail
  obtain ⟨N, hN⟩ : ∃ N : Int, (y - ls) / sc = N := ⟨_, rfl⟩
  rw [hN] at dv q0 YES
  rw [hN]
  clear hN
  by_cases c3 : N ≤ P - 2
  · have HN := Lib.hid (YES.out (by omega) (dv.out.1 c3))
    have c4 : ¬ wrap64 (wrap64 (2 ^ k) - 2) < N := by rw [wr1.out, HP.out]; omega
    clear q1 q2 m1 m2 c3
    go_wp2_with fail
    go_ret2
    exact ⟨by rw [HN.out.1, HN.out.2]; rfl, B2.out⟩
  · have HN := Lib.hid (NO.out (.inr (by have := dv.out; omega)))
    have c4 : wrap64 (wrap64 (2 ^ k) - 2) < N := by rw [wr1.out, HP.out]; omega
    clear q1 q2 m1 m2 c3
    go_wp2_with fail
    go_ret2
    exact ⟨by rw [HN.out.1, HN.out.2]; rfl, B2.out⟩
set_option maxRecDepth 100000 in
set_option maxHeartbeats 2000000 in
theorem refDecode_any (e : En) (y : Int) (w : World) (hI : I64 e.1) :
    Calls Tryd.prog 28 #[enV e, .int .i64 y] w fun x w' => x = .returned (.tuple #[.int .i64 (decA e y).1, .bool (decA e y).2]) ∧ Below w.heap.size w w' := by
  obtain ⟨a1, ea1⟩ : ∃ a, (decA e y).1 = a := ⟨_, rfl⟩
  obtain ⟨a2, ea2⟩ : ∃ a, (decA e y).2 = a := ⟨_, rfl⟩
  rw [ea1, ea2]
  have HA : Hid (decA e y = (a1, a2)) := Lib.hid (by rw [← ea1, ← ea2])
  clear ea1 ea2
  have HF := Lib.hid (fun W => refValidEntry_any e W hI)
  clear hI
  obtain ⟨c, el, wd, sc, ls⟩ := e
  simp only [enV] at HF ⊢
  have b1 : Below w.heap.size w (w.alloc (.cells #[.int .i64 c, .int .i64 el, .int .i64 wd, .int .i64 sc, .int .i64 ls] 47)) := (Below.refl _ _).alloc (Nat.le_refl _) _
  have r1 := Row.new w #[.int .i64 c, .int .i64 el, .int .i64 wd, .int .i64 sc, .int .i64 ls] 47
  go_enter Tryd.func28, Tryd.ntmps28
  go_upto_region 1 with fail
  generalize w.alloc (.cells #[.int .i64 c, .int .i64 el, .int .i64 wd, .int .i64 sc, .int .i64 ls] 47) = W1 at *
  generalize w.heap.size = gb at r1 ⊢
  obtain ⟨p0, p1, p2, p3, p4⟩ := row5 r1
  have R1 := Lib.hid r1
  have B1 := Lib.hid b1
  clear r1 b1
  have HD := HF.out W1
  clear HF
  by_cases hok : okE (c, el, wd, sc, ls)
  case neg =>
    rw [decide_eq_false hok] at HD
    have HD := Lib.hid HD
    have HN : Hid (a1 = 0 ∧ a2 = false) := Lib.hid (by have := HA.out; rw [decA_no (fun q => hok q.1)] at this; injection this with i1 i2; exact ⟨i1.symm, i2.symm⟩)
    clear hok
    go_wp2_with fail
    refine HD.out.mono ?_
    rintro x w2 ⟨rfl, g2⟩
    have B2 := Lib.hid (B1.out.trans (g2.mono B1.out.size))
    clear g2 p0 p1 p2 p3 p4
    go_wp2_with fail
    go_ret2
    exact ⟨by rw [HN.out.1, HN.out.2]; rfl, B2.out⟩
  rw [decide_eq_true hok] at HD
  have HD := Lib.hid HD
  obtain ⟨-, -, k1, k2, k3, k4, k5, k6⟩ := id hok
  simp only at k1 k2 k3 k4 k5 k6
  have HK := Lib.hid hok
  clear hok
  go_wp2_with fail
  refine HD.out.mono ?_
  rintro x w2 ⟨rfl, g2⟩
  have B2 := Lib.hid (B1.out.trans (g2.mono B1.out.size))
  have R2 := Lib.hid (R1.out.under g2)
  clear g2 R1 B1 HD p0 p1 p2 p3 p4
  obtain ⟨p0, p1, p2, p3, p4⟩ := row5 R2.out
  obtain ⟨k, rfl⟩ : ∃ k : Nat, wd = (k : Int) := ⟨wd.toNat, by omega⟩
  have PB := Lib.hid (pw_bd (k := k) (by omega) (by omega))
  obtain ⟨q1, q2⟩ := PB.out
  have wr1 : Hid (wrap64 (wrap64 (2 ^ k) - 2) = 2 ^ k - 2) := Lib.hid (by rw [IntWalk.wrap64_in (2 ^ k) ⟨by omega, by omega⟩, IntWalk.wrap64_in (2 ^ k - 2) ⟨by omega, by omega⟩])
  have NO : Hid ((y < 0 ∨ 2 ^ k - 2 < y) → a1 = 0 ∧ a2 = false) := Lib.hid (fun q => by have := HA.out; rw [decA_no (fun q' => by have q1 := q'.2.1; have q2 := q'.2.2; simp only [Int.toNat_natCast] at q2; omega)] at this; injection this with i1 i2; exact ⟨i1.symm, i2.symm⟩)
  have YES : Hid (0 ≤ y → y ≤ 2 ^ k - 2 → a1 = ls + sc * y ∧ a2 = true) := Lib.hid (fun q1 q2 => by have := HA.out; rw [decA_yes HK.out q1 (by simp only [Int.toNat_natCast]; exact q2)] at this; injection this with i1 i2; exact ⟨i1.symm, i2.symm⟩)
  by_cases c1 : y < 0
  case pos =>
    have HN := Lib.hid (NO.out (.inl c1))
    clear q1 q2
    go_wp2_with fail
    go_ret2
    exact ⟨by rw [HN.out.1, HN.out.2]; rfl, B2.out⟩
  by_cases c3 : y ≤ 2 ^ k - 2
  · have HN := Lib.hid (YES.out (by omega) c3)
    have c4 : ¬ wrap64 (wrap64 (2 ^ k) - 2) < y := by rw [wr1.out]; omega
    obtain ⟨m1, m2⟩ := mul_bd (a := sc) (b := y) k3 k4 (by omega) (by omega)
    clear q1 q2 c3
    go_wp2_with fail
    go_ret2
    exact ⟨by rw [HN.out.1, HN.out.2]; rfl, B2.out⟩
  · have HN := Lib.hid (NO.out (.inr (by omega)))
    have c4 : wrap64 (wrap64 (2 ^ k) - 2) < y := by rw [wr1.out]; omega
    clear q1 q2 c3
    go_wp2_with fail
    go_ret2
    exact ⟨by rw [HN.out.1, HN.out.2]; rfl, B2.out⟩
end Go.Proofs.YtjaopjhfjijdaaaDoor
