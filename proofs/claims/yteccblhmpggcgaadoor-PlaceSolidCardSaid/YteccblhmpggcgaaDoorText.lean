/- Contracts of digits and Format of the program. -/
import Derived.Test.YteccblhmpggcgaaDoorNormal
import Derived.Test.YteccblhmpggcgaaDoorShelf
import Derived.Lib.SmallJoins
import Derived.Lib.AppendIntMem
namespace Go.Proofs.YteccblhmpggcgaaDoor
open Go.RowKit

/-- A text out of its bytes. -/
def S (l : List UInt8) : ByteArray := ⟨l.toArray⟩
theorem S_add (a b : List UInt8) : S a ++ S b = S (a ++ b) := by unfold S; rw [ByteArray.mk_append_mk]
theorem S_size (a : List UInt8) : (S a).size = a.length := by simp [S, ByteArray.size]
theorem S_list (l : List UInt8) : (S l).data.toList = l := by simp [S]
theorem S_of (s : ByteArray) : S s.data.toList = s := by simp [S]
/-- A digit's byte. -/
def b10 (x : Int) : UInt8 := UInt8.ofNat (48 + x.toNat)
def dig2 (n : Int) : List UInt8 := [b10 (n / 10), b10 (n % 10)]
def dig3 (n : Int) : List UInt8 := [b10 (n / 100), b10 (n / 10 % 10), b10 (n % 10)]
/-- A number in two or three digits. -/
def dg (k n : Int) : List UInt8 := if k = 3 then dig3 n else dig2 n
theorem dg_three (n : Int) : dg 3 n = dig3 n := rfl
theorem dg_two (n : Int) : dg 2 n = dig2 n := rfl
theorem dig2_length (n : Int) : (dig2 n).length = 2 := rfl
theorem dig3_length (n : Int) : (dig3 n).length = 3 := rfl
theorem ret_str {a b : ByteArray} (h : a = b) : Ending.returned (.string a) = .returned (.string b) := by rw [h]
theorem ret_str2 {a b : ByteArray} {c : Int} (h : a = b) : Ending.returned (.tuple #[.string a, .int .i64 c]) = .returned (.tuple #[.string b, .int .i64 c]) := by rw [h]
/-- The table of powers of ten. -/
def Env (w : World) : Prop := Lib.TabIs Tryd.prog w "internal/strconv.uint64pow10" .u64 Lib.pow10Tab
theorem pow_at : Tryd.prog.globalNamed "internal/strconv.uint64pow10" = some 2 := by kernel_rfl
theorem Env.under {w w' : World} (h : Env w) (hb : Below w.heap.size w w') : Env w' := Joins.tab_stays pow_at h hb (Nat.le_refl _)
theorem Env.alloc {w : World} (h : Env w) (o : Obj) : Env (w.alloc o) := h.under ((Below.refl _ _).alloc (Nat.le_refl _) o)
theorem Env.drew {w : World} (h : Env w) : Env w.drew := h
theorem Env.drewN {w : World} (h : Env w) (n : Nat) : Env (w.drewN n) := h

theorem itoa_three (n : Nat) (h1 : 100 ≤ n) (h2 : n ≤ 999) : Lib.itoa (n : Int) = dig3 (n : Int) := by
  rw [Lib.itoa_nonneg, Lib.decDigits, dif_neg (by omega), Lib.decDigits_two (by omega) (by omega)]
  unfold dig3 b10
  rw [show ((n : Int) / 100).toNat = n / 10 / 10 by omega, show ((n : Int) / 10 % 10).toNat = n / 10 % 10 by omega, show ((n : Int) % 10).toNat = n % 10 by omega]
  rfl
/-- The digits of a number below a thousand, without leading zeros. -/
def sh (n : Int) : List UInt8 := if n < 10 then [b10 n] else if n < 100 then dig2 n else dig3 n
theorem itoa_any (n : Int) (w : World) (hE : Env w) (h1 : 0 ≤ n) (h2 : n ≤ 999) :
    Calls Tryd.prog 45 #[.int .i64 n] w fun e w' => e = .returned (.string (S (sh n))) ∧ Below w.heap.size w w' := by
  obtain ⟨k, rfl⟩ := Int.eq_ofNat_of_zero_le h1
  by_cases c1 : k < 10
  · have c := Tryd.strconv_Itoa_small k (by omega)
    rw [Lib.decDigits_one c1] at c
    refine (c w).mono fun e w' ⟨he, hw⟩ => ⟨?_, hw ▸ Below.refl _ _⟩
    rw [he]; exact ret_str (by unfold sh b10; rw [if_pos (by omega), Int.toNat_natCast]; rfl)
  · by_cases c2 : k < 100
    · have c := Tryd.strconv_Itoa_small k (by omega)
      rw [Lib.decDigits_two c1 c2] at c
      refine (c w).mono fun e w' ⟨he, hw⟩ => ⟨?_, hw ▸ Below.refl _ _⟩
      rw [he]; exact ret_str (by
        unfold sh; rw [if_neg (by omega), if_pos (by omega)]; unfold dig2 b10
        rw [show ((k : Int) / 10).toNat = k / 10 by omega, show ((k : Int) % 10).toNat = k % 10 by omega]; rfl)
    · refine (Tryd.strconv_Itoa (k : Int) (by omega) (by omega) w hE).mono fun e w' ⟨he, q, os, hw⟩ => ⟨?_, ?_⟩
      · rw [he, itoa_three k (by omega) (by omega)]
        exact ret_str (by unfold sh; rw [if_neg (by omega), if_neg (by omega)]; rfl)
      · rw [hw]; exact Lib.below_grow _ _ (Nat.le_refl _) _ _
/-- Zeros in front. -/
def zs (c : Int) : List UInt8 := List.replicate c.toNat 48
theorem repeat_any (c : Int) (w : World) (h1 : 0 ≤ c) (h2 : c ≤ 2) :
    Calls Tryd.prog 46 #[.string ⟨#[48]⟩, .int .i64 c] w fun e w' => e = .returned (.string (S (zs c))) ∧ Below w.heap.size w w' := by
  have h : c = 0 ∨ c = 1 ∨ c = 2 := by omega
  rcases h with rfl | rfl | rfl
  · exact (Tryd.strings_Repeat_zero _ w).mono fun e w' ⟨he, hw⟩ => ⟨he, hw ▸ Below.refl _ _⟩
  · exact (Tryd.strings_Repeat_one _ w).mono fun e w' ⟨he, hw⟩ => ⟨he, hw ▸ Below.refl _ _⟩
  · exact (Tryd.strings_Repeat_main ⟨#[48]⟩ 2 w (by omega) (by omega) (by decide) (by decide)).mono fun e w' ⟨he, hw⟩ => ⟨he, hw⟩
theorem sh_len (n : Int) (h1 : 0 ≤ n) (h2 : n ≤ 999) : 1 ≤ (sh n).length ∧ (sh n).length ≤ 3 ∧ (n ≤ 99 → (sh n).length ≤ 2) := by
  unfold sh; split
  · exact ⟨by simp, by simp, by simp⟩
  · split
    · exact ⟨by simp [dig2], by simp [dig2], by simp [dig2]⟩
    · exact ⟨by simp [dig3], by simp [dig3], fun h => by omega⟩
theorem zs_sh (k n : Int) (h1 : 0 ≤ n) (h2 : (k = 2 ∧ n ≤ 99) ∨ (k = 3 ∧ n ≤ 999)) : zs (k - ((sh n).length : Int)) ++ sh n = dg k n := by
  unfold sh
  by_cases c1 : n < 10
  · rw [if_pos c1]
    rcases h2 with ⟨rfl, h⟩ | ⟨rfl, h⟩
    · rw [dg_two]; unfold dig2; rw [show n / 10 = 0 by omega, show n % 10 = n by omega]; rfl
    · rw [dg_three]; unfold dig3; rw [show n / 100 = 0 by omega, show n / 10 % 10 = 0 by omega, show n % 10 = n by omega]; rfl
  · rw [if_neg c1]
    by_cases c2 : n < 100
    · rw [if_pos c2]
      rcases h2 with ⟨rfl, h⟩ | ⟨rfl, h⟩
      · rw [dg_two]; rfl
      · rw [dg_three]; unfold dig3 dig2; rw [show n / 100 = 0 by omega, show n / 10 % 10 = n / 10 by omega]; rfl
    · rw [if_neg c2]
      rcases h2 with ⟨rfl, h⟩ | ⟨rfl, h⟩
      · omega
      · rw [dg_three]; rfl
attribute [local go_sem] S_add S_size
set_option maxHeartbeats 400000 in
theorem digits_any (n k : Int) (w0 w : World) (hE : Env w0) (hb : Below w0.heap.size w0 w) (h1 : 0 ≤ n) (h2 : (k = 2 ∧ n ≤ 99) ∨ (k = 3 ∧ n ≤ 999)) :
    Calls Tryd.prog 37 #[.int .i64 n, .int .i64 k] w fun e w' => e = .returned (.string (S (dg k n))) ∧ Below w0.heap.size w0 w' := by
  have Z := Lib.hid (zs_sh k n h1 h2)
  obtain ⟨l1, l2, l3⟩ := sh_len n h1 (by omega)
  have m1 : 0 ≤ k - ((sh n).length : Int) ∧ k - ((sh n).length : Int) ≤ 2 := by
    rcases h2 with ⟨rfl, h⟩ | ⟨rfl, h⟩
    · have := l3 h; omega
    · omega
  have k1 : 2 ≤ k ∧ k ≤ 3 := by omega
  have z1 : (zs (k - ((sh n).length : Int))).length ≤ 2 := by unfold zs; rw [List.length_replicate]; omega
  have hE2 := hE.under hb
  have h3 : n ≤ 999 := by omega
  clear h2 l3
  go_enter Tryd.func37, Tryd.ntmps37
  go_wp2_with fail
  refine (itoa_any _ _ hE2 h1 h3).mono ?_
  rintro e w1 ⟨rfl, g1⟩
  have b1 := hb.trans (g1.mono hb.size)
  go_wp2_with fail
  refine (repeat_any _ _ (by omega) (by omega)).mono ?_
  rintro e w2 ⟨rfl, g2⟩
  have b2 := b1.trans (g2.mono b1.size)
  go_wp2_with fail
  go_ret
  exact ⟨ret_str (by rw [Z.out]), b2⟩
/-- The text of a place. -/
def txt (f : Nat) (a b : Int) : List UInt8 := dig2 f ++ dig3 a ++ dig3 b
theorem txt_length (f : Nat) (a b : Int) : (txt f a b).length = 8 := rfl
set_option maxHeartbeats 400000 in
theorem format_no (F a b c : Int) (w : World) (hv : vb F a b c = false) :
    Calls Tryd.prog 17 #[.agg #[.int .i64 F, .int .i64 a, .int .i64 b, .int .i64 c]] w fun e w' => e = .returned (.tuple #[.string ⟨#[]⟩, .int .i64 1]) ∧ Below w.heap.size w w' := by
  go_enter Tryd.func17, Tryd.ntmps17
  go_wp2_with fail
  refine (valid_is _ _ _ _ _ w _ ((Below.refl _ _).alloc (Nat.le_refl _) _) hv).mono ?_
  rintro e w1 ⟨rfl, g1⟩
  go_wp2_with fail
  go_ret2
  exact ⟨rfl, g1⟩
attribute [local go_sem] dg_two dg_three dig2_length dig3_length
set_option maxHeartbeats 1000000 in
theorem format_yes (f : Nat) (a b c : Int) (w : World) (hE : Env w) (hv : Ico.Vld f a b c) :
    Calls Tryd.prog 17 #[.agg #[.int .i64 f, .int .i64 a, .int .i64 b, .int .i64 c]] w fun e w' => e = .returned (.tuple #[.string (S (txt f a b)), .int .i64 0]) ∧ Below w.heap.size w w' := by
  have v1 := vb_of hv
  obtain ⟨u1, u2, u3, u4, u5, -⟩ := hv
  go_enter Tryd.func17, Tryd.ntmps17
  go_wp2_with fail
  have r0 := Row.new w #[.int .i64 f, .int .i64 a, .int .i64 b, .int .i64 c] 23
  refine (valid_is _ _ _ _ _ _ _ (Below.refl _ _) v1).mono ?_
  rintro e w1 ⟨rfl, g1⟩
  go_upto_region 3 with fail
  refine forget (fun Y => Below w.heap.size w Y ∧ Row Y w.heap.size 23 #[.int .i64 f, .int .i64 a, .int .i64 b, .int .i64 c]) ⟨((Below.refl _ _).alloc (Nat.le_refl _) _).trans (g1.mono (by simp)), r0.under g1⟩ ?_
  clear g1 r0
  rintro Y ⟨bY, BY⟩
  obtain ⟨k0, k1, k2, k3⟩ := row4 BY
  have R := Lib.hid BY; clear BY
  have hEY := (hE.under bY).drew
  have hb2 := Below.refl Y.drew.heap.size Y.drew
  go_region_held3 (fun w' => w'.cell? ⟨w.heap.size, 0, none⟩ = some (.int .i64 f) ∧ w'.cell? ⟨w.heap.size, 1, none⟩ = some (.int .i64 a) ∧ w'.cell? ⟨w.heap.size, 2, none⟩ = some (.int .i64 b) ∧ w'.cell? ⟨w.heap.size, 3, none⟩ = some (.int .i64 c))
    (first | go_keep | exact row4 (Row.under (w := Y.drew) R.out hb2))
    (first | (go_at_call 37; refine (digits_any _ _ Y.drew _ hEY hb2 (by omega) (by omega)).mono ?_; clear hb2; rintro e w2 ⟨rfl, hb2⟩))
  go_wp2
  go_ret2
  exact ⟨ret_str2 (by simp [txt]), bY.trans ((undrew hb2).mono bY.size)⟩
end Go.Proofs.YteccblhmpggcgaaDoor
