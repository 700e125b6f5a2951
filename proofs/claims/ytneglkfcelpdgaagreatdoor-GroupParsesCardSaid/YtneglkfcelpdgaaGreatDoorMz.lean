/- Contracts of the functions over texts: two digits, numbers out of digits, Format, Parse of the program.; The contract of Parse of the program. -/
import Derived.Test.YtneglkfcelpdgaaGreatDoorMv
import Derived.Test.YtneglkfcelpdgaaGreatDoorMe
import Derived.Deep.RegionHeld3
import Derived.Lib.SmallJoins
import Derived.Lib.AppendIntMem
import Derived.Outline
namespace Go.Proofs.YtneglkfcelpdgaaGreatDoor.Ck
open Go.RowKit

theorem S_mk (l : List UInt8) : (⟨l.toArray⟩ : ByteArray) = S l := rfl
/-- A digit's byte. -/
def b10 (x : Int) : UInt8 := UInt8.ofNat (48 + x.toNat)
def dig2 (n : Int) : List UInt8 := [b10 (n / 10), b10 (n % 10)]
def dig4 (n : Int) : List UInt8 := [b10 (n / 1000), b10 (n / 100 % 10), b10 (n / 10 % 10), b10 (n % 10)]
/-- The value of digits; some value if other bytes are among them. -/
def numv (l : List UInt8) : Int := l.foldl (fun n c => 10 * n + (c.toNat : Int) - 48) 0
theorem numv_snoc (l : List UInt8) (c : UInt8) : numv (l ++ [c]) = 10 * numv l + (c.toNat : Int) - 48 := by unfold numv; rw [List.foldl_append]; rfl
theorem numv_bd : ∀ (k : Nat) (l : List UInt8), l.length = k → k ≤ 4 → -60000 ≤ numv l ∧ numv l ≤ 300000 := by
  intro k l hl hk
  match l, hl with
  | [], _ => exact ⟨by decide, by decide⟩
  | [a], _ => have := a.toNat_lt; simp only [numv, List.foldl]; omega
  | [a, b], _ => have := a.toNat_lt; have := b.toNat_lt; simp only [numv, List.foldl]; omega
  | [a, b, c], _ => have := a.toNat_lt; have := b.toNat_lt; have := c.toNat_lt; simp only [numv, List.foldl]; omega
  | [a, b, c, d], _ => have := a.toNat_lt; have := b.toNat_lt; have := c.toNat_lt; have := d.toNat_lt; simp only [numv, List.foldl]; omega
  | _ :: _ :: _ :: _ :: _ :: l, h => simp only [List.length_cons] at h; omega
theorem take_snoc (s : ByteArray) (k : Nat) (h : k < s.size) : s.data.toList.take (k + 1) = s.data.toList.take k ++ [s[k]] := by
  rw [List.take_succ_eq_append_getElem (by simpa using h)]; rfl
/-- What the program's tables hold. -/
def Env (w : World) : Prop := Tab w ∧ Lib.TabIs Tryz.prog w "internal/strconv.uint64pow10" .u64 Lib.pow10Tab
theorem pow_at : Tryz.prog.globalNamed "internal/strconv.uint64pow10" = some 6 := by kernel_rfl
theorem Env.under {w w' : World} (h : Env w) (hb : Below w.heap.size w w') : Env w' := ⟨h.1.under hb, Joins.tab_stays pow_at h.2 hb (Nat.le_refl _)⟩
theorem Env.alloc {w : World} (h : Env w) (o : Obj) : Env (w.alloc o) := h.under ((Below.refl _ _).alloc (Nat.le_refl _) o)
theorem Env.drewN {w : World} (h : Env w) (n : Nat) : Env (w.drewN n) := h

theorem Tab.drew {w : World} (h : Tab w) : Tab w.drew := h
theorem Env.drew {w : World} (h : Env w) : Env w.drew := h
theorem itoa_four (n : Nat) (h1 : 1000 ≤ n) (h2 : n ≤ 9999) : Lib.itoa (n : Int) = dig4 (n : Int) := by
  rw [Lib.itoa_nonneg, Lib.decDigits, dif_neg (by omega), Lib.decDigits, dif_neg (by omega), Lib.decDigits_two (by omega) (by omega)]
  unfold dig4 b10
  rw [show ((n : Int) / 1000).toNat = n / 10 / 10 / 10 by omega, show ((n : Int) / 100 % 10).toNat = n / 10 / 10 % 10 by omega, show ((n : Int) / 10 % 10).toNat = n / 10 % 10 by omega, show ((n : Int) % 10).toNat = n % 10 by omega]
  rfl
theorem itoa_any (n : Int) (w : World) (hE : Env w) (h1 : 1000 ≤ n) (h2 : n ≤ 9999) :
    Calls Tryz.prog 110 #[.int .i64 n] w fun e w' => e = .returned (.string (S (dig4 n))) ∧ Below w.heap.size w w' := by
  obtain ⟨k, rfl⟩ := Int.eq_ofNat_of_zero_le (show 0 ≤ n by omega)
  refine (Tryz.strconv_Itoa (k : Int) (by omega) (by omega) w hE.2).mono fun e w' ⟨he, q, os, hw⟩ => ⟨?_, ?_⟩
  · rw [he, itoa_four k (by omega) (by omega)]; rfl
  · rw [hw]; exact Lib.below_grow _ _ (Nat.le_refl _) _ _
/-- The text of a date. -/
def txt (y m d h i : Int) : List UInt8 := dig4 y ++ [45] ++ dig2 m ++ [45] ++ dig2 d ++ [32] ++ dig2 h ++ [58] ++ dig2 i
theorem dig2_length (n : Int) : (dig2 n).length = 2 := rfl
theorem dig4_length (n : Int) : (dig4 n).length = 4 := rfl
theorem txt_length (y m d h i : Int) : (txt y m d h i).length = 16 := rfl

theorem S_one (x : UInt8) : (⟨#[x]⟩ : ByteArray) = S [x] := rfl
attribute [local go_sem] S_add S_size S_one dig2_length dig4_length
end Go.Proofs.YtneglkfcelpdgaaGreatDoor.Ck
namespace Go.Proofs.YtneglkfcelpdgaaGreatDoor.Ck
open Go.RowKit

/-- The number in the bytes from a to b. -/
def fld (s : ByteArray) (a b : Nat) : Int := numv (s.extract a b).data.toList
theorem fld_mk (s : ByteArray) (a b : Nat) : numv (s.extract a b).data.toList = fld s a b := rfl
theorem fld_bd (s : ByteArray) (a b : Nat) (h : b - a ≤ 4) : -60000 ≤ fld s a b ∧ fld s a b ≤ 300000 :=
  numv_bd _ _ rfl (by rw [Array.length_toList]; show (s.extract a b).size ≤ 4; rw [ByteArray.size_extract]; omega)
theorem ret_par {a c b d : Int} (h : a = b) (k : c = d) : Ending.returned (.tuple #[.int .i64 a, .int .i64 c]) = .returned (.tuple #[.int .i64 b, .int .i64 d]) := by rw [h, k]
end Go.Proofs.YtneglkfcelpdgaaGreatDoor.Ck
