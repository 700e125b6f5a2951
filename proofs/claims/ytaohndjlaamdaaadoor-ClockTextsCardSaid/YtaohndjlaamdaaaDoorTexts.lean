/- Contracts of the functions over texts: two digits, numbers out of digits, Format, Parse of the program. -/
import Derived.Test.YtaohndjlaamdaaaDoorDates
import Derived.Test.YtaohndjlaamdaaaDoorShelf
import Derived.Deep.RegionHeld3
import Derived.Lib.SmallJoins
import Derived.Lib.AppendIntMem
namespace Go.Proofs.YtaohndjlaamdaaaDoor
open Go.RowKit

/-- A text out of its bytes. -/
def S (l : List UInt8) : ByteArray := ⟨l.toArray⟩
theorem S_add (a b : List UInt8) : S a ++ S b = S (a ++ b) := by unfold S; rw [ByteArray.mk_append_mk]
theorem S_size (a : List UInt8) : (S a).size = a.length := by simp [S, ByteArray.size]
theorem S_mk (l : List UInt8) : (⟨l.toArray⟩ : ByteArray) = S l := rfl
theorem S_list (l : List UInt8) : (S l).data.toList = l := by simp [S]
theorem S_of (s : ByteArray) : S s.data.toList = s := by simp [S]

/-- A digit's byte. -/
def b10 (x : Int) : UInt8 := UInt8.ofNat (48 + x.toNat)
def dig2 (n : Int) : List UInt8 := [b10 (n / 10), b10 (n % 10)]
def dig4 (n : Int) : List UInt8 := [b10 (n / 1000), b10 (n / 100 % 10), b10 (n / 10 % 10), b10 (n % 10)]
theorem ret_str2 {a b : ByteArray} {c : Int} (h : a = b) : Ending.returned (.tuple #[.string a, .int .i64 c]) = .returned (.tuple #[.string b, .int .i64 c]) := by rw [h]
theorem ret_str {a b : ByteArray} (h : a = b) : Ending.returned (.string a) = .returned (.string b) := by rw [h]

set_option maxHeartbeats 400000 in
theorem twoDigits_any (n : Int) (w : World) (h1 : 0 ≤ n) (h2 : n ≤ 99) :
    Calls Tryd.prog 38 #[.int .i64 n] w fun e w' => e = .returned (.string (S (dig2 n))) ∧ w = w' := by
  obtain ⟨k, rfl⟩ := Int.eq_ofNat_of_zero_le h1
  by_cases hk : k < 10
  · have E := Lib.hid (show dig2 (k : Int) = [48, UInt8.ofNat (48 + k)] by
      unfold dig2 b10
      rw [show ((k : Int) / 10).toNat = 0 by omega, show ((k : Int) % 10).toNat = k by omega]; rfl)
    have c := Tryd.strconv_Itoa_small k (by omega)
    rw [Lib.decDigits_one hk] at c
    have C := Lib.hid c; clear c
    go_enter Tryd.func38, Tryd.ntmps38
    go_wp2_with (first | (go_at_call 37; refine (C.out _).mono ?_; rintro e w1 ⟨rfl, rfl⟩) | (go_at_call 45; refine (Tryd.strings_Repeat_one _ _).mono ?_; rintro e w1 ⟨rfl, rfl⟩))
    go_ret
    exact ⟨ret_str (by rw [E.out]; unfold S; rw [show (⟨#[48]⟩ : ByteArray) = ⟨[48].toArray⟩ from rfl]; simp [ByteArray.ext_iff]), rfl⟩
  · have E := Lib.hid (show dig2 (k : Int) = [UInt8.ofNat (48 + k / 10), UInt8.ofNat (48 + k % 10)] by
      unfold dig2 b10
      rw [show ((k : Int) / 10).toNat = k / 10 by omega, show ((k : Int) % 10).toNat = k % 10 by omega])
    have c := Tryd.strconv_Itoa_small k (by omega)
    rw [Lib.decDigits_two hk (by omega)] at c
    have C := Lib.hid c; clear c
    go_enter Tryd.func38, Tryd.ntmps38
    go_wp2_with (first | (go_at_call 37; refine (C.out _).mono ?_; rintro e w1 ⟨rfl, rfl⟩) | (go_at_call 45; refine (Tryd.strings_Repeat_zero _ _).mono ?_; rintro e w1 ⟨rfl, rfl⟩))
    go_ret
    exact ⟨ret_str (by rw [E.out]; unfold S; simp [ByteArray.ext_iff]), rfl⟩

/-- The value of digits; some value if other bytes are among them. -/
def numv (l : List UInt8) : Int := l.foldl (fun n c => 10 * n + (c.toNat : Int) - 48) 0
theorem numv_snoc (l : List UInt8) (c : UInt8) : numv (l ++ [c]) = 10 * numv l + (c.toNat : Int) - 48 := by unfold numv; rw [List.foldl_append]; rfl
theorem numv_bd : ∀ (k : Nat) (l : List UInt8), l.length = k → k ≤ 4 → -60000 ≤ numv l ∧ numv l ≤ 300000 := by
  intro k l hl hk
  match l, hl with
  | [], _ => exact ⟨by decide, by decide⟩
  | [a], _ => have := a.toNat_lt; simp only [numv, List.foldl]; omega
  | [a, b], _ => have := a.toNat_lt; have := b.toNat_lt; simp only [numv, List.foldl]; omega
  | [a, b, c], _ => have := a.toNat_lt; have := b.toNat_lt; have := c.toNat_lt; simp only [numv, List.foldl]; omega
  | [a, b, c, d], _ => have := a.toNat_lt; have := b.toNat_lt; have := c.toNat_lt; have := d.toNat_lt; simp only [numv, List.foldl]; omega
  | _ :: _ :: _ :: _ :: _ :: l, h => simp only [List.length_cons] at h; omega
theorem take_snoc (s : ByteArray) (k : Nat) (h : k < s.size) : s.data.toList.take (k + 1) = s.data.toList.take k ++ [s[k]] := by
  rw [List.take_succ_eq_append_getElem (by simpa using h)]; rfl
set_option maxHeartbeats 400000 in
theorem number_any (s : ByteArray) (w : World) (hs : s.size ≤ 4) :
    Calls Tryd.prog 39 #[.string s] w fun e w' => e = .returned (.int .i64 (numv s.data.toList)) ∧ w = w' := by
  go_enter Tryd.func39, Tryd.ntmps39
  go_wp2
  go_loop [3, 7] (fun n i => ∃ k : Nat, k ≤ s.size ∧ i = .int .i64 k ∧ n = .int .i64 (numv (s.data.toList.take k))) (fun _ i => s.size - (intOf i).toNat)
  case atStart => exact ⟨0, Nat.zero_le _, rfl, rfl⟩
  case round =>
    obtain ⟨k, hk, rfl, rfl⟩ := hrel
    have hl : (s.data.toList.take k).length = k := by rw [List.length_take]; simp only [Array.length_toList]; have : s.data.size = s.size := rfl; omega
    have hb := numv_bd k _ hl (by omega)
    by_cases hlt : k < s.size
    · have hts := take_snoc s k hlt
      have H := Lib.hid (show numv (s.data.toList.take (k + 1)) = 10 * numv (s.data.toList.take k) + (s[k].toNat : Int) - 48 by rw [hts]; exact numv_snoc _ _)
      have hc := s[k].toNat_lt
      clear hts hl
      go_wp2
      go_round
      case rel => exact ⟨k + 1, by omega, by go_num, by rw [H.out]⟩
      case measure => simp [intOf]; omega
    · go_wp2
      go_ret
      exact ⟨ret_i64 (by rw [List.take_of_length_le (by simp; omega)]), rfl⟩

/-- What the program's tables hold. -/
def Env (w : World) : Prop := Tab w ∧ Lib.TabIs Tryd.prog w "internal/strconv.uint64pow10" .u64 Lib.pow10Tab
theorem pow_at : Tryd.prog.globalNamed "internal/strconv.uint64pow10" = some 1 := by kernel_rfl
theorem Env.under {w w' : World} (h : Env w) (hb : Below w.heap.size w w') : Env w' := ⟨h.1.under hb, Joins.tab_stays pow_at h.2 hb (Nat.le_refl _)⟩
theorem Env.alloc {w : World} (h : Env w) (o : Obj) : Env (w.alloc o) := h.under ((Below.refl _ _).alloc (Nat.le_refl _) o)
theorem Env.drewN {w : World} (h : Env w) (n : Nat) : Env (w.drewN n) := h

theorem Tab.drew {w : World} (h : Tab w) : Tab w.drew := h
theorem Env.drew {w : World} (h : Env w) : Env w.drew := h
theorem undrew {a w : World} (h : Below a.drew.heap.size a.drew w) : Below a.heap.size a w := ⟨h.os, h.tape, h.output, h.size, h.block⟩

theorem itoa_four (n : Nat) (h1 : 1000 ≤ n) (h2 : n ≤ 9999) : Lib.itoa (n : Int) = dig4 (n : Int) := by
  rw [Lib.itoa_nonneg, Lib.decDigits, dif_neg (by omega), Lib.decDigits, dif_neg (by omega), Lib.decDigits_two (by omega) (by omega)]
  unfold dig4 b10
  rw [show ((n : Int) / 1000).toNat = n / 10 / 10 / 10 by omega, show ((n : Int) / 100 % 10).toNat = n / 10 / 10 % 10 by omega, show ((n : Int) / 10 % 10).toNat = n / 10 % 10 by omega, show ((n : Int) % 10).toNat = n % 10 by omega]
  rfl
theorem itoa_any (n : Int) (w : World) (hE : Env w) (h1 : 1000 ≤ n) (h2 : n ≤ 9999) :
    Calls Tryd.prog 37 #[.int .i64 n] w fun e w' => e = .returned (.string (S (dig4 n))) ∧ Below w.heap.size w w' := by
  obtain ⟨k, rfl⟩ := Int.eq_ofNat_of_zero_le (show 0 ≤ n by omega)
  refine (Tryd.strconv_Itoa (k : Int) (by omega) (by omega) w hE.2).mono fun e w' ⟨he, q, os, hw⟩ => ⟨?_, ?_⟩
  · rw [he, itoa_four k (by omega) (by omega)]; rfl
  · rw [hw]; exact Lib.below_grow _ _ (Nat.le_refl _) _ _
/-- The text of a date. -/
def txt (y m d h i : Int) : List UInt8 := dig4 y ++ [45] ++ dig2 m ++ [45] ++ dig2 d ++ [32] ++ dig2 h ++ [58] ++ dig2 i
theorem dig2_length (n : Int) : (dig2 n).length = 2 := rfl
theorem dig4_length (n : Int) : (dig4 n).length = 4 := rfl
theorem txt_length (y m d h i : Int) : (txt y m d h i).length = 16 := rfl

set_option maxHeartbeats 400000 in
theorem format_no (n : Int) (w : World) (hr : Cal.rng n = false) :
    Calls Tryd.prog 22 #[.int .i64 n] w fun e w' => e = .returned (.tuple #[.string ⟨#[]⟩, .int .i64 1]) ∧ Below w.heap.size w w' := by
  go_enter Tryd.func22, Tryd.ntmps22
  go_wp2_with (go_at_call 19; refine (date_no _ _ hr).mono ?_; rintro e w1 ⟨rfl, hb⟩)
  go_ret2
  exact ⟨rfl, hb.alloc hb.size _⟩
theorem S_one (x : UInt8) : (⟨#[x]⟩ : ByteArray) = S [x] := rfl
attribute [local go_sem] S_add S_size S_one dig2_length dig4_length
set_option maxHeartbeats 400000 in
theorem format_yes (n y m d h i : Int) (w : World) (hE : Env w) (hn : Cal.num y m d h i = n) (hv : Cal.vld y m d h i = true) :
    Calls Tryd.prog 22 #[.int .i64 n] w fun e w' => e = .returned (.tuple #[.string (S (txt y m d h i)), .int .i64 0]) ∧ Below w.heap.size w w' := by
  obtain ⟨⟨a1, a2, a3, a4⟩, a5, a6, a7, a8, a9, a10⟩ := Cal.vld_iff.1 hv
  have c2 := Cal.dim_bd y m
  have N := Lib.hid hn; clear hn
  go_enter Tryd.func22, Tryd.ntmps22
  go_wp2_with (go_at_call 19; refine (date_yes _ _ _ _ _ _ _ hE.1 N.out hv).mono ?_; rintro e w1 ⟨rfl, hb⟩)
  have hE1 := (hE.under hb).alloc (.cells #[.int .i64 y, .int .i64 m, .int .i64 d, .int .i64 h, .int .i64 i] 23)
  have hb1 := hb.alloc hb.size (.cells #[.int .i64 y, .int .i64 m, .int .i64 d, .int .i64 h, .int .i64 i] 23)
  go_region_held3 (fun w' => w'.cell? ⟨w1.heap.size, 0, none⟩ = some (.int .i64 y) ∧ w'.cell? ⟨w1.heap.size, 1, none⟩ = some (.int .i64 m) ∧ w'.cell? ⟨w1.heap.size, 2, none⟩ = some (.int .i64 d) ∧ w'.cell? ⟨w1.heap.size, 3, none⟩ = some (.int .i64 h) ∧ w'.cell? ⟨w1.heap.size, 4, none⟩ = some (.int .i64 i))
    (first | go_keep | exact (box5 (undrew hb2)).1)
    (first | (go_at_call 37; refine (itoa_any _ _ hE1.drew (by omega) (by omega)).mono ?_; rintro e w2 ⟨rfl, hb2⟩) | (go_at_call 38; refine (twoDigits_any _ _ (by omega) (by omega)).mono ?_; rintro e w3 ⟨rfl, rfl⟩))
  go_wp2
  go_ret2
  refine ⟨?_, hb1.trans ((undrew hb2).mono (Nat.le_trans hb.size (by simp)))⟩
  exact ret_str2 (by simp [txt])
end Go.Proofs.YtaohndjlaamdaaaDoor
