/- Contracts of digits and Format of the program.; The chapter's examples hold: the contract of the sanity check that every statement of the layer calls.; Contracts of number and Parse of the program. -/
import Derived.Test.YtneglkfcelpdgaaGreatDoorMd
import Derived.Test.YtneglkfcelpdgaaGreatDoorMe
import Derived.Lib.SmallJoins
import Derived.Lib.AppendIntMem
import Derived.Deep.RegionHeld3
namespace Go.Proofs.YtneglkfcelpdgaaGreatDoor.Pl
open Go.RowKit

/-- A digit's byte. -/
def b10 (x : Int) : UInt8 := UInt8.ofNat (48 + x.toNat)
def dig2 (n : Int) : List UInt8 := [b10 (n / 10), b10 (n % 10)]
def dig3 (n : Int) : List UInt8 := [b10 (n / 100), b10 (n / 10 % 10), b10 (n % 10)]
/-- A number in two or three digits. -/
def dg (k n : Int) : List UInt8 := if k = 3 then dig3 n else dig2 n
theorem dg_three (n : Int) : dg 3 n = dig3 n := rfl
theorem dg_two (n : Int) : dg 2 n = dig2 n := rfl
theorem dig2_length (n : Int) : (dig2 n).length = 2 := rfl
theorem dig3_length (n : Int) : (dig3 n).length = 3 := rfl
/-- The table of powers of ten. -/
def Env (w : World) : Prop := Lib.TabIs Tryz.prog w "internal/strconv.uint64pow10" .u64 Lib.pow10Tab
theorem pow_at : Tryz.prog.globalNamed "internal/strconv.uint64pow10" = some 6 := by kernel_rfl
theorem Env.under {w w' : World} (h : Env w) (hb : Below w.heap.size w w') : Env w' := Joins.tab_stays pow_at h hb (Nat.le_refl _)
theorem Env.alloc {w : World} (h : Env w) (o : Obj) : Env (w.alloc o) := h.under ((Below.refl _ _).alloc (Nat.le_refl _) o)
theorem Env.drew {w : World} (h : Env w) : Env w.drew := h
theorem Env.drewN {w : World} (h : Env w) (n : Nat) : Env (w.drewN n) := h

theorem itoa_three (n : Nat) (h1 : 100 ≤ n) (h2 : n ≤ 999) : Lib.itoa (n : Int) = dig3 (n : Int) := by
  rw [Lib.itoa_nonneg, Lib.decDigits, dif_neg (by omega), Lib.decDigits_two (by omega) (by omega)]
  unfold dig3 b10
  rw [show ((n : Int) / 100).toNat = n / 10 / 10 by omega, show ((n : Int) / 10 % 10).toNat = n / 10 % 10 by omega, show ((n : Int) % 10).toNat = n % 10 by omega]
  rfl
/-- The digits of a number below a thousand, without leading zeros. -/
def sh (n : Int) : List UInt8 := if n < 10 then [b10 n] else if n < 100 then dig2 n else dig3 n
theorem itoa_any (n : Int) (w : World) (hE : Env w) (h1 : 0 ≤ n) (h2 : n ≤ 999) :
    Calls Tryz.prog 110 #[.int .i64 n] w fun e w' => e = .returned (.string (S (sh n))) ∧ Below w.heap.size w w' := by
  obtain ⟨k, rfl⟩ := Int.eq_ofNat_of_zero_le h1
  by_cases c1 : k < 10
  · have c := Tryz.strconv_Itoa_small k (by omega)
    rw [Lib.decDigits_one c1] at c
    refine (c w).mono fun e w' ⟨he, hw⟩ => ⟨?_, hw ▸ Below.refl _ _⟩
    rw [he]; exact ret_str (by unfold sh b10; rw [if_pos (by omega), Int.toNat_natCast]; rfl)
  · by_cases c2 : k < 100
    · have c := Tryz.strconv_Itoa_small k (by omega)
      rw [Lib.decDigits_two c1 c2] at c
      refine (c w).mono fun e w' ⟨he, hw⟩ => ⟨?_, hw ▸ Below.refl _ _⟩
      rw [he]; exact ret_str (by
        unfold sh; rw [if_neg (by omega), if_pos (by omega)]; unfold dig2 b10
        rw [show ((k : Int) / 10).toNat = k / 10 by omega, show ((k : Int) % 10).toNat = k % 10 by omega]; rfl)
    · refine (Tryz.strconv_Itoa (k : Int) (by omega) (by omega) w hE).mono fun e w' ⟨he, q, os, hw⟩ => ⟨?_, ?_⟩
      · rw [he, itoa_three k (by omega) (by omega)]
        exact ret_str (by unfold sh; rw [if_neg (by omega), if_neg (by omega)]; rfl)
      · rw [hw]; exact Lib.below_grow _ _ (Nat.le_refl _) _ _
/-- Zeros in front. -/
def zs (c : Int) : List UInt8 := List.replicate c.toNat 48
theorem repeat_any (c : Int) (w : World) (h1 : 0 ≤ c) (h2 : c ≤ 2) :
    Calls Tryz.prog 111 #[.string ⟨#[48]⟩, .int .i64 c] w fun e w' => e = .returned (.string (S (zs c))) ∧ Below w.heap.size w w' := by
  have h : c = 0 ∨ c = 1 ∨ c = 2 := by omega
  rcases h with rfl | rfl | rfl
  · exact (Tryz.strings_Repeat_zero _ w).mono fun e w' ⟨he, hw⟩ => ⟨he, hw ▸ Below.refl _ _⟩
  · exact (Tryz.strings_Repeat_one _ w).mono fun e w' ⟨he, hw⟩ => ⟨he, hw ▸ Below.refl _ _⟩
  · exact (Tryz.strings_Repeat_main ⟨#[48]⟩ 2 w (by omega) (by omega) (by decide) (by decide)).mono fun e w' ⟨he, hw⟩ => ⟨he, hw⟩
theorem sh_len (n : Int) (h1 : 0 ≤ n) (h2 : n ≤ 999) : 1 ≤ (sh n).length ∧ (sh n).length ≤ 3 ∧ (n ≤ 99 → (sh n).length ≤ 2) := by
  unfold sh; split
  · exact ⟨by simp, by simp, by simp⟩
  · split
    · exact ⟨by simp [dig2], by simp [dig2], by simp [dig2]⟩
    · exact ⟨by simp [dig3], by simp [dig3], fun h => by omega⟩
theorem zs_sh (k n : Int) (h1 : 0 ≤ n) (h2 : (k = 2 ∧ n ≤ 99) ∨ (k = 3 ∧ n ≤ 999)) : zs (k - ((sh n).length : Int)) ++ sh n = dg k n := by
  unfold sh
  by_cases c1 : n < 10
  · rw [if_pos c1]
    rcases h2 with ⟨rfl, h⟩ | ⟨rfl, h⟩
    · rw [dg_two]; unfold dig2; rw [show n / 10 = 0 by omega, show n % 10 = n by omega]; rfl
    · rw [dg_three]; unfold dig3; rw [show n / 100 = 0 by omega, show n / 10 % 10 = 0 by omega, show n % 10 = n by omega]; rfl
  · rw [if_neg c1]
    by_cases c2 : n < 100
    · rw [if_pos c2]
      rcases h2 with ⟨rfl, h⟩ | ⟨rfl, h⟩
      · rw [dg_two]; rfl
      · rw [dg_three]; unfold dig3 dig2; rw [show n / 100 = 0 by omega, show n / 10 % 10 = n / 10 by omega]; rfl
    · rw [if_neg c2]
      rcases h2 with ⟨rfl, h⟩ | ⟨rfl, h⟩
      · omega
      · rw [dg_three]; rfl
attribute [local go_sem] S_add S_size
set_option maxHeartbeats 400000 in
theorem digits_any (n k : Int) (w0 w : World) (hE : Env w0) (hb : Below w0.heap.size w0 w) (h1 : 0 ≤ n) (h2 : (k = 2 ∧ n ≤ 99) ∨ (k = 3 ∧ n ≤ 999)) :
    Calls Tryz.prog 72 #[.int .i64 n, .int .i64 k] w fun e w' => e = .returned (.string (S (dg k n))) ∧ Below w0.heap.size w0 w' := by
  have Z := Lib.hid (zs_sh k n h1 h2)
  obtain ⟨l1, l2, l3⟩ := sh_len n h1 (by omega)
  have m1 : 0 ≤ k - ((sh n).length : Int) ∧ k - ((sh n).length : Int) ≤ 2 := by
    rcases h2 with ⟨rfl, h⟩ | ⟨rfl, h⟩
    · have := l3 h; omega
    · omega
  have k1 : 2 ≤ k ∧ k ≤ 3 := by omega
  have z1 : (zs (k - ((sh n).length : Int))).length ≤ 2 := by unfold zs; rw [List.length_replicate]; omega
  have hE2 := hE.under hb
  have h3 : n ≤ 999 := by omega
  clear h2 l3
  go_enter Tryz.func72, Tryz.ntmps72
  go_wp2_with fail
  refine (itoa_any _ _ hE2 h1 h3).mono ?_
  rintro e w1 ⟨rfl, g1⟩
  have b1 := hb.trans (g1.mono hb.size)
  go_wp2_with fail
  refine (repeat_any _ _ (by omega) (by omega)).mono ?_
  rintro e w2 ⟨rfl, g2⟩
  have b2 := b1.trans (g2.mono b1.size)
  go_wp2_with fail
  go_ret
  exact ⟨ret_str (by rw [Z.out]), b2⟩
/-- The text of a place. -/
def txt (f : Nat) (a b : Int) : List UInt8 := dig2 f ++ dig3 a ++ dig3 b
theorem txt_length (f : Nat) (a b : Int) : (txt f a b).length = 8 := rfl
set_option maxHeartbeats 400000 in
theorem format_no (F a b c : Int) (w : World) (hv : vb F a b c = false) :
    Calls Tryz.prog 35 #[.agg #[.int .i64 F, .int .i64 a, .int .i64 b, .int .i64 c]] w fun e w' => e = .returned (.tuple #[.string ⟨#[]⟩, .int .i64 1]) ∧ Below w.heap.size w w' := by
  go_enter Tryz.func35, Tryz.ntmps35
  go_wp2_with fail
  refine (valid_is _ _ _ _ _ w _ ((Below.refl _ _).alloc (Nat.le_refl _) _) hv).mono ?_
  rintro e w1 ⟨rfl, g1⟩
  go_wp2_with fail
  go_ret2
  exact ⟨rfl, g1⟩
attribute [local go_sem] dg_two dg_three dig2_length dig3_length
set_option maxHeartbeats 1000000 in
theorem format_yes (f : Nat) (a b c : Int) (w : World) (hE : Env w) (hv : Ico.Vld f a b c) :
    Calls Tryz.prog 35 #[.agg #[.int .i64 f, .int .i64 a, .int .i64 b, .int .i64 c]] w fun e w' => e = .returned (.tuple #[.string (S (txt f a b)), .int .i64 0]) ∧ Below w.heap.size w w' := by
  have v1 := vb_of hv
  obtain ⟨u1, u2, u3, u4, u5, -⟩ := hv
  go_enter Tryz.func35, Tryz.ntmps35
  go_wp2_with fail
  have r0 := Row.new w #[.int .i64 f, .int .i64 a, .int .i64 b, .int .i64 c] 23
  refine (valid_is _ _ _ _ _ _ _ (Below.refl _ _) v1).mono ?_
  rintro e w1 ⟨rfl, g1⟩
  go_upto_region 3 with fail
  refine forget (fun Y => Below w.heap.size w Y ∧ Row Y w.heap.size 23 #[.int .i64 f, .int .i64 a, .int .i64 b, .int .i64 c]) ⟨((Below.refl _ _).alloc (Nat.le_refl _) _).trans (g1.mono (by simp)), r0.under g1⟩ ?_
  clear g1 r0
  rintro Y ⟨bY, BY⟩
  obtain ⟨k0, k1, k2, k3⟩ := row4 BY
  have R := Lib.hid BY; clear BY
  have hEY := (hE.under bY).drew
  have hb2 := Below.refl Y.drew.heap.size Y.drew
  go_region_held3 (fun w' => w'.cell? ⟨w.heap.size, 0, none⟩ = some (.int .i64 f) ∧ w'.cell? ⟨w.heap.size, 1, none⟩ = some (.int .i64 a) ∧ w'.cell? ⟨w.heap.size, 2, none⟩ = some (.int .i64 b) ∧ w'.cell? ⟨w.heap.size, 3, none⟩ = some (.int .i64 c))
    (first | go_keep | exact row4 (Row.under (w := Y.drew) R.out hb2))
    (first | (go_at_call 72; refine (digits_any _ _ Y.drew _ hEY hb2 (by omega) (by omega)).mono ?_; clear hb2; rintro e w2 ⟨rfl, hb2⟩))
  go_wp2
  go_ret2
  exact ⟨ret_str2 (by simp [txt]), bY.trans ((undrew hb2).mono bY.size)⟩
end Go.Proofs.YtneglkfcelpdgaaGreatDoor.Pl
namespace Go.Proofs.YtneglkfcelpdgaaGreatDoor.Pl
open Go.RowKit

theorem ex1 : Ico.Vld 1 0 840 0 := by unfold Ico.Vld; omega
theorem ex2 : Ico.Vld 5 420 420 0 := by unfold Ico.Vld; omega
def t54 : ByteArray := ⟨#[48, 53, 52, 50, 48, 52, 50, 48]⟩
theorem t54_eq : S (txt 5 420 420) = t54 := by decide +kernel
theorem t54_same : (t54.toList == [48, 53, 52, 50, 48, 52, 50, 48]) = true := by rw [ByteArray.toList_eq]; rfl
theorem normal_ex (w : World) :
    Calls Tryz.prog 86 #[.agg #[.int .i64 1, .int .i64 0, .int .i64 840, .int .i64 0]] w fun e w' => e = .returned (.tuple #[.agg #[.int .i64 0, .int .i64 0, .int .i64 0, .int .i64 840], .int .i64 0]) ∧ Below w.heap.size w w' := by
  have h := normal_yes 1 0 840 0 w ex1
  rw [show Ico.nf 1 0 840 0 = 0 by decide +kernel, show nw 1 0 840 0 0 = 0 by decide +kernel, show nw 1 0 840 0 1 = 0 by decide +kernel, show nw 1 0 840 0 2 = 840 by decide +kernel] at h
  exact h
theorem format_ex (w : World) (hE : Env w) :
    Calls Tryz.prog 35 #[.agg #[.int .i64 5, .int .i64 420, .int .i64 420, .int .i64 0]] w fun e w' => e = .returned (.tuple #[.string t54, .int .i64 0]) ∧ Below w.heap.size w w' := by
  have h := format_yes 5 420 420 0 w hE ex2
  rw [t54_eq] at h
  exact h
theorem fcs_ex : Ico.fcs 5 420 420 0 20 = [5, 14] := by decide +kernel
theorem addresses_ex (w : World) :
    Calls Tryz.prog 121 #[.agg #[.int .i64 5, .int .i64 420, .int .i64 420, .int .i64 0]] w fun e w' => ∃ g cap, e = .returned (.tuple #[.slice (some ⟨g, 0, none⟩) 2 cap, .int .i64 0]) ∧ Below w.heap.size w w' ∧
      w.heap.size ≤ g ∧ g < w'.heap.size ∧ 2 ≤ cap ∧ cap ≤ 9223372036854775807 ∧ w'.cell? ⟨g, 4, none⟩ = some (.int .i64 14) ∧ w'.cell? ⟨g, 5, none⟩ = some (.int .i64 0) ∧ w'.cell? ⟨g, 6, none⟩ = some (.int .i64 420) ∧ w'.cell? ⟨g, 7, none⟩ = some (.int .i64 420) :=
  (addresses_open 5 420 420 0 w ex2).mono fun e w' ⟨g, cap, he, hb, h1, h2, h3, h4, hH⟩ => by
    have hl : (Ico.fcs 5 420 420 0 20).length = 2 := by rw [fcs_ex]; rfl
    have hx := hH 1 (by rw [hl]; omega)
    have e1 : (Ico.fcs 5 420 420 0 20)[1]'(by rw [hl]; omega) = 14 := by simp [fcs_ex]
    rw [e1] at hx
    rw [hl] at he h3
    rw [show Ico.wt 5 420 420 0 (Ico.cor 14 0) = 0 by decide +kernel, show Ico.wt 5 420 420 0 (Ico.cor 14 1) = 420 by decide +kernel, show Ico.wt 5 420 420 0 (Ico.cor 14 2) = 420 by decide +kernel] at hx
    exact ⟨g, cap, he, hb, h1, h2, h3, h4, hx⟩
attribute [local go_sem] eq_place
end Go.Proofs.YtneglkfcelpdgaaGreatDoor.Pl
namespace Go.Proofs.YtneglkfcelpdgaaGreatDoor.Pl
open Go.RowKit

/-- All bytes are digits. -/
def digs (l : List UInt8) : Bool := l.all fun c => decide (48 ≤ c.toNat) && decide (c.toNat ≤ 57)
/-- The value of digits. -/
def numv (l : List UInt8) : Int := l.foldl (fun n c => 10 * n + (c.toNat : Int) - 48) 0
theorem numv_snoc (l : List UInt8) (c : UInt8) : numv (l ++ [c]) = 10 * numv l + (c.toNat : Int) - 48 := by unfold numv; rw [List.foldl_append]; rfl
theorem digs_snoc (l : List UInt8) (c : UInt8) : digs (l ++ [c]) = (digs l && (decide (48 ≤ c.toNat) && decide (c.toNat ≤ 57))) := by simp [digs]
theorem digs_cons (c : UInt8) (l : List UInt8) : digs (c :: l) = true ↔ (48 ≤ c.toNat ∧ c.toNat ≤ 57) ∧ digs l = true := by simp [digs]
theorem numv_bd : ∀ (l : List UInt8), digs l = true → l.length ≤ 3 → 0 ≤ numv l ∧ numv l ≤ 999 ∧ (l.length ≤ 2 → numv l ≤ 99) := by
  intro l hd hk
  match l, hd, hk with
  | [], _, _ => exact ⟨by decide, by decide, fun _ => by decide⟩
  | [a], hd, _ => simp only [digs_cons] at hd; simp only [numv, List.foldl, List.length_singleton]; omega
  | [a, b], hd, _ => simp only [digs_cons] at hd; simp only [numv, List.foldl, List.length_cons, List.length_nil]; omega
  | [a, b, c], hd, _ => simp only [digs_cons] at hd; simp only [numv, List.foldl, List.length_cons, List.length_nil]; omega
  | _ :: _ :: _ :: _ :: l, _, h => simp only [List.length_cons] at h; omega
theorem take_snoc (s : ByteArray) (k : Nat) (h : k < s.size) : s.data.toList.take (k + 1) = s.data.toList.take k ++ [s[k]] := by
  rw [List.take_succ_eq_append_getElem (by simpa using h)]; rfl
theorem digs_take {l : List UInt8} (k : Nat) (h : digs l = true) : digs (l.take k) = true := by
  have e : digs l = (digs (l.take k) && digs (l.drop k)) := by unfold digs; rw [← List.all_append, List.take_append_drop]
  rw [e] at h; simp only [Bool.and_eq_true] at h; exact h.1
theorem digs_drop {l : List UInt8} (k : Nat) (h : digs l = true) : digs (l.drop k) = true := by
  have e : digs l = (digs (l.take k) && digs (l.drop k)) := by unfold digs; rw [← List.all_append, List.take_append_drop]
  rw [e] at h; simp only [Bool.and_eq_true] at h; exact h.2
theorem digs_at {s : ByteArray} {k : Nat} (h : digs s.data.toList = true) (hk : k < s.size) : 48 ≤ s[k].toNat ∧ s[k].toNat ≤ 57 := by
  have := List.all_eq_true.1 h s[k] (by
    have : s[k] = s.data.toList[k]'(by simpa using hk) := rfl
    rw [this]; exact List.getElem_mem _)
  simpa using this
set_option maxHeartbeats 400000 in
theorem number_any (s : ByteArray) (w : World) (hd : digs s.data.toList = true) (hs : s.size ≤ 3) :
    Calls Tryz.prog 146 #[.string s] w fun e w' => e = .returned (.int .i64 (numv s.data.toList)) ∧ w = w' := by
  have HD := Lib.hid hd; clear hd
  go_enter Tryz.func146, Tryz.ntmps146
  go_wp2
  go_loop [3, 7] (fun n i => ∃ k : Nat, k ≤ s.size ∧ i = .int .i64 k ∧ n = .int .i64 (numv (s.data.toList.take k))) (fun _ i => s.size - (intOf i).toNat)
  case atStart => exact ⟨0, Nat.zero_le _, rfl, rfl⟩
  case round =>
    obtain ⟨k, hk, rfl, rfl⟩ := hrel
    have hl : (s.data.toList.take k).length = k := by rw [List.length_take]; simp only [Array.length_toList]; have : s.data.size = s.size := rfl; omega
    obtain ⟨hb1, hb2, -⟩ := numv_bd _ (digs_take k HD.out) (by omega)
    by_cases hlt : k < s.size
    · have hts := take_snoc s k hlt
      have H := Lib.hid (show numv (s.data.toList.take (k + 1)) = 10 * numv (s.data.toList.take k) + ((s[k].toNat : Int) - 48) by rw [hts, numv_snoc]; omega)
      obtain ⟨hc1, hc2⟩ := digs_at HD.out hlt
      have hc3 : (48 : Int) ≤ (s[k].toNat : Int) := by omega
      have hc4 : (s[k].toNat : Int) ≤ 57 := by omega
      clear hts hl
      go_wp2
      go_round
      case rel => exact ⟨k + 1, by omega, by go_num, by rw [H.out]⟩
      case measure => simp [intOf]; omega
    · have T := Lib.hid (show s.data.toList.take k = s.data.toList from List.take_of_length_le (by simp; omega))
      clear hl
      go_wp2
      go_ret
      exact ⟨ret_i64 (by rw [T.out]), rfl⟩
/-- The number in the bytes from a to b. -/
def fld (s : ByteArray) (a b : Nat) : Int := numv (s.extract a b).data.toList
theorem extract_list (s : ByteArray) (a b : Nat) : (s.extract a b).data.toList = (s.data.toList.drop a).take (b - a) := by
  simp [ByteArray.data_extract, List.extract_eq_take_drop]
theorem fld_bd (s : ByteArray) (a b : Nat) (h : digs s.data.toList = true) (hb : b - a ≤ 3) : 0 ≤ fld s a b ∧ fld s a b ≤ 999 := by
  have := numv_bd (s.extract a b).data.toList (by rw [extract_list]; exact digs_take _ (digs_drop _ h)) (by rw [extract_list, List.length_take]; omega)
  exact ⟨this.1, this.2.1⟩
theorem number_fld (s : ByteArray) (a b : Nat) (w : World) (h : digs s.data.toList = true) (hb : b - a ≤ 3) :
    Calls Tryz.prog 146 #[.string (s.extract a b)] w fun e w' => e = .returned (.int .i64 (fld s a b)) ∧ w = w' :=
  number_any _ w (by rw [extract_list]; exact digs_take _ (digs_drop _ h)) (by rw [ByteArray.size_extract]; omega)
/-- The cutset. -/
def ten : ByteArray := ⟨#[48, 49, 50, 51, 52, 53, 54, 55, 56, 57]⟩
theorem ten_has (c : UInt8) : ten.data.toList.contains c = (decide (48 ≤ c.toNat) && decide (c.toNat ≤ 57)) := by
  have : ∀ n : Fin 256, ten.data.toList.contains (UInt8.ofNat n.val) = (decide (48 ≤ (UInt8.ofNat n.val).toNat) && decide ((UInt8.ofNat n.val).toNat ≤ 57)) := by decide +kernel
  have h := this ⟨c.toNat, c.toNat_lt⟩
  rw [UInt8.ofNat_toNat] at h
  exact h
theorem drop_all {p : UInt8 → Bool} : ∀ l : List UInt8, (∀ c ∈ l, p c = true) → l.dropWhile p = []
  | [], _ => rfl
  | x :: l, h => by rw [List.dropWhile_cons, if_pos (h x (by simp))]; exact drop_all l fun c hc => h c (by simp [hc])
theorem drop_mem {p : UInt8 → Bool} {c : UInt8} (hn : p c = false) : ∀ l : List UInt8, c ∈ l → c ∈ l.dropWhile p
  | [], h => by cases h
  | x :: l, h => by
    rw [List.dropWhile_cons]
    split
    · rename_i hcx
      rcases List.mem_cons.1 h with rfl | hx
      · rw [hn] at hcx; cases hcx
      · exact drop_mem hn l hx
    · exact h
theorem trim_digs {l : List UInt8} (h : digs l = true) : Lib.trimS l ten.data.toList = [] := by
  have hr : Lib.trimRightS l ten.data.toList = [] := by
    unfold Lib.trimRightS
    rw [drop_all _ fun c hc => by
      rw [ten_has]
      exact List.all_eq_true.1 h c (List.mem_reverse.1 hc)]
    rfl
  unfold Lib.trimS; rw [hr]; rfl
theorem trim_other {l : List UInt8} (h : digs l = false) : Lib.trimS l ten.data.toList ≠ [] := by
  intro e
  obtain ⟨c, hc, hn⟩ : ∃ c ∈ l, ten.data.toList.contains c = false := by
    have h2 := h
    unfold digs at h2
    rw [List.all_eq_false] at h2
    obtain ⟨c, hc, hn⟩ := h2
    exact ⟨c, hc, by rw [ten_has]; simpa using hn⟩
  have hm : c ∈ Lib.trimS l ten.data.toList := by
    unfold Lib.trimS Lib.trimLeftS Lib.trimRightS
    exact drop_mem hn _ (List.mem_reverse.2 (drop_mem hn _ (List.mem_reverse.2 hc)))
  rw [e] at hm
  cases hm
theorem trim_any (s : ByteArray) (w : World) (hs : s.size = 8) :
    Calls Tryz.prog 85 #[.string s, .string ⟨#[48, 49, 50, 51, 52, 53, 54, 55, 56, 57]⟩] w fun e w' => e = .returned (.string ⟨(Lib.trimS s.data.toList ten.data.toList).toArray⟩) ∧ Below w.heap.size w w' :=
  (Any.strings_Trim_set Tryz.lays160 (fun _ => by kernel_rfl) (by kernel_rfl) s ten w (by decide) (by omega) (by omega) (by decide) (by
    intro j b hb
    have : ∀ c ∈ ten.data.toList, c.toNat < 128 := by decide
    exact this b (List.mem_of_getElem? hb))).mono fun e w' ⟨he, q, hw⟩ => ⟨he, hw ▸ below_drewN (((Below.refl _ _).alloc (Nat.le_refl _) _).alloc (by simp) _) q⟩
set_option maxHeartbeats 1000000 in
theorem parse_len (s : ByteArray) (w : World) (hs : s.size ≠ 8) :
    Calls Tryz.prog 126 #[.string s] w fun e w' => e = .returned (.tuple #[.agg #[.int .i64 0, .int .i64 0, .int .i64 0, .int .i64 0], .int .i64 3]) ∧ Below w.heap.size w w' := by
  have q : ((s.size : Int) != 8) = true := by rw [bne_iff_ne]; omega
  clear hs
  go_enter Tryz.func126, Tryz.ntmps126
  go_wp2_with fail
  exact bodyPost_ret (v := .tuple #[.agg #[.int .i64 0, .int .i64 0, .int .i64 0, .int .i64 0], .int .i64 3]) (by simp [results, Tryz.results126, go_sem]) rfl ⟨rfl, (Below.refl _ _).alloc (Nat.le_refl _) _⟩
end Go.Proofs.YtneglkfcelpdgaaGreatDoor.Pl
