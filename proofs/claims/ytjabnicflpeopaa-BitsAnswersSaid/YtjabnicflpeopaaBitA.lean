/- Contracts of the program's small functions of bits: shift, bit, put, bytesFor, isWidth. -/
import Derived.Test.YtjabnicflpeopaaBx
import Derived.Test.YtjabnicflpeopaaSrc
namespace Go.Proofs.Ytjabnicflpeopaa
open Go.RowKit

set_option maxHeartbeats 400000 in
theorem shift_any (i : Nat) (w : World) (hi : i ≤ 9000000) :
    Calls Try.prog 37 #[.int .i64 i] w fun e w' => e = .returned (.int .i64 (7 - (i : Int) % 8)) ∧ w = w' := by
  go_enter Try.func37, Try.ntmps37
  go_wp2
  go_ret
  exact ⟨rfl, rfl⟩
set_option maxHeartbeats 400000 in
theorem bytesFor_any (n : Int) (w : World) (h0 : 0 ≤ n) (h1 : n ≤ 9000000) :
    Calls Try.prog 35 #[.int .i64 n] w fun e w' => e = .returned (.int .i64 ((n + 7) / 8)) ∧ w = w' := by
  have H : Hid (n + 8 - 1 = n + 7) := Lib.hid (by omega)
  go_enter Try.func35, Try.ntmps35
  go_wp2
  go_ret
  exact ⟨ret_i64 (by rw [H.out]), rfl⟩
def isw (w : Int) : Bool := decide (1 ≤ w ∧ w ≤ 24)
set_option maxHeartbeats 400000 in
theorem isWidth_any (n : Int) (w : World) :
    Calls Try.prog 29 #[.int .i64 n] w fun e w' => e = .returned (.bool (isw n)) ∧ w = w' := by
  by_cases h1 : 1 ≤ n
  · have H : Hid (isw n = decide (n ≤ 24)) := Lib.hid (by unfold isw; simp [h1])
    go_enter Try.func29, Try.ntmps29
    go_wp2
    all_goals
      go_ret
      exact ⟨ret_bool (by rw [H.out]), rfl⟩
  · have H : Hid (isw n = false) := Lib.hid (by unfold isw; simp [h1])
    go_enter Try.func29, Try.ntmps29
    go_wp2
    go_ret
    exact ⟨ret_bool H.out.symm, rfl⟩
set_option maxHeartbeats 400000 in
theorem refwidth_any (n : Int) (w : World) :
    Calls Try.prog 32 #[.int .i64 n] w fun e w' => e = .returned (.bool (isw n)) ∧ w = w' := by
  by_cases h1 : 1 ≤ n
  · have H : Hid (isw n = decide (n ≤ 24)) := Lib.hid (by unfold isw; simp [h1])
    go_enter Try.func32, Try.ntmps32
    go_wp2
    all_goals
      go_ret
      exact ⟨ret_bool (by rw [H.out]), rfl⟩
  · have H : Hid (isw n = false) := Lib.hid (by unfold isw; simp [h1])
    go_enter Try.func32, Try.ntmps32
    go_wp2
    go_ret
    exact ⟨ret_bool H.out.symm, rfl⟩
/-- What a shift and a mask read of a byte. -/
theorem and_one_u8 (x : Int) (h0 : 0 ≤ x) (h1 : x < 256) : bits .and .u8 x 1 = x % 2 := bits_mask .u8 8 (by decide) wraps_u8 1 (by decide) x h0 h1
theorem and_one_i64 (x : Int) (h0 : 0 ≤ x) (h1 : x < 2 ^ 62) : bits .and .i64 x 1 = x % 2 := bits_mask .i64 62 (by decide) (fun n a b => by rw [IntKind.wrap_i64]; omega) 1 (by decide) x h0 h1
theorem bit_int {L : List Nat} {i : Nat} (hi : i / 8 < L.length) : (((L[i / 8] : Nat) : Int) / 2 ^ (7 - i % 8)) % 2 = ((bt L i).toNat : Int) := by
  rw [← bit_val hi]
  norm_cast
set_option maxHeartbeats 400000 in
theorem bit_any (w : World) (A : Option Addr) (c : Nat) (L : List Nat) (n : Int) (i : Nat) (h : Bys w A c L) (hi : i / 8 < L.length) (hi2 : i ≤ 9000000) :
    Calls Try.prog 34 #[.agg #[.slice A L.length c, .int .i64 n], .int .i64 i] w fun e w' => e = .returned (.int .i64 ((bt L i).toNat : Int)) ∧ Below w.heap.size w w' := by
  obtain ⟨bk, off, rfl, hlt, hc⟩ := h.addr (by omega)
  have cx := hc (i / 8) hi
  have B := Lib.hid (bit_int hi)
  have hx := h.2.2.2.1 _ (List.getElem_mem hi)
  have hlc := h.1
  have hc2 := h.2.1
  generalize L[i / 8] = x at cx B hx
  clear h hc
  go_enter Try.func34, Try.ntmps34
  go_wp2_with fail
  go_quiet ((go_at_call 37; exact quiet_left (shift_any _ _ hi2)))
  go_wp2_with fail
  go_ret
  exact ⟨ret_i64 (by rw [and_one_u8 _ (Int.ediv_nonneg (by omega) (Int.le_of_lt (Int.pow_pos (by decide)))) (Int.lt_of_le_of_lt (Int.ediv_le_self _ (by omega)) (by omega)), B.out]; have q := Bool.toNat_le (bt L i); exact IntWalk.wrap64_in ((bt L i).toNat : Int) ⟨by omega, by omega⟩), below_drewN ((Below.refl _ _).alloc (Nat.le_refl _) _) _⟩
theorem put_int {L : List Nat} {i : Nat} (hi : i / 8 < L.length) (hb : ∀ x ∈ L, x < 256) (b : Bool) :
    bits .or .u8 ((L[i / 8] : Nat) : Int) ((b.toNat <<< (7 - i % 8) : Nat) : Int) = ((L.getD (i / 8) 0 ||| b.toNat <<< (7 - i % 8) : Nat) : Int) := by
  rw [List.getD_eq_getElem?_getD, List.getElem?_eq_getElem hi]
  refine (bits_nat .u8 8 (by decide) wraps_u8 _ _ (hb _ (List.getElem_mem hi)) ?_).2
  have : b.toNat ≤ 1 := Bool.toNat_le b
  rw [Nat.shiftLeft_eq]
  have p : 2 ^ (7 - i % 8) ≤ 2 ^ 7 := Nat.pow_le_pow_right (by decide) (by omega)
  have q : b.toNat * 2 ^ (7 - i % 8) ≤ 1 * 2 ^ 7 := Nat.mul_le_mul this p
  omega
theorem pw_le {b : Bool} {i : Nat} : b.toNat <<< (7 - i % 8) < 256 := by
  have : b.toNat ≤ 1 := Bool.toNat_le b
  rw [Nat.shiftLeft_eq]
  have p : 2 ^ (7 - i % 8) ≤ 2 ^ 7 := Nat.pow_le_pow_right (by decide) (by omega)
  have q : b.toNat * 2 ^ (7 - i % 8) ≤ 1 * 2 ^ 7 := Nat.mul_le_mul this p
  omega
theorem put_val {b : Bool} {i : Nat} : wrap64 ((b.toNat : Int) * 2 ^ (7 - i % 8)) % 256 = ((b.toNat <<< (7 - i % 8) : Nat) : Int) := by
  have e : ((b.toNat : Int) * 2 ^ (7 - i % 8)) = ((b.toNat <<< (7 - i % 8) : Nat) : Int) := by rw [Nat.shiftLeft_eq]; norm_cast
  have p := pw_le (b := b) (i := i)
  rw [e]
  generalize b.toNat <<< (7 - i % 8) = y at p ⊢
  rw [IntWalk.wrap64_in _ ⟨by omega, by omega⟩]
  omega
theorem grown_set (w : World) (g j : Nat) (u : Value) : w.grownBy ((w.setCell ⟨g, j, none⟩ u).drew) (some g) :=
  ⟨rfl, rfl, rfl, by simp [World.setCell, World.drew], fun k _ hk => Below.heap_setCell w ⟨g, j, none⟩ u k (fun e => hk (by rw [e]))⟩
set_option maxHeartbeats 400000 in
theorem put_any (w : World) (g k c : Nat) (L : List Nat) (n : Int) (i : Nat) (b : Bool) (hk : L.length = k) (h : Own w g L) (hi : i / 8 < L.length) (hi2 : i ≤ 9000000) (hb : ∀ x ∈ L, x < 256) (hc : L.length ≤ c) (hc2 : c ≤ 9223372036854775807) :
    Calls Try.prog 31 #[.agg #[.slice (some ⟨g, 0, none⟩) k c, .int .i64 n], .int .i64 i, .int .i64 (b.toNat : Int)] w fun e w' => e = .returned (.tuple #[]) ∧ Own w' g (L.set (i / 8) (L.getD (i / 8) 0 ||| b.toNat <<< (7 - i % 8))) ∧ w.grownBy w' (some g) := by
  subst hk
  have hx : w.cell? ⟨g, i / 8, none⟩ = some (.int .u8 (L[i / 8] : Int)) := by rw [Row.cell h, List.getElem?_toArray]; exact byc_at hi
  have hf := Row.thaw h (i / 8)
  have hlt := Row.lt h
  have H := Lib.hid h
  have B := Lib.hid (put_int hi hb b)
  have hxb := hb _ (List.getElem_mem hi)
  have HB := Lib.hid hb
  generalize L[i / 8] = x at hx B hxb
  clear h hb
  go_enter Try.func31, Try.ntmps31
  go_wp2_with fail
  refine forget (fun Y => Row Y w.heap.size 24 #[.slice (some ⟨g, 0, none⟩) L.length c, .int .i64 n] ∧ Y.cell? ⟨g, i / 8, none⟩ = some (.int .u8 (x : Int)) ∧ Y.frozen? ⟨g, i / 8, none⟩ = false ∧ Hid (Own Y g L) ∧ Hid (w.grownBy Y (some g))) ⟨Row.new _ _ _, by rw [← hx]; exact (Below.alloc (Below.refl _ _) (Nat.le_refl _) _).cell (p := ⟨g, i / 8, none⟩) hlt, Row.thaw (Row.alloc H.out _) _, Lib.hid (Row.alloc H.out _), Lib.hid (grown_below ((Below.refl _ _).alloc (Nat.le_refl _) _))⟩ ?_
  clear hx hf H
  generalize w.heap.size = gb
  rintro Y ⟨r, hx, hf, H, G⟩
  obtain ⟨r0, r1⟩ := row2 r
  clear r r1
  have xq : IntKind.i64.wrap ((i : Int) / 8) = (i : Int) / 8 := IntWalk.i64_in _ ⟨by omega, by omega⟩
  have xl : (i : Int) / 8 < (L.length : Int) := by omega
  have x0 : (0 : Int) ≤ (i : Int) / 8 := by omega
  have xt : ((i : Int) / 8).toNat = i / 8 := by omega
  have y0 : (0 : Int) ≤ 7 - (i : Int) % 8 := by omega
  go_still_tail 13, (by kernel_rfl)
  still_call ((shift_any i Y.drew hi2).mono fun _ _ ⟨h, e⟩ => ⟨h, e.symm⟩)
  repeat still_step
  refine wpStill_nil ?_
  change wpList _ _ _ _ _ Y.drew
  clear xq xl x0 xt y0
  go_wp2
  refine bodyPost_end (v := .tuple #[]) (by simp [results, Try.results31, go_sem]) rfl ⟨rfl, ?_, grown_trans G.out (grown_set _ _ _ _)⟩
  rw [put_val, B.out, Own, byc_set, ← List.setIfInBounds_toArray]
  exact Row.drew (Row.put H.out _ _)
end Go.Proofs.Ytjabnicflpeopaa
