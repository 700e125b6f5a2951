/- Contracts of digits and Format of the program. -/
import Derived.Test.YthlcpmkjemdhkaaDoorChk
import Derived.Test.YthlcpmkjemdhkaaDoorShelf
import Derived.Lib.SmallJoins
import Derived.Lib.AppendIntMem
namespace Go.Proofs.YthlcpmkjemdhkaaDoor
open Go.RowKit

/-- What the package-level variables hold: the rows, the powers of ten, the two errors. -/
structure Env (w : World) : Prop where
  tab : Tab w
  pow : Lib.TabIs Tryd.prog w "internal/strconv.uint64pow10" .u64 Lib.pow10Tab
  syn : ∃ te pe, w.cell? ⟨1, 0, none⟩ = some (.iface te pe)
  rng : ∃ te pe, w.cell? ⟨2, 0, none⟩ = some (.iface te pe)
theorem pow_at : Tryd.prog.globalNamed "internal/strconv.uint64pow10" = some 3 := by kernel_rfl
theorem Env.under {w w' : World} (h : Env w) (hb : Below w.heap.size w w') : Env w' := by
  obtain ⟨t, p, ⟨a, b, s⟩, c, d, r⟩ := h
  exact ⟨t.under hb, Joins.tab_stays pow_at p hb (Nat.le_refl _), ⟨a, b, (hb.cell (p := ⟨1, 0, none⟩) (World.block_lt_of_cell? w _ s)).trans s⟩, ⟨c, d, (hb.cell (p := ⟨2, 0, none⟩) (World.block_lt_of_cell? w _ r)).trans r⟩⟩
theorem Env.alloc {w : World} (h : Env w) (o : Obj) : Env (w.alloc o) := h.under ((Below.refl _ _).alloc (Nat.le_refl _) o)
theorem Env.drew {w : World} (h : Env w) : Env w.drew := ⟨h.tab, h.pow, h.syn, h.rng⟩
theorem Env.drewN {w : World} (h : Env w) (n : Nat) : Env (w.drewN n) := ⟨h.tab, h.pow, h.syn, h.rng⟩
theorem itoa_any (n : Nat) (w : World) (hE : Env w) (h2 : n ≤ 99999) :
    Calls Tryd.prog 47 #[.int .i64 n] w fun e w' => e = .returned (.string (S (Lib.decDigits n))) ∧ Below w.heap.size w w' := by
  by_cases c1 : n < 100
  · exact (Tryd.strconv_Itoa_small n c1 w).mono fun e w' ⟨he, hw⟩ => ⟨he, hw ▸ Below.refl _ _⟩
  · refine (Tryd.strconv_Itoa (n : Int) (by omega) (by omega) w hE.pow).mono fun e w' ⟨he, q, os, hw⟩ => ⟨?_, ?_⟩
    · rw [he, Lib.itoa_nonneg]; rfl
    · rw [hw]; exact Lib.below_grow _ _ (Nat.le_refl _) _ _
theorem repeat_any (c : Nat) (w : World) (h2 : c ≤ 9) :
    Calls Tryd.prog 48 #[.string ⟨#[48]⟩, .int .i64 c] w fun e w' => e = .returned (.string (S (List.replicate c 48))) ∧ Below w.heap.size w w' := by
  rcases (by omega : c = 0 ∨ c = 1 ∨ c = 2 ∨ c = 3 ∨ c = 4 ∨ c = 5 ∨ c = 6 ∨ c = 7 ∨ c = 8 ∨ c = 9) with rfl | rfl | rfl | rfl | rfl | rfl | rfl | rfl | rfl | rfl
  · exact (Tryd.strings_Repeat_zero _ w).mono fun e w' ⟨he, hw⟩ => ⟨he, hw ▸ Below.refl _ _⟩
  · exact (Tryd.strings_Repeat_one _ w).mono fun e w' ⟨he, hw⟩ => ⟨he, hw ▸ Below.refl _ _⟩
  all_goals exact (Tryd.strings_Repeat_main ⟨#[48]⟩ _ w (by omega) (by omega) (by decide) (by decide)).mono fun e w' ⟨he, hw⟩ => ⟨he, hw⟩
attribute [local go_sem] S_add S_size
set_option maxHeartbeats 400000 in
theorem digits_any (n k : Nat) (w : World) (hE : Env w) (h1 : n < 10 ^ k) (h2 : 4 ≤ k) (h3 : k ≤ 5) :
    Calls Tryd.prog 42 #[.int .i64 n, .int .i64 k] w fun e w' => e = .returned (.string (S (Elt.ddn n k))) ∧ Below w.heap.size w w' := by
  have h10 : n ≤ 99999 := by have : 10 ^ k ≤ 10 ^ 5 := Nat.pow_le_pow_right (by omega) h3; omega
  obtain ⟨m, rfl⟩ : ∃ m, k = m + 1 := ⟨k - 1, by omega⟩
  obtain ⟨p1, p2⟩ := Elt.pad m n h1
  have P2 := Lib.hid p2; clear p2 h1
  have hc : ((m + 1 : Nat) : Int) - ((Lib.decDigits n).length : Int) = ((m + 1 - (Lib.decDigits n).length : Nat) : Int) := by omega
  generalize hl : (Lib.decDigits n).length = len at *
  generalize hz : m + 1 - len = z at *
  have hz9 : z ≤ 9 := by omega
  have HL := Lib.hid hl
  have x1 : IntKind.i64.wrap (((m + 1 : Nat) : Int) - (len : Int)) = (z : Int) := by rw [hc]; exact IntWalk.i64_in _ (by omega)
  generalize ((m + 1 : Nat) : Int) = mi at *
  have hl3 : (List.replicate z (48 : UInt8)).length ≤ 9 := by rw [List.length_replicate]; omega
  go_enter Tryd.func42, Tryd.ntmps42
  go_wp2_with fail
  refine (itoa_any n _ hE h10).mono ?_
  rintro e w1 ⟨rfl, g1⟩
  go_upto_region 2 with fail
  go_wp2_with fail
  refine (repeat_any z _ hz9).mono ?_
  rintro e w2 ⟨rfl, g2⟩
  go_wp2_with fail
  go_ret
  exact ⟨ret_str (by rw [P2.out]), g1.trans (g2.mono g1.size)⟩
end Go.Proofs.YthlcpmkjemdhkaaDoor
