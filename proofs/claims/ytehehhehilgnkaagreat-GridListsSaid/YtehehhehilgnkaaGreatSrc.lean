/- Contracts of the reader of numbers that the statements share: New, Raw, N, Range, Pick, and the law's own minute. -/
import Derived.Test.YtehehhehilgnkaaGreatMga
import Derived.Laws.OwnMore
import Derived.OpenShut
import Derived.Outline
namespace Go.Proofs.YtehehhehilgnkaaGreat
open Go.RowKit

theorem ret_i64 {a b : Int} (h : a = b) : Ending.returned (.int .i64 a) = .returned (.int .i64 b) := by rw [h]
theorem grown_below {a b : World} {r : Option Nat} (h : Below a.heap.size a b) : a.grownBy b r := ⟨h.os, h.tape, h.output, h.size, fun i hi _ => h.block i hi⟩
/-- An int64. -/
def I64 (x : Int) : Prop := -9223372036854775808 ≤ x ∧ x ≤ 9223372036854775807
theorem tmod_neg {x n : Int} (h0 : ¬ 0 ≤ x) (h1 : 1 ≤ n) : -n < x.tmod n ∧ x.tmod n ≤ 0 ∧ (x.tmod n < 0 → x.tmod n + n = x % n) ∧ (¬ x.tmod n < 0 → x.tmod n = x % n) := by
  have a := Int.lt_tmod_of_pos x (by omega : 0 < n)
  have c := Int.emod_nonneg x (by omega : n ≠ 0)
  have d := Int.emod_lt_of_pos x (by omega : 0 < n)
  have e : x.tmod n = x % n - ↑(if 0 ≤ x ∨ n ∣ x then 0 else n.natAbs) := Int.tmod_eq_emod
  by_cases hd : n ∣ x
  · rw [if_pos (.inr hd)] at e
    have := Int.emod_eq_zero_of_dvd hd
    omega
  · rw [if_neg (fun h => h.elim h0 hd)] at e
    have : x % n ≠ 0 := fun h => hd (Int.dvd_of_emod_eq_zero h)
    omega
set_option maxHeartbeats 400000 in
theorem mod_any (x n : Int) (w : World) (hx : I64 x) (h1 : 1 ≤ n) (h2 : n ≤ 100000000) :
    Calls Tryz.prog 4 #[.int .i64 x, .int .i64 n] w fun e w' => e = .returned (.int .i64 (x % n)) ∧ w = w' := by
  obtain ⟨hx1, hx2⟩ := hx
  by_cases h0 : 0 ≤ x
  · have c := Int.emod_nonneg x (by omega : n ≠ 0)
    go_enter Tryz.func4, Tryz.ntmps4
    go_wp2
    go_ret
    exact ⟨rfl, rfl⟩
  · obtain ⟨a, b, c, d⟩ := tmod_neg h0 h1
    by_cases h3 : x.tmod n < 0
    · have C := Lib.hid (c h3); clear c d
      go_enter Tryz.func4, Tryz.ntmps4
      go_wp2
      go_ret
      exact ⟨ret_i64 C.out, rfl⟩
    · have D := Lib.hid (d h3); clear c d
      go_enter Tryz.func4, Tryz.ntmps4
      go_wp2
      go_ret
      exact ⟨ret_i64 D.out, rfl⟩
/-- The first n numbers of a list that lies in W. -/
def Ints (W : World) (A : Option Addr) (n : Nat) : Prop := ∀ i, i < n → ∃ bk off x, A = some ⟨bk, off, none⟩ ∧ bk < W.heap.size ∧ W.cell? ⟨bk, off + i, none⟩ = some (.int .i64 x) ∧ I64 x
theorem grown_refl (w : World) (r : Option Nat) : w.grownBy w r := ⟨rfl, rfl, rfl, Nat.le_refl _, fun _ _ _ => rfl⟩
theorem grown_trans {a b c : World} {r : Option Nat} (h : a.grownBy b r) (k : b.grownBy c r) : a.grownBy c r :=
  ⟨k.os.trans h.os, k.tape.trans h.tape, k.output.trans h.output, Nat.le_trans h.size k.size, fun i hi hr => (k.block i (Nat.lt_of_lt_of_le hi h.size) hr).trans (h.block i hi hr)⟩
theorem below_grown {a b c : World} {B g : Nat} (h : Below B a b) (k : b.grownBy c (some g)) (hg : B ≤ g) (hB : B ≤ b.heap.size) : Below B a c :=
  ⟨k.os.trans h.os, k.tape.trans h.tape, k.output.trans h.output, Nat.le_trans h.size k.size, fun i hi => (k.block i (by omega) (by simp; omega)).trans (h.block i hi)⟩

theorem Ints.less {W : World} {A : Option Addr} {n m : Nat} (h : Ints W A n) (hm : m ≤ n) : Ints W A m := fun i hi => h i (by omega)
/-- A list as the program holds it. -/
def ListIn (w : World) (v : Value) : Prop := v = .slice none 0 0 ∨ ∃ (a : Addr) (n c : Nat), v = .slice (some a) n c ∧ n ≤ c ∧ c ≤ 9223372036854775807 ∧ Ints w (some a) n
theorem Ints.under {W W' : World} {A : Option Addr} {n : Nat} (h : Ints W A n) (hb : Below W.heap.size W W') : Ints W' A n := fun i hi => by
  obtain ⟨bk, off, x, e, hlt, hc, hx⟩ := h i hi
  exact ⟨bk, off, x, e, Nat.lt_of_lt_of_le hlt hb.size, (hb.cell (p := ⟨bk, off + i, none⟩) hlt).trans hc, hx⟩
theorem ListIn.under {W W' : World} {v : Value} (h : ListIn W v) (hb : Below W.heap.size W W') : ListIn W' v := by
  rcases h with rfl | ⟨a, n, c, rfl, h1, h2, h3⟩
  · exact .inl rfl
  · exact .inr ⟨a, n, c, rfl, h1, h2, h3.under hb⟩
end Go.Proofs.YtehehhehilgnkaaGreat

