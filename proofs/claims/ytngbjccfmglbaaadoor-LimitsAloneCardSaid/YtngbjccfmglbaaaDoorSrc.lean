/- Contracts of the reader of numbers that the statements share: New, Raw, N, Range, Pick, and the law's own minute. -/
import Derived.Test.YtngbjccfmglbaaaDoorRow
import Derived.Laws.OwnMore
import Derived.OpenShut
import Derived.Outline
namespace Go.Proofs.YtngbjccfmglbaaaDoor
open Go.RowKit

theorem grown_below {a b : World} {r : Option Nat} (h : Below a.heap.size a b) : a.grownBy b r := ⟨h.os, h.tape, h.output, h.size, fun i hi _ => h.block i hi⟩
/-- An int64. -/
def I64 (x : Int) : Prop := -9223372036854775808 ≤ x ∧ x ≤ 9223372036854775807
theorem tmod_neg {x n : Int} (h0 : ¬ 0 ≤ x) (h1 : 1 ≤ n) : -n < x.tmod n ∧ x.tmod n ≤ 0 ∧ (x.tmod n < 0 → x.tmod n + n = x % n) ∧ (¬ x.tmod n < 0 → x.tmod n = x % n) := by
  have a := Int.lt_tmod_of_pos x (by omega : 0 < n)
  have c := Int.emod_nonneg x (by omega : n ≠ 0)
  have d := Int.emod_lt_of_pos x (by omega : 0 < n)
  have e : x.tmod n = x % n - ↑(if 0 ≤ x ∨ n ∣ x then 0 else n.natAbs) := Int.tmod_eq_emod
  by_cases hd : n ∣ x
  · rw [if_pos (.inr hd)] at e
    have := Int.emod_eq_zero_of_dvd hd
    omega
  · rw [if_neg (fun h => h.elim h0 hd)] at e
    have : x % n ≠ 0 := fun h => hd (Int.dvd_of_emod_eq_zero h)
    omega
set_option maxHeartbeats 400000 in
theorem mod_any (x n : Int) (w : World) (hx : I64 x) (h1 : 1 ≤ n) (h2 : n ≤ 100000000000) :
    Calls Tryd.prog 14 #[.int .i64 x, .int .i64 n] w fun e w' => e = .returned (.int .i64 (x % n)) ∧ w = w' := by
  obtain ⟨hx1, hx2⟩ := hx
  by_cases h0 : 0 ≤ x
  · have c := Int.emod_nonneg x (by omega : n ≠ 0)
    go_enter Tryd.func14, Tryd.ntmps14
    go_wp2
    go_ret
    exact ⟨rfl, rfl⟩
  · obtain ⟨a, b, c, d⟩ := tmod_neg h0 h1
    by_cases h3 : x.tmod n < 0
    · have C := Lib.hid (c h3); clear c d
      go_enter Tryd.func14, Tryd.ntmps14
      go_wp2
      go_ret
      exact ⟨ret_i64 C.out, rfl⟩
    · have D := Lib.hid (d h3); clear c d
      go_enter Tryd.func14, Tryd.ntmps14
      go_wp2
      go_ret
      exact ⟨ret_i64 D.out, rfl⟩
/-- The first n numbers of a list that lies in W. -/
def Ints (W : World) (A : Option Addr) (n : Nat) : Prop := ∀ i, i < n → ∃ bk off x, A = some ⟨bk, off, none⟩ ∧ bk < W.heap.size ∧ W.cell? ⟨bk, off + i, none⟩ = some (.int .i64 x) ∧ I64 x
/-- Block b holds a reader, made since the world W; below W's end nothing has turned. -/
structure Src (W : World) (b : Nat) (w : World) : Prop where
  base : W.heap.size ≤ b
  below : Below W.heap.size W w
  row : ∃ (A : Option Addr) (n c k : Nat), k ≤ n ∧ n ≤ 2000 ∧ w.heap[b]? = some (.cells #[.slice A n c, .int .i64 k] 45 (0, 0)) ∧ Ints W A n

theorem Src.under {W w w' : World} {b : Nat} (h : Src W b w) (hb : Below w.heap.size w w') : Src W b w' := by
  obtain ⟨A, n, c, k, h1, h2, h3, h4⟩ := h.row
  have hlt : b < w.heap.size := by
    rcases Nat.lt_or_ge b w.heap.size with hlt | hge
    · exact hlt
    · rw [Array.getElem?_eq_none hge] at h3; cases h3
  exact ⟨h.base, h.below.trans (hb.mono h.below.size), A, n, c, k, h1, h2, (hb.block b hlt).trans h3, h4⟩
theorem grown_refl (w : World) (r : Option Nat) : w.grownBy w r := ⟨rfl, rfl, rfl, Nat.le_refl _, fun _ _ _ => rfl⟩
theorem grown_trans {a b c : World} {r : Option Nat} (h : a.grownBy b r) (k : b.grownBy c r) : a.grownBy c r :=
  ⟨k.os.trans h.os, k.tape.trans h.tape, k.output.trans h.output, Nat.le_trans h.size k.size, fun i hi hr => (k.block i (Nat.lt_of_lt_of_le hi h.size) hr).trans (h.block i hi hr)⟩
theorem below_grown {a b c : World} {B g : Nat} (h : Below B a b) (k : b.grownBy c (some g)) (hg : B ≤ g) (hB : B ≤ b.heap.size) : Below B a c :=
  ⟨k.os.trans h.os, k.tape.trans h.tape, k.output.trans h.output, Nat.le_trans h.size k.size, fun i hi => (k.block i (by omega) (by simp; omega)).trans (h.block i hi)⟩

/-- What a call on the reader leaves: a number that meets p, the reader as it should be, and nothing but the reader's block turned. -/
def Reads (p : Int → Prop) (W : World) (b : Nat) (w : World) (e : Ending) (w' : World) : Prop := ∃ x, p x ∧ e = .returned (.int .i64 x) ∧ Src W b w' ∧ w.grownBy w' (some b)

theorem set_row {w : World} {b n c k : Nat} {A : Option Addr} {v : Value} (h : w.heap[b]? = some (.cells #[.slice A n c, .int .i64 k] 45 (0, 0))) (p q : Nat) :
    (((w.drewN p).setCell ⟨b, 1, none⟩ v).drewN q).heap[b]? = some (.cells #[.slice A n c, v] 45 (0, 0)) ∧ w.grownBy (((w.drewN p).setCell ⟨b, 1, none⟩ v).drewN q) (some b) := by
  constructor
  · show ((w.drewN p).setCell ⟨b, 1, none⟩ v).heap[b]? = _
    simp [World.setCell, Array.getElem?_modify, h]
  · have hb : Below 0 w ((w.drewN p).setCell ⟨b, 1, none⟩ v) := ⟨rfl, rfl, rfl, by simp [World.setCell], fun i hi => by omega⟩
    exact ⟨hb.os, hb.tape, hb.output, hb.size, fun i _ hne => Below.heap_setCell (w.drewN p) ⟨b, 1, none⟩ v i (fun e => hne (by rw [e]))⟩

set_option maxHeartbeats 400000 in
theorem raw_any (W : World) (b : Nat) (w : World) (h : Src W b w) :
    Calls Tryd.prog 27 #[.pointer (some ⟨b, 0, none⟩)] w (Reads I64 W b w) := by
  obtain ⟨A, n, c, k, h1, h2, h3, h4⟩ := h.row
  have c0 : w.cell? ⟨b, 0, none⟩ = some (.slice A n c) := by simp [World.cell?, h3]
  have c1 : w.cell? ⟨b, 1, none⟩ = some (.int .i64 k) := by simp [World.cell?, h3]
  have f1 : w.frozen? ⟨b, 1, none⟩ = false := by simp [World.frozen?, h3]
  by_cases hk : k < n
  · obtain ⟨bk, off, x, rfl, hlt, hx, hi⟩ := h4 k hk
    have hbb := h.base
    have hne : bk < b := by omega
    have cx : w.cell? ⟨bk, off + k, none⟩ = some (.int .i64 x) := (h.below.cell (p := ⟨bk, off + k, none⟩) hlt).trans hx
    have hS := h; have H3 := Lib.hid h3; clear h3 h hx hbb hlt
    have H4 := Lib.hid h4; clear h4
    go_enter Tryd.func27, Tryd.ntmps27
    go_wp2
    go_quiet (fail)
    go_wp2
    go_quiet (fail)
    go_wp2
    go_ret
    exact ⟨x, hi, rfl, ⟨hS.base, below_grown hS.below (set_row H3.out _ _).2 hS.base hS.below.size, _, n, c, k + 1, by omega, h2, (set_row H3.out _ _).1, H4.out⟩, (set_row H3.out _ _).2⟩
  · have hkn : k = n := by omega
    subst hkn
    have hS := h; clear h3 h h4
    go_enter Tryd.func27, Tryd.ntmps27
    go_wp2
    go_quiet (fail)
    go_wp2
    go_ret
    exact ⟨0, ⟨by omega, by omega⟩, rfl, hS.under ⟨rfl, rfl, rfl, Nat.le_refl _, fun _ _ => rfl⟩, grown_below ⟨rfl, rfl, rfl, Nat.le_refl _, fun _ _ => rfl⟩⟩

set_option maxHeartbeats 400000 in
theorem n_any (W : World) (b : Nat) (w : World) (n : Int) (h : Src W b w) (n1 : 1 ≤ n) (n2 : n ≤ 100000000000) :
    Calls Tryd.prog 17 #[.pointer (some ⟨b, 0, none⟩), .int .i64 n] w (Reads (fun x => 0 ≤ x ∧ x < n) W b w) := by
  go_enter Tryd.func17, Tryd.ntmps17
  go_wp2_with fail
  refine (raw_any W b _ h).mono ?_
  rintro e w1 ⟨x, hx, rfl, hs, hg⟩
  go_wp2_with fail
  refine (mod_any _ _ _ hx n1 n2).mono ?_
  rintro e w2 ⟨rfl, rfl⟩
  go_wp2_with fail
  go_ret
  exact ⟨x % n, ⟨Int.emod_nonneg x (by omega), Int.emod_lt_of_pos x (by omega)⟩, rfl, hs, hg⟩

set_option maxHeartbeats 400000 in
theorem range_any (W : World) (b : Nat) (w : World) (lo hi : Int) (h : Src W b w) (n1 : lo ≤ hi) (n2 : hi - lo ≤ 90000000) (l1 : -1000000000 ≤ lo) (l2 : lo ≤ 1000000000) :
    Calls Tryd.prog 28 #[.pointer (some ⟨b, 0, none⟩), .int .i64 lo, .int .i64 hi] w (Reads (fun x => lo ≤ x ∧ x ≤ hi) W b w) := by
  go_enter Tryd.func28, Tryd.ntmps28
  go_wp2_with fail
  refine (n_any W b _ _ h (by omega) (by omega)).mono ?_
  rintro e w1 ⟨x, ⟨x1, x2⟩, rfl, hs, hg⟩
  go_wp2_with fail
  go_ret
  exact ⟨lo + x, ⟨by omega, by omega⟩, rfl, hs, hg⟩

set_option maxHeartbeats 400000 in
theorem pick_any (p : Int → Prop) (W : World) (b : Nat) (w : World) (g n c : Nat) (h : Src W b w) (n1 : 1 ≤ n) (n2 : n ≤ 1000) (hgb : g ≠ b) (hgl : g < w.heap.size)
    (hp : ∀ i, i < n → ∃ x, w.cell? ⟨g, i, none⟩ = some (.int .i64 x) ∧ p x) :
    Calls Tryd.prog 29 #[.pointer (some ⟨b, 0, none⟩), .slice (some ⟨g, 0, none⟩) n c] w (Reads p W b w) := by
  have HP := Lib.hid hp; clear hp
  go_enter Tryd.func29, Tryd.ntmps29
  go_wp2_with fail
  refine (n_any W b _ _ h (by omega) (by omega)).mono ?_
  rintro e w1 ⟨x, ⟨x1, x2⟩, rfl, hs, hg⟩
  obtain ⟨k, rfl⟩ := Int.eq_ofNat_of_zero_le x1
  obtain ⟨v, hv, hpv⟩ := HP.out k (by omega)
  have hc : w1.cell? ⟨g, k, none⟩ = some (.int .i64 v) := (World.cell?_of_block (hg.block g hgl (by simpa using hgb))).trans hv
  clear hv
  go_wp2_with fail
  go_ret
  exact ⟨v, hpv, rfl, hs, hg⟩

/-- What New leaves: a reader in a new block. -/
def News (W : World) (e : Ending) (w' : World) : Prop := e = .returned (.pointer (some ⟨W.heap.size, 0, none⟩)) ∧ Src W W.heap.size w' ∧ Below W.heap.size W w'
theorem Ints.less {W : World} {A : Option Addr} {n m : Nat} (h : Ints W A n) (hm : m ≤ n) : Ints W A m := fun i hi => h i (by omega)
theorem new_src {w : World} {A : Option Addr} {n c : Nat} (hn : n ≤ 2000) (hI : Ints w A n) : Src w w.heap.size (w.alloc (.cells #[.slice A n c, .int .i64 0] 45)) :=
  ⟨Nat.le_refl _, (Below.refl _ _).alloc (Nat.le_refl _) _, A, n, c, 0, Nat.zero_le _, hn, heap_alloc_new w _, hI⟩
set_option maxHeartbeats 400000 in
theorem new_none (w : World) :
    Calls Tryd.prog 6 #[.slice none 0 0] w (News w) := by
  go_enter Tryd.func6, Tryd.ntmps6
  go_wp2
  go_ret
  exact ⟨rfl, new_src (by omega) (fun i hi => by omega), (Below.refl _ _).alloc (Nat.le_refl _) _⟩
set_option maxHeartbeats 400000 in
theorem new_some (w : World) (a : Addr) (n c : Nat) (hc : n ≤ c) (_hm : c ≤ 9223372036854775807) (hI : Ints w (some a) n) :
    Calls Tryd.prog 6 #[.slice (some a) n c] w (News w) := by
  go_enter Tryd.func6, Tryd.ntmps6
  go_wp2
  all_goals
    go_ret
    exact ⟨rfl, new_src (by omega) (hI.less (by omega)), (Below.refl _ _).alloc (Nat.le_refl _) _⟩
/-- A list as the program holds it. -/
def ListIn (w : World) (v : Value) : Prop := v = .slice none 0 0 ∨ ∃ (a : Addr) (n c : Nat), v = .slice (some a) n c ∧ n ≤ c ∧ c ≤ 9223372036854775807 ∧ Ints w (some a) n
theorem new_any (w : World) (v : Value) (h : ListIn w v) : Calls Tryd.prog 6 #[v] w (News w) := by
  rcases h with rfl | ⟨a, n, c, rfl, h1, h2, h3⟩
  · exact new_none w
  · exact new_some w a n c h1 h2 h3
theorem Ints.under {W W' : World} {A : Option Addr} {n : Nat} (h : Ints W A n) (hb : Below W.heap.size W W') : Ints W' A n := fun i hi => by
  obtain ⟨bk, off, x, e, hlt, hc, hx⟩ := h i hi
  exact ⟨bk, off, x, e, Nat.lt_of_lt_of_le hlt hb.size, (hb.cell (p := ⟨bk, off + i, none⟩) hlt).trans hc, hx⟩
theorem ListIn.under {W W' : World} {v : Value} (h : ListIn W v) (hb : Below W.heap.size W W') : ListIn W' v := by
  rcases h with rfl | ⟨a, n, c, rfl, h1, h2, h3⟩
  · exact .inl rfl
  · exact .inr ⟨a, n, c, rfl, h1, h2, h3.under hb⟩
end Go.Proofs.YtngbjccfmglbaaaDoor


