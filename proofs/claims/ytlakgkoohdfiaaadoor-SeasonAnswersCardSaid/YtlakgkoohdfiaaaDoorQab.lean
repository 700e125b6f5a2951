/- Texts of this proof. -/
import Derived.Test.YtlakgkoohdfiaaaDoorQaa
import Derived.Laws.OwnMore
import Derived.OpenShut
import Derived.Outline
import Derived.Test.YtlakgkoohdfiaaaDoorQam
import Derived.WalkKit
import Derived.WalkSpells
import Derived.WalkLawsBesides
import Derived.Deep.QuietTactic
import Derived.BigQuiet
import Derived.Lib.Hide
import Derived.Lib.SmallJoins
namespace Go.Proofs.YtlakgkoohdfiaaaDoor
open Go.RowKit

theorem grown_below {a b : World} {r : Option Nat} (h : Below a.heap.size a b) : a.grownBy b r := ⟨h.os, h.tape, h.output, h.size, fun i hi _ => h.block i hi⟩
/-- An int64. -/
def I64 (x : Int) : Prop := -9223372036854775808 ≤ x ∧ x ≤ 9223372036854775807
theorem tmod_neg {x n : Int} (h0 : ¬ 0 ≤ x) (h1 : 1 ≤ n) : -n < x.tmod n ∧ x.tmod n ≤ 0 ∧ (x.tmod n < 0 → x.tmod n + n = x % n) ∧ (¬ x.tmod n < 0 → x.tmod n = x % n) := by
  have a := Int.lt_tmod_of_pos x (by omega : 0 < n)
  have c := Int.emod_nonneg x (by omega : n ≠ 0)
  have d := Int.emod_lt_of_pos x (by omega : 0 < n)
  have e : x.tmod n = x % n - ↑(if 0 ≤ x ∨ n ∣ x then 0 else n.natAbs) := Int.tmod_eq_emod
  by_cases hd : n ∣ x
  · rw [if_pos (.inr hd)] at e
    have := Int.emod_eq_zero_of_dvd hd
    omega
  · rw [if_neg (fun h => h.elim h0 hd)] at e
    have : x % n ≠ 0 := fun h => hd (Int.dvd_of_emod_eq_zero h)
    omega
set_option maxHeartbeats 400000 in
theorem mod_any (x n : Int) (w : World) (hx : I64 x) (h1 : 1 ≤ n) (h2 : n ≤ 100000000000) :
    Calls Tryd.prog 46 #[.int .i64 x, .int .i64 n] w fun e w' => e = .returned (.int .i64 (x % n)) ∧ w = w' := by
  obtain ⟨hx1, hx2⟩ := hx
  by_cases h0 : 0 ≤ x
  · have c := Int.emod_nonneg x (by omega : n ≠ 0)
    go_enter Tryd.func46, Tryd.ntmps46
    go_wp2
    go_ret
    exact ⟨rfl, rfl⟩
  · obtain ⟨a, b, c, d⟩ := tmod_neg h0 h1
    by_cases h3 : x.tmod n < 0
    · have C := Lib.hid (c h3); clear c d
      go_enter Tryd.func46, Tryd.ntmps46
      go_wp2
      go_ret
      exact ⟨ret_i64 C.out, rfl⟩
    · have D := Lib.hid (d h3); clear c d
      go_enter Tryd.func46, Tryd.ntmps46
      go_wp2
      go_ret
      exact ⟨ret_i64 D.out, rfl⟩
/-- The first n numbers of a list that lies in W. -/
def Ints (W : World) (A : Option Addr) (n : Nat) : Prop := ∀ i, i < n → ∃ bk off x, A = some ⟨bk, off, none⟩ ∧ bk < W.heap.size ∧ W.cell? ⟨bk, off + i, none⟩ = some (.int .i64 x) ∧ I64 x
/-- Block b holds a reader, made since the world W; below W's end nothing has turned. -/
structure Src (W : World) (b : Nat) (w : World) : Prop where
  base : W.heap.size ≤ b
  below : Below W.heap.size W w
  row : ∃ (A : Option Addr) (n c k : Nat), k ≤ n ∧ n ≤ 2000 ∧ w.heap[b]? = some (.cells #[.slice A n c, .int .i64 k] 87 (0, 0)) ∧ Ints W A n

theorem Src.under {W w w' : World} {b : Nat} (h : Src W b w) (hb : Below w.heap.size w w') : Src W b w' := by
  obtain ⟨A, n, c, k, h1, h2, h3, h4⟩ := h.row
  have hlt : b < w.heap.size := by
    rcases Nat.lt_or_ge b w.heap.size with hlt | hge
    · exact hlt
    · rw [Array.getElem?_eq_none hge] at h3; cases h3
  exact ⟨h.base, h.below.trans (hb.mono h.below.size), A, n, c, k, h1, h2, (hb.block b hlt).trans h3, h4⟩
theorem grown_refl (w : World) (r : Option Nat) : w.grownBy w r := ⟨rfl, rfl, rfl, Nat.le_refl _, fun _ _ _ => rfl⟩
theorem grown_trans {a b c : World} {r : Option Nat} (h : a.grownBy b r) (k : b.grownBy c r) : a.grownBy c r :=
  ⟨k.os.trans h.os, k.tape.trans h.tape, k.output.trans h.output, Nat.le_trans h.size k.size, fun i hi hr => (k.block i (Nat.lt_of_lt_of_le hi h.size) hr).trans (h.block i hi hr)⟩
theorem below_grown {a b c : World} {B g : Nat} (h : Below B a b) (k : b.grownBy c (some g)) (hg : B ≤ g) (hB : B ≤ b.heap.size) : Below B a c :=
  ⟨k.os.trans h.os, k.tape.trans h.tape, k.output.trans h.output, Nat.le_trans h.size k.size, fun i hi => (k.block i (by omega) (by simp; omega)).trans (h.block i hi)⟩

/-- What a call on the reader leaves: a number that meets p, the reader as it should be, and nothing but the reader's block turned. -/
def Reads (p : Int → Prop) (W : World) (b : Nat) (w : World) (e : Ending) (w' : World) : Prop := ∃ x, p x ∧ e = .returned (.int .i64 x) ∧ Src W b w' ∧ w.grownBy w' (some b)

theorem set_row {w : World} {b n c k : Nat} {A : Option Addr} {v : Value} (h : w.heap[b]? = some (.cells #[.slice A n c, .int .i64 k] 87 (0, 0))) (p q : Nat) :
    (((w.drewN p).setCell ⟨b, 1, none⟩ v).drewN q).heap[b]? = some (.cells #[.slice A n c, v] 87 (0, 0)) ∧ w.grownBy (((w.drewN p).setCell ⟨b, 1, none⟩ v).drewN q) (some b) := by
  constructor
  · show ((w.drewN p).setCell ⟨b, 1, none⟩ v).heap[b]? = _
    simp [World.setCell, Array.getElem?_modify, h]
  · have hb : Below 0 w ((w.drewN p).setCell ⟨b, 1, none⟩ v) := ⟨rfl, rfl, rfl, by simp [World.setCell], fun i hi => by omega⟩
    exact ⟨hb.os, hb.tape, hb.output, hb.size, fun i _ hne => Below.heap_setCell (w.drewN p) ⟨b, 1, none⟩ v i (fun e => hne (by rw [e]))⟩

set_option maxHeartbeats 400000 in
theorem raw_any (W : World) (b : Nat) (w : World) (h : Src W b w) :
    Calls Tryd.prog 49 #[.pointer (some ⟨b, 0, none⟩)] w (Reads I64 W b w) := by
  obtain ⟨A, n, c, k, h1, h2, h3, h4⟩ := h.row
  have c0 : w.cell? ⟨b, 0, none⟩ = some (.slice A n c) := by simp [World.cell?, h3]
  have c1 : w.cell? ⟨b, 1, none⟩ = some (.int .i64 k) := by simp [World.cell?, h3]
  have f1 : w.frozen? ⟨b, 1, none⟩ = false := by simp [World.frozen?, h3]
  by_cases hk : k < n
  · obtain ⟨bk, off, x, rfl, hlt, hx, hi⟩ := h4 k hk
    have hbb := h.base
    have hne : bk < b := by omega
    have cx : w.cell? ⟨bk, off + k, none⟩ = some (.int .i64 x) := (h.below.cell (p := ⟨bk, off + k, none⟩) hlt).trans hx
    have hS := h; have H3 := Lib.hid h3; clear h3 h hx hbb hlt
    have H4 := Lib.hid h4; clear h4
    go_enter Tryd.func49, Tryd.ntmps49
    go_wp2
    go_quiet (fail)
    go_wp2
    go_quiet (fail)
    go_wp2
    go_ret
    exact ⟨x, hi, rfl, ⟨hS.base, below_grown hS.below (set_row H3.out _ _).2 hS.base hS.below.size, _, n, c, k + 1, by omega, h2, (set_row H3.out _ _).1, H4.out⟩, (set_row H3.out _ _).2⟩
  · have hkn : k = n := by omega
    subst hkn
    have hS := h; clear h3 h h4
    go_enter Tryd.func49, Tryd.ntmps49
    go_wp2
    go_quiet (fail)
    go_wp2
    go_ret
    exact ⟨0, ⟨by omega, by omega⟩, rfl, hS.under ⟨rfl, rfl, rfl, Nat.le_refl _, fun _ _ => rfl⟩, grown_below ⟨rfl, rfl, rfl, Nat.le_refl _, fun _ _ => rfl⟩⟩

set_option maxHeartbeats 400000 in
theorem n_any (W : World) (b : Nat) (w : World) (n : Int) (h : Src W b w) (n1 : 1 ≤ n) (n2 : n ≤ 100000000000) :
    Calls Tryd.prog 32 #[.pointer (some ⟨b, 0, none⟩), .int .i64 n] w (Reads (fun x => 0 ≤ x ∧ x < n) W b w) := by
  go_enter Tryd.func32, Tryd.ntmps32
  go_wp2_with fail
  refine (raw_any W b _ h).mono ?_
  rintro e w1 ⟨x, hx, rfl, hs, hg⟩
  go_wp2_with fail
  refine (mod_any _ _ _ hx n1 n2).mono ?_
  rintro e w2 ⟨rfl, rfl⟩
  go_wp2_with fail
  go_ret
  exact ⟨x % n, ⟨Int.emod_nonneg x (by omega), Int.emod_lt_of_pos x (by omega)⟩, rfl, hs, hg⟩

set_option maxHeartbeats 400000 in
theorem range_any (W : World) (b : Nat) (w : World) (lo hi : Int) (h : Src W b w) (n1 : lo ≤ hi) (n2 : hi - lo ≤ 90000000) (l1 : -1000000000 ≤ lo) (l2 : lo ≤ 1000000000) :
    Calls Tryd.prog 25 #[.pointer (some ⟨b, 0, none⟩), .int .i64 lo, .int .i64 hi] w (Reads (fun x => lo ≤ x ∧ x ≤ hi) W b w) := by
  go_enter Tryd.func25, Tryd.ntmps25
  go_wp2_with fail
  refine (n_any W b _ _ h (by omega) (by omega)).mono ?_
  rintro e w1 ⟨x, ⟨x1, x2⟩, rfl, hs, hg⟩
  go_wp2_with fail
  go_ret
  exact ⟨lo + x, ⟨by omega, by omega⟩, rfl, hs, hg⟩

set_option maxHeartbeats 400000 in
theorem pick_any (p : Int → Prop) (W : World) (b : Nat) (w : World) (g n c : Nat) (h : Src W b w) (n1 : 1 ≤ n) (n2 : n ≤ 1000) (hgb : g ≠ b) (hgl : g < w.heap.size)
    (hp : ∀ i, i < n → ∃ x, w.cell? ⟨g, i, none⟩ = some (.int .i64 x) ∧ p x) :
    Calls Tryd.prog 50 #[.pointer (some ⟨b, 0, none⟩), .slice (some ⟨g, 0, none⟩) n c] w (Reads p W b w) := by
  have HP := Lib.hid hp; clear hp
  go_enter Tryd.func50, Tryd.ntmps50
  go_wp2_with fail
  refine (n_any W b _ _ h (by omega) (by omega)).mono ?_
  rintro e w1 ⟨x, ⟨x1, x2⟩, rfl, hs, hg⟩
  obtain ⟨k, rfl⟩ := Int.eq_ofNat_of_zero_le x1
  obtain ⟨v, hv, hpv⟩ := HP.out k (by omega)
  have hc : w1.cell? ⟨g, k, none⟩ = some (.int .i64 v) := (World.cell?_of_block (hg.block g hgl (by simpa using hgb))).trans hv
  clear hv
  go_wp2_with fail
  go_ret
  exact ⟨v, hpv, rfl, hs, hg⟩

/-- What New leaves: a reader in a new block. -/
def News (W : World) (e : Ending) (w' : World) : Prop := e = .returned (.pointer (some ⟨W.heap.size, 0, none⟩)) ∧ Src W W.heap.size w' ∧ Below W.heap.size W w'
theorem Ints.less {W : World} {A : Option Addr} {n m : Nat} (h : Ints W A n) (hm : m ≤ n) : Ints W A m := fun i hi => h i (by omega)
theorem new_src {w : World} {A : Option Addr} {n c : Nat} (hn : n ≤ 2000) (hI : Ints w A n) : Src w w.heap.size (w.alloc (.cells #[.slice A n c, .int .i64 0] 87)) :=
  ⟨Nat.le_refl _, (Below.refl _ _).alloc (Nat.le_refl _) _, A, n, c, 0, Nat.zero_le _, hn, heap_alloc_new w _, hI⟩
set_option maxHeartbeats 400000 in
theorem new_none (w : World) :
    Calls Tryd.prog 13 #[.slice none 0 0] w (News w) := by
  go_enter Tryd.func13, Tryd.ntmps13
  go_wp2
  go_ret
  exact ⟨rfl, new_src (by omega) (fun i hi => by omega), (Below.refl _ _).alloc (Nat.le_refl _) _⟩
set_option maxHeartbeats 400000 in
theorem new_some (w : World) (a : Addr) (n c : Nat) (hc : n ≤ c) (_hm : c ≤ 9223372036854775807) (hI : Ints w (some a) n) :
    Calls Tryd.prog 13 #[.slice (some a) n c] w (News w) := by
  go_enter Tryd.func13, Tryd.ntmps13
  go_wp2
  all_goals
    go_ret
    exact ⟨rfl, new_src (by omega) (hI.less (by omega)), (Below.refl _ _).alloc (Nat.le_refl _) _⟩
/-- A list as the program holds it. -/
def ListIn (w : World) (v : Value) : Prop := v = .slice none 0 0 ∨ ∃ (a : Addr) (n c : Nat), v = .slice (some a) n c ∧ n ≤ c ∧ c ≤ 9223372036854775807 ∧ Ints w (some a) n
theorem new_any (w : World) (v : Value) (h : ListIn w v) : Calls Tryd.prog 13 #[v] w (News w) := by
  rcases h with rfl | ⟨a, n, c, rfl, h1, h2, h3⟩
  · exact new_none w
  · exact new_some w a n c h1 h2 h3
theorem Ints.under {W W' : World} {A : Option Addr} {n : Nat} (h : Ints W A n) (hb : Below W.heap.size W W') : Ints W' A n := fun i hi => by
  obtain ⟨bk, off, x, e, hlt, hc, hx⟩ := h i hi
  exact ⟨bk, off, x, e, Nat.lt_of_lt_of_le hlt hb.size, (hb.cell (p := ⟨bk, off + i, none⟩) hlt).trans hc, hx⟩
theorem ListIn.under {W W' : World} {v : Value} (h : ListIn W v) (hb : Below W.heap.size W W') : ListIn W' v := by
  rcases h with rfl | ⟨a, n, c, rfl, h1, h2, h3⟩
  · exact .inl rfl
  · exact .inr ⟨a, n, c, rfl, h1, h2, h3.under hb⟩
end Go.Proofs.YtlakgkoohdfiaaaDoor


namespace Go.Proofs.YtlakgkoohdfiaaaDoor.Ck
open Go.RowKit

/-- The table of the months' lengths lies in its variable. -/
def lens : List Int := [31, 28, 31, 30, 31, 30, 31, 31, 30, 31, 30, 31]
def Tab (w : World) : Prop := ∀ i : Nat, i < 12 → w.cell? ⟨1, i, none⟩ = some (.int .i64 (lens.getD i 0))
theorem lens_dim (y m : Int) (h1 : 1 ≤ m) (h2 : m ≤ 12) (h : ¬ (m = 2 ∧ y % 4 = 0)) : lens.getD (m.toNat - 1) 0 = Cal.dim y m := by
  have h : m = 1 ∨ m = 2 ∨ m = 3 ∨ m = 4 ∨ m = 5 ∨ m = 6 ∨ m = 7 ∨ m = 8 ∨ m = 9 ∨ m = 10 ∨ m = 11 ∨ m = 12 := by omega
  rcases h with h | h | h | h | h | h | h | h | h | h | h | h <;> subst h <;> simp_all [Cal.dim, Cal.leap, lens]

set_option maxHeartbeats 400000 in
theorem inRange_any (n : Int) (w : World) :
    Calls Tryd.prog 119 #[.int .i64 n] w fun e w' => e = .returned (.bool (Cal.rng n)) ∧ w = w' := by
  by_cases h1 : 0 ≤ n
  · by_cases h2 : n ≤ 52595999
    all_goals
      go_enter Tryd.func119, Tryd.ntmps119
      go_wp2
      go_ret
      exact ⟨by simp [Cal.rng]; omega, rfl⟩
  · go_enter Tryd.func119, Tryd.ntmps119
    go_wp2
    go_ret
    exact ⟨by simp [Cal.rng]; omega, rfl⟩
set_option maxHeartbeats 400000 in
theorem refIn_any (n : Int) (w : World) :
    Calls Tryd.prog 70 #[.int .i64 n] w fun e w' => e = .returned (.bool (Cal.rng n)) ∧ w = w' := by
  by_cases h1 : 0 ≤ n
  · by_cases h2 : n ≤ 52595999
    all_goals
      go_enter Tryd.func70, Tryd.ntmps70
      go_wp2
      go_ret
      exact ⟨by simp [Cal.rng]; omega, rfl⟩
  · go_enter Tryd.func70, Tryd.ntmps70
    go_wp2
    go_ret
    exact ⟨by simp [Cal.rng]; omega, rfl⟩

set_option maxHeartbeats 400000 in
theorem days_any (y m : Int) (w : World) (hT : Tab w) :
    Calls Tryd.prog 121 #[.int .i64 y, .int .i64 m] w fun e w' => e = .returned (.int .i64 (Cal.days y m)) ∧ w = w' := by
  by_cases hin : 2000 ≤ y ∧ y ≤ 2099 ∧ 1 ≤ m ∧ m ≤ 12
  · obtain ⟨h1, h2, h3, h4⟩ := hin
    have hd := Cal.days_in ⟨h1, h2, h3, h4⟩
    by_cases hm : m = 2
    · subst hm
      by_cases hy : y % 4 = 0
      · have H := Lib.hid hy; clear hy
        have e1 : Cal.days y 2 = 29 := by rw [hd]; unfold Cal.dim Cal.leap; rw [if_pos rfl, if_pos H.out]; omega
        have E := Lib.hid e1; clear e1 hd
        have hb : (y % 4 == 0) = true := beq_iff_eq.2 H.out
        go_enter Tryd.func121, Tryd.ntmps121
        go_wp2
        go_ret
        exact ⟨ret_i64 E.out.symm, rfl⟩
      · have e1 : Cal.days y 2 = 28 := by rw [hd]; unfold Cal.dim Cal.leap; rw [if_pos rfl, if_neg hy]; omega
        have E := Lib.hid e1; clear e1 hd
        have hb : (y % 4 == 0) = false := beq_eq_false_iff_ne.2 hy
        have hc := hT 1 (by omega)
        clear hy
        go_enter Tryd.func121, Tryd.ntmps121
        go_wp2
        go_ret
        exact ⟨ret_i64 E.out.symm, rfl⟩
    · have e1 := lens_dim y m h3 h4 (fun h => hm h.1)
      have e2 : Cal.days y m = lens.getD (m.toNat - 1) 0 := by rw [hd, e1]
      have E := Lib.hid e2; clear e1 e2 hd
      have hc := hT (m.toNat - 1) (by omega)
      have hb : (m == 2) = false := beq_eq_false_iff_ne.2 hm
      clear hm
      go_enter Tryd.func121, Tryd.ntmps121
      go_wp2
      go_ret
      exact ⟨ret_i64 E.out.symm, rfl⟩
  · have E := Lib.hid (Cal.days_out hin)
    by_cases h1 : y < 2000
    · go_enter Tryd.func121, Tryd.ntmps121
      go_wp2
      go_ret
      exact ⟨ret_i64 E.out.symm, rfl⟩
    · by_cases h2 : 2099 < y
      · go_enter Tryd.func121, Tryd.ntmps121
        go_wp2
        go_ret
        exact ⟨ret_i64 E.out.symm, rfl⟩
      · by_cases h3 : m < 1
        · go_enter Tryd.func121, Tryd.ntmps121
          go_wp2
          go_ret
          exact ⟨ret_i64 E.out.symm, rfl⟩
        · have h4 : 12 < m := by omega
          clear hin
          go_enter Tryd.func121, Tryd.ntmps121
          go_wp2
          go_ret
          exact ⟨ret_i64 E.out.symm, rfl⟩

set_option maxHeartbeats 400000 in
theorem daysBefore_any (y : Int) (w : World) (h1 : 2000 ≤ y) (h2 : y ≤ 2100) :
    Calls Tryd.prog 120 #[.int .i64 y] w fun e w' => e = .returned (.int .i64 (Cal.dby y)) ∧ w = w' := by
  go_enter Tryd.func120, Tryd.ntmps120
  go_wp2
  go_ret
  exact ⟨ret_i64 (by unfold Cal.dby; omega), rfl⟩
end Go.Proofs.YtlakgkoohdfiaaaDoor.Ck


namespace Go.Proofs.YtlakgkoohdfiaaaDoor.Ck
open Go.RowKit

theorem quiet_left {P : Program} {f : FuncId} {args : Array Value} {w : World} {n : Nat} {v : Value}
    (h : Calls P f args (w.drewN n) fun e w' => e = .returned v ∧ w.drewN n = w') : Calls P f args (w.drewN n) fun e w'' => e = .returned v ∧ ∃ m, w'' = w.drewN m :=
  h.mono fun _ _ ⟨he, hm⟩ => ⟨he, n, hm.symm⟩
theorem Tab.pos {w : World} (h : Tab w) : 1 < w.heap.size := World.block_lt_of_cell? w ⟨1, 0, none⟩ (h 0 (by omega))
theorem Tab.below {w w' : World} {B : Nat} (h : Tab w) (hb : Below B w w') (hB : 1 < B) : Tab w' := fun i hi => (hb.cell (p := ⟨1, i, none⟩) hB).trans (h i hi)
theorem Tab.under {w w' : World} (h : Tab w) (hb : Below w.heap.size w w') : Tab w' := h.below hb h.pos
theorem Tab.alloc {w : World} (h : Tab w) (o : Obj) : Tab (w.alloc o) := h.under ((Below.refl _ _).alloc (Nat.le_refl _) o)
theorem Tab.drewN {w : World} (h : Tab w) (n : Nat) : Tab (w.drewN n) := h

/-- A struct of five cells that the call has boxed, behind a callee. -/
theorem box5 {w w1 : World} {a b c d e : Value} {t : TypeId} (hb : Below (w.alloc (.cells #[a, b, c, d, e] t)).heap.size (w.alloc (.cells #[a, b, c, d, e] t)) w1) :
    (w1.cell? ⟨w.heap.size, 0, none⟩ = some a ∧ w1.cell? ⟨w.heap.size, 1, none⟩ = some b ∧ w1.cell? ⟨w.heap.size, 2, none⟩ = some c ∧ w1.cell? ⟨w.heap.size, 3, none⟩ = some d ∧ w1.cell? ⟨w.heap.size, 4, none⟩ = some e) ∧ Below w.heap.size w w1 := by
  have key : ∀ i, w1.cell? ⟨w.heap.size, i, none⟩ = (w.alloc (.cells #[a, b, c, d, e] t)).cell? ⟨w.heap.size, i, none⟩ := fun i => hb.cell (p := ⟨w.heap.size, i, none⟩) (by simp)
  refine ⟨⟨?_, ?_, ?_, ?_, ?_⟩, ((Below.refl _ _).alloc (Nat.le_refl _) _).trans (hb.mono (by simp))⟩
  all_goals (rw [key]; go_simp)
/-- A date as the program holds it. -/
def civil (y m d h i : Int) : Value := .agg #[.int .i64 y, .int .i64 m, .int .i64 d, .int .i64 h, .int .i64 i]

theorem ret_i2 {a b c : Int} (h : a = b) : Ending.returned (.tuple #[.int .i64 a, .int .i64 c]) = .returned (.tuple #[.int .i64 b, .int .i64 c]) := by rw [h]
set_option maxHeartbeats 400000 in
theorem date_no (n : Int) (w : World) (hr : Cal.rng n = false) :
    Calls Tryd.prog 95 #[.int .i64 n] w fun e w' => e = .returned (.tuple #[.agg #[.int .i64 0, .int .i64 0, .int .i64 0, .int .i64 0, .int .i64 0], .int .i64 1]) ∧ Below w.heap.size w w' := by
  go_enter Tryd.func95, Tryd.ntmps95
  go_wp2_with (go_at_call 119; refine (inRange_any _ _).mono ?_; rintro e w1 ⟨rfl, rfl⟩)
  exact bodyPost_ret (v := .tuple #[.agg #[.int .i64 0, .int .i64 0, .int .i64 0, .int .i64 0, .int .i64 0], .int .i64 1]) (by simp [results, Tryd.results95, go_sem]) rfl ⟨rfl, (Below.refl _ _).alloc (Nat.le_refl _) _⟩
theorem ret_civil {a b c d e a' b' c' d' e' : Int} (h1 : a = a') (h2 : b = b') (h3 : c = c') (h4 : d = d') (h5 : e = e') :
    Ending.returned (.tuple #[.agg #[.int .i64 a, .int .i64 b, .int .i64 c, .int .i64 d, .int .i64 e], .int .i64 0]) = .returned (.tuple #[.agg #[.int .i64 a', .int .i64 b', .int .i64 c', .int .i64 d', .int .i64 e'], .int .i64 0]) := by rw [h1, h2, h3, h4, h5]
set_option maxHeartbeats 400000 in
theorem date_yes (n y m d h i : Int) (w : World) (hT : Tab w) (hn : Cal.num y m d h i = n) (hv : Cal.vld y m d h i = true) :
    Calls Tryd.prog 95 #[.int .i64 n] w fun e w' => e = .returned (.tuple #[.agg #[.int .i64 y, .int .i64 m, .int .i64 d, .int .i64 h, .int .i64 i], .int .i64 0]) ∧ Below w.heap.size w w' := by
  obtain ⟨n1, n2⟩ := Cal.num_bd hv
  obtain ⟨⟨a1, a2, a3, a4⟩, a5, a6, a7, a8, a9, a10⟩ := Cal.vld_iff.1 hv
  obtain ⟨p1, p2⟩ := Cal.dnum_bd ⟨a1, a2⟩ ⟨a3, a4⟩ ⟨a5, a6⟩
  have p3 := Cal.num_dnum y m d h i
  rw [hn] at n1 n2 p3
  have q1 : n / 1440 = Cal.dnum y m d := by omega
  have q2 : n % 1440 = h * 60 + i := by omega
  have q3 : 2000 + 4 * Cal.dnum y m d / 1461 = y := Cal.year_of ⟨a1, a2⟩ ⟨a3, a4⟩ ⟨a5, a6⟩
  have r1 : (h * 60 + i) / 60 = h := by omega
  have r2 : (h * 60 + i) % 60 = i := by omega
  have hr : Cal.rng n = true := Cal.rng_yes n1 n2
  have c3 := Cal.dby_bd y (by omega) (by omega)
  have D := Lib.hid (show Cal.dnum y m d = Cal.dby y + Cal.cum y m + d - 1 from rfl)
  generalize Cal.dnum y m d = t at *
  clear p3 hn
  have ht := hT.alloc (.cells #[.int .i64 0, .int .i64 0, .int .i64 0, .int .i64 0, .int .i64 0] 113)
  go_enter Tryd.func95, Tryd.ntmps95
  go_wp2_with (first | (go_at_call 119; refine (inRange_any _ _).mono ?_; rintro e w1 ⟨rfl, rfl⟩) | (go_at_call 120; refine (daysBefore_any _ _ (by omega) (by omega)).mono ?_; rintro e w1 ⟨rfl, rfl⟩))
  clear q1 q2 q3
  go_loop [4, 7] (fun s q => ∃ k : Int, 1 ≤ k ∧ k ≤ m ∧ q = .int .i64 k ∧ s = .int .i64 (t - Cal.dby y - Cal.cum y k)) (fun _ q => (13 - intOf q).toNat)
  case atStart => exact ⟨1, by omega, by omega, rfl, by rw [Cal.cum_one]; congr 1; omega⟩
  case round =>
    obtain ⟨k, hk1, hk2, rfl, rfl⟩ := hrel
    have c4 := Cal.cum_bd y k (by omega) (by omega)
    have c5 := Cal.dim_bd y k
    have C := Lib.hid (Cal.cum_succ y k hk1 (by omega))
    have hd := Cal.days_in ⟨a1, a2, hk1, (by omega : k ≤ 12)⟩
    by_cases hlt : k < m
    · have hge : Cal.dim y k ≤ t - Cal.dby y - Cal.cum y k := by
        have e1 := Cal.cum_lt y k m hk1 hlt (by omega)
        have e2 := D.out
        omega
      go_wp2_with (go_at_call 121; refine (days_any _ _ _ ht).mono ?_; rintro e w2 ⟨rfl, rfl⟩)
      go_round
      case rel => exact ⟨k + 1, by omega, by omega, rfl, by rw [C.out]; congr 1; omega⟩
      case measure => simp [intOf]; omega
    · have hkm : k = m := by omega
      subst hkm
      have hge : t - Cal.dby y - Cal.cum y k < Cal.dim y k := by
        have e2 := D.out
        omega
      have E := Lib.hid (show t - Cal.dby y - Cal.cum y k + 1 = d by have e2 := D.out; omega)
      go_wp2_with (go_at_call 121; refine (days_any _ _ _ ht).mono ?_; rintro e w2 ⟨rfl, rfl⟩)
      refine bodyPost_ret (v := .tuple #[.agg #[.int .i64 y, .int .i64 k, .int .i64 (t - Cal.dby y - Cal.cum y k + 1), .int .i64 h, .int .i64 i], .int .i64 0]) (by simp [results, Tryd.results95, go_sem]) rfl ⟨ret_civil rfl rfl E.out rfl rfl, ?_⟩
      exact (Below.refl _ _).alloc (Nat.le_refl _) _
end Go.Proofs.YtlakgkoohdfiaaaDoor.Ck


namespace Go.Proofs.YtlakgkoohdfiaaaDoor.Ck
open Go.RowKit

theorem Tab.set {w : World} (h : Tab w) {a : Addr} (ha : 1 < a.block) (u : Value) : Tab (w.setCell a u) := fun i hi => (World.cell?_setCell_other w a _ u (fun e => by subst e; exact absurd ha (Nat.lt_irrefl _))).trans (h i hi)
/-- A block of a date, known whole. -/
def Box (w : World) (g : Nat) (y m d h i : Int) : Prop := w.heap[g]? = some (.cells #[.int .i64 y, .int .i64 m, .int .i64 d, .int .i64 h, .int .i64 i] 113 (0, 0))
theorem Box.lt {w : World} {g : Nat} {y m d h i : Int} (hB : Box w g y m d h i) : g < w.heap.size := by
  rcases Nat.lt_or_ge g w.heap.size with hlt | hge
  · exact hlt
  · unfold Box at hB; rw [Array.getElem?_eq_none hge] at hB; cases hB
theorem Box.under {w w' : World} {g : Nat} {y m d h i : Int} (hB : Box w g y m d h i) (hb : Below w.heap.size w w') : Box w' g y m d h i := (hb.block g hB.lt).trans hB
theorem Box.facts {w : World} {g : Nat} {y m d h i : Int} (hB : Box w g y m d h i) :
    (w.cell? ⟨g, 0, none⟩ = some (.int .i64 y) ∧ w.cell? ⟨g, 1, none⟩ = some (.int .i64 m) ∧ w.cell? ⟨g, 2, none⟩ = some (.int .i64 d) ∧ w.cell? ⟨g, 3, none⟩ = some (.int .i64 h) ∧ w.cell? ⟨g, 4, none⟩ = some (.int .i64 i)) ∧
    (w.frozen? ⟨g, 0, none⟩ = false ∧ w.frozen? ⟨g, 1, none⟩ = false ∧ w.frozen? ⟨g, 2, none⟩ = false ∧ w.frozen? ⟨g, 3, none⟩ = false ∧ w.frozen? ⟨g, 4, none⟩ = false) := by
  unfold Box at hB
  simp [World.cell?, World.frozen?, hB]
theorem Box.setAt {w : World} {g : Nat} {y m d h i : Int} (hB : Box w g y m d h i) (j : Nat) (u : Int) :
    (w.setCell ⟨g, j, none⟩ (.int .i64 u)).heap[g]? = some (.cells (#[.int .i64 y, .int .i64 m, .int .i64 d, .int .i64 h, .int .i64 i].setIfInBounds j (.int .i64 u)) 113 (0, 0)) := by
  unfold Box at hB
  simp [World.setCell, Array.getElem?_modify, hB]
section
variable {w : World} {g : Nat} {y m d h i : Int} (hB : Box w g y m d h i) (u : Int)
include hB
theorem Box.set0 : Box (w.setCell ⟨g, 0, none⟩ (.int .i64 u)) g u m d h i := hB.setAt 0 u
theorem Box.set1 : Box (w.setCell ⟨g, 1, none⟩ (.int .i64 u)) g y u d h i := hB.setAt 1 u
theorem Box.set2 : Box (w.setCell ⟨g, 2, none⟩ (.int .i64 u)) g y m u h i := hB.setAt 2 u
theorem Box.set3 : Box (w.setCell ⟨g, 3, none⟩ (.int .i64 u)) g y m d u i := hB.setAt 3 u
theorem Box.set4 : Box (w.setCell ⟨g, 4, none⟩ (.int .i64 u)) g y m d h u := hB.setAt 4 u
theorem Box.alloc (o : Obj) : Box (w.alloc o) g y m d h i := (Below.heap_alloc w o g hB.lt).trans hB
end
theorem Box.newAt {w : World} {g : Nat} (hg : w.heap.size = g) (y m d h i : Int) : Box (w.alloc (.cells #[.int .i64 y, .int .i64 m, .int .i64 d, .int .i64 h, .int .i64 i] 113)) g y m d h i := hg ▸ heap_alloc_new w _
theorem Box.far {w : World} {g : Nat} {y m d h i : Int} (hB : Box w g y m d h i) {p : Addr} (hp : p.block ≠ g) (u : Value) : Box (w.setCell p u) g y m d h i := (Below.heap_setCell w p u g (Ne.symm hp)).trans hB
theorem Box.drewN {w : World} {g : Nat} {y m d h i : Int} (hB : Box w g y m d h i) (n : Nat) : Box (w.drewN n) g y m d h i := hB
/-- What stays known of the world while the date is counted on: nothing old has turned, and both dates' blocks. -/
structure Two (W : World) (g g' : Nat) (y m d h i y' m' d' h' i' : Int) (w : World) : Prop where
  below : Below W.heap.size W w
  base : W.heap.size ≤ g
  ne : g ≠ g'
  one : Box w g y m d h i
  two : Box w g' y' m' d' h' i'
section
variable {W w : World} {g g' : Nat} {y m d h i y' m' d' h' i' : Int}
theorem Two.frozen (t : Two W g g' y m d h i y' m' d' h' i' w) : w.frozen? ⟨g', 0, none⟩ = false ∧ w.frozen? ⟨g', 1, none⟩ = false ∧ w.frozen? ⟨g', 2, none⟩ = false ∧ w.frozen? ⟨g', 3, none⟩ = false ∧ w.frozen? ⟨g', 4, none⟩ = false := t.two.facts.2
theorem Two.facts (t : Two W g g' y m d h i y' m' d' h' i' w) :
    ((w.cell? ⟨g, 0, none⟩ = some (.int .i64 y) ∧ w.cell? ⟨g, 1, none⟩ = some (.int .i64 m) ∧ w.cell? ⟨g, 2, none⟩ = some (.int .i64 d) ∧ w.cell? ⟨g, 3, none⟩ = some (.int .i64 h) ∧ w.cell? ⟨g, 4, none⟩ = some (.int .i64 i)) ∧
    (w.frozen? ⟨g, 0, none⟩ = false ∧ w.frozen? ⟨g, 1, none⟩ = false ∧ w.frozen? ⟨g, 2, none⟩ = false ∧ w.frozen? ⟨g, 3, none⟩ = false ∧ w.frozen? ⟨g, 4, none⟩ = false)) ∧
    (w.cell? ⟨g', 0, none⟩ = some (.int .i64 y') ∧ w.cell? ⟨g', 1, none⟩ = some (.int .i64 m') ∧ w.cell? ⟨g', 2, none⟩ = some (.int .i64 d') ∧ w.cell? ⟨g', 3, none⟩ = some (.int .i64 h') ∧ w.cell? ⟨g', 4, none⟩ = some (.int .i64 i')) := ⟨t.one.facts, t.two.facts.1⟩
theorem Two.drewN (t : Two W g g' y m d h i y' m' d' h' i' w) (n : Nat) : Two W g g' y m d h i y' m' d' h' i' (w.drewN n) := ⟨below_drewN t.below n, t.base, t.ne, t.one.drewN n, t.two.drewN n⟩
theorem Two.set0 (t : Two W g g' y m d h i y' m' d' h' i' w) (u : Int) : Two W g g' u m d h i y' m' d' h' i' (w.setCell ⟨g, 0, none⟩ (.int .i64 u)) := ⟨t.below.setCell t.base _, t.base, t.ne, t.one.set0 u, t.two.far t.ne _⟩
theorem Two.set1 (t : Two W g g' y m d h i y' m' d' h' i' w) (u : Int) : Two W g g' y u d h i y' m' d' h' i' (w.setCell ⟨g, 1, none⟩ (.int .i64 u)) := ⟨t.below.setCell t.base _, t.base, t.ne, t.one.set1 u, t.two.far t.ne _⟩
theorem Two.set2 (t : Two W g g' y m d h i y' m' d' h' i' w) (u : Int) : Two W g g' y m u h i y' m' d' h' i' (w.setCell ⟨g, 2, none⟩ (.int .i64 u)) := ⟨t.below.setCell t.base _, t.base, t.ne, t.one.set2 u, t.two.far t.ne _⟩
theorem Two.set3 (t : Two W g g' y m d h i y' m' d' h' i' w) (u : Int) : Two W g g' y m d u i y' m' d' h' i' (w.setCell ⟨g, 3, none⟩ (.int .i64 u)) := ⟨t.below.setCell t.base _, t.base, t.ne, t.one.set3 u, t.two.far t.ne _⟩
theorem Two.set4 (t : Two W g g' y m d h i y' m' d' h' i' w) (u : Int) : Two W g g' y m d h u y' m' d' h' i' (w.setCell ⟨g, 4, none⟩ (.int .i64 u)) := ⟨t.below.setCell t.base _, t.base, t.ne, t.one.set4 u, t.two.far t.ne _⟩
end
theorem Box.new (w : World) (y m d h i : Int) : Box (w.alloc (.cells #[.int .i64 y, .int .i64 m, .int .i64 d, .int .i64 h, .int .i64 i] 113)) w.heap.size y m d h i := heap_alloc_new w _

end Go.Proofs.YtlakgkoohdfiaaaDoor.Ck

