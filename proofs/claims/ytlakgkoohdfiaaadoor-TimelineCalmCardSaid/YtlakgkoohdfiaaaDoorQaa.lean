/- Texts of this proof. -/
import Derived.Test.YtlakgkoohdfiaaaDoorChecked
import Derived.WalkKit
import Derived.WalkSpells
import Derived.WalkLawsBesides
import Derived.Deep.QuietTactic
import Derived.BigQuiet
import Derived.Lib.Hide
import Derived.Outline
import Derived.Below
import Derived.Deep.RegionWith
import Derived.Deep.RegionHeld3
import Derived.Deep.Cut
import Derived.Deep.CutRange
import Derived.Deep.Draws
import Derived.Deep.AppendLies
import Derived.Deep.RegionLaw
import Derived.RegionTactic
import Derived.BigRegion
import Derived.StillTailTactics
import Derived.LoopTactic
import Derived.Laws.OwnMore
import Derived.OpenShut
import Derived.IntWalk
import Derived.Laws.Rows
import Derived.Maps.RangeWalk
import Derived.OrdersHeld
namespace Go.Proofs.YtlakgkoohdfiaaaDoor
open Go.RowKit

theorem bcell {W w1 : World} (hb : Below W.heap.size W w1) : (∀ b o, b < W.heap.size → w1.cell? ⟨b, o, none⟩ = W.cell? ⟨b, o, none⟩) ∧ (∀ b o, b < W.heap.size → w1.frozen? ⟨b, o, none⟩ = W.frozen? ⟨b, o, none⟩) :=
  ⟨fun b o h => hb.cell (p := ⟨b, o, none⟩) h, fun b o h => hb.frozen (p := ⟨b, o, none⟩) h⟩
theorem ret_bool {a b : Bool} (h : a = b) : Ending.returned (.bool a) = .returned (.bool b) := by rw [h]
/-- A text out of its bytes. -/
def S (l : List UInt8) : ByteArray := ⟨l.toArray⟩
theorem S_add (a b : List UInt8) : S a ++ S b = S (a ++ b) := by unfold S; rw [ByteArray.mk_append_mk]
theorem S_size (a : List UInt8) : (S a).size = a.length := by simp [S, ByteArray.size]
theorem S_list (l : List UInt8) : (S l).data.toList = l := by simp [S]
theorem S_of (s : ByteArray) : S s.data.toList = s := by simp [S]
theorem S_inj {a b : List UInt8} (h : S a = S b) : a = b := by rw [← S_list a, h, S_list]
theorem ret_str {a b : ByteArray} (h : a = b) : Ending.returned (.string a) = .returned (.string b) := by rw [h]
theorem ret_str2 {a b : ByteArray} {c : Int} (h : a = b) : Ending.returned (.tuple #[.string a, .int .i64 c]) = .returned (.tuple #[.string b, .int .i64 c]) := by rw [h]
theorem toList_beq (a b : ByteArray) : (a.toList == b.toList) = decide (a = b) := by
  rw [ByteArray.toList_eq, ByteArray.toList_eq, Bool.eq_iff_iff, beq_iff_eq, decide_eq_true_iff]
  exact ⟨fun h => by rw [← S_of a, ← S_of b, h], fun h => by rw [h]⟩
theorem toList_ne {a b : ByteArray} (h : a ≠ b) : (a.toList == b.toList) = false := by rw [toList_beq]; simp [h]
theorem toList_same {a b : ByteArray} (h : a = b) : (a.toList == b.toList) = true := by rw [toList_beq]; simp [h]
theorem ret_i64 {a b : Int} (h : a = b) : Ending.returned (.int .i64 a) = .returned (.int .i64 b) := by rw [h]
end Go.Proofs.YtlakgkoohdfiaaaDoor


namespace Go.Proofs.YtlakgkoohdfiaaaDoor
open Go.RowKit

/-- Block g holds these cells, all of which may be written. -/
def Row (w : World) (g : Nat) (t : TypeId) (cs : Array Value) : Prop := w.heap[g]? = some (.cells cs t (0, 0))
section
variable {w w' : World} {g : Nat} {t : TypeId} {cs : Array Value}
theorem Row.lt (h : Row w g t cs) : g < w.heap.size := (Array.getElem?_eq_some_iff.1 h).1
theorem Row.cell (h : Row w g t cs) (j : Nat) : w.cell? ⟨g, j, none⟩ = cs[j]? := by
  unfold Row at h
  simp [World.cell?, h]
theorem Row.thaw (h : Row w g t cs) (j : Nat) : w.frozen? ⟨g, j, none⟩ = false := by
  unfold Row at h
  simp [World.frozen?, h]
theorem Row.new (w : World) (cs : Array Value) (t : TypeId) : Row (w.alloc (.cells cs t)) w.heap.size t cs := heap_alloc_new w _
theorem Row.newAt (hg : w.heap.size = g) : Row (w.alloc (.cells cs t)) g t cs := hg ▸ heap_alloc_new w _
theorem Row.under (h : Row w g t cs) (hb : Below w.heap.size w w') : Row w' g t cs := (hb.block g h.lt).trans h
theorem Row.grown {r : Option Nat} (h : Row w g t cs) (hb : w.grownBy w' r) (hr : some g ≠ r) : Row w' g t cs := (hb.block g h.lt hr).trans h
theorem Row.drew (h : Row w g t cs) : Row w.drew g t cs := h
theorem Row.drewN (h : Row w g t cs) (n : Nat) : Row (w.drewN n) g t cs := h
theorem Row.alloc (h : Row w g t cs) (o : Obj) : Row (w.alloc o) g t cs := (Below.heap_alloc w o g h.lt).trans h
theorem Row.put (h : Row w g t cs) (j : Nat) (u : Value) : Row (w.setCell ⟨g, j, none⟩ u) g t (cs.setIfInBounds j u) := by
  unfold Row at h ⊢
  simp [World.setCell, Array.getElem?_modify, h]
theorem Row.far (h : Row w g t cs) {p : Addr} (hp : p.block ≠ g) (u : Value) : Row (w.setCell p u) g t cs := (Below.heap_setCell w p u g (Ne.symm hp)).trans h
end
/-- Of the world only what is said here is needed from now on. -/
theorem forget {P : Program} {C : Code} {Q : Exit → Act → World → Prop} {a : Act} {X : World} (R : World → Prop) (hR : R X) (h : ∀ Y, R Y → Code.wp P C Q a Y) : Code.wp P C Q a X := h X hR
theorem undrew {a w : World} (h : Below a.drew.heap.size a.drew w) : Below a.heap.size a w := ⟨h.os, h.tape, h.output, h.size, h.block⟩
theorem below_drewN {B : Nat} {w w' : World} (h : Below B w w') (n : Nat) : Below B w (w'.drewN n) := ⟨h.os, h.tape, h.output, h.size, h.block⟩
/-- The corners' block. -/
theorem row3 {w : World} {b : Nat} {t : TypeId} {x y z : Value} (h : Row w b t #[x, y, z]) :
    w.cell? ⟨b, 0, none⟩ = some x ∧ w.cell? ⟨b, 1, none⟩ = some y ∧ w.cell? ⟨b, 2, none⟩ = some z :=
  ⟨(h.cell 0).trans rfl, (h.cell 1).trans rfl, (h.cell 2).trans rfl⟩
theorem row4 {w : World} {b : Nat} {t : TypeId} {x y z u : Value} (h : Row w b t #[x, y, z, u]) :
    w.cell? ⟨b, 0, none⟩ = some x ∧ w.cell? ⟨b, 1, none⟩ = some y ∧ w.cell? ⟨b, 2, none⟩ = some z ∧ w.cell? ⟨b, 3, none⟩ = some u :=
  ⟨(h.cell 0).trans rfl, (h.cell 1).trans rfl, (h.cell 2).trans rfl, (h.cell 3).trans rfl⟩
theorem set4_row {w : World} {g : Nat} {t : TypeId} {y0 y1 y2 y3 : Value} (u0 u1 u2 u3 : Value) (h : Row w g t #[y0, y1, y2, y3]) :
    Row ((((w.setCell ⟨g, 0, none⟩ u0).setCell ⟨g, 1, none⟩ u1).setCell ⟨g, 2, none⟩ u2).setCell ⟨g, 3, none⟩ u3) g t #[u0, u1, u2, u3] := by
  have h0 : Row (w.setCell ⟨g, 0, none⟩ u0) g t #[u0, y1, y2, y3] := h.put 0 _
  have h1 : Row ((w.setCell ⟨g, 0, none⟩ u0).setCell ⟨g, 1, none⟩ u1) g t #[u0, u1, y2, y3] := h0.put 1 _
  have h2 : Row (((w.setCell ⟨g, 0, none⟩ u0).setCell ⟨g, 1, none⟩ u1).setCell ⟨g, 2, none⟩ u2) g t #[u0, u1, u2, y3] := h1.put 2 _
  exact h2.put 3 _
theorem set4_below {w0 w : World} {B g : Nat} {u0 u1 u2 u3 : Value} (h : Below B w0 w) (hg : B ≤ g) :
    Below B w0 ((((w.setCell ⟨g, 0, none⟩ u0).setCell ⟨g, 1, none⟩ u1).setCell ⟨g, 2, none⟩ u2).setCell ⟨g, 3, none⟩ u3) :=
  (((h.setCell (p := ⟨g, 0, none⟩) hg _).setCell (p := ⟨g, 1, none⟩) hg _).setCell (p := ⟨g, 2, none⟩) hg _).setCell (p := ⟨g, 3, none⟩) hg _
theorem set4_far {w : World} {g x : Nat} {t : TypeId} {cs : Array Value} (u0 u1 u2 u3 : Value) (h : Row w x t cs) (hx : g ≠ x) :
    Row ((((w.setCell ⟨g, 0, none⟩ u0).setCell ⟨g, 1, none⟩ u1).setCell ⟨g, 2, none⟩ u2).setCell ⟨g, 3, none⟩ u3) x t cs :=
  (((h.far (p := ⟨g, 0, none⟩) hx _).far (p := ⟨g, 1, none⟩) hx _).far (p := ⟨g, 2, none⟩) hx _).far (p := ⟨g, 3, none⟩) hx _
theorem set2_row {w : World} {g : Nat} {t : TypeId} {y0 y1 : Value} (u0 u1 : Value) (h : Row w g t #[y0, y1]) :
    Row ((w.setCell ⟨g, 0, none⟩ u0).setCell ⟨g, 1, none⟩ u1) g t #[u0, u1] := by
  have h0 : Row (w.setCell ⟨g, 0, none⟩ u0) g t #[u0, y1] := h.put 0 _
  exact h0.put 1 _
theorem set2_below {w0 w : World} {B g : Nat} {u0 u1 : Value} (h : Below B w0 w) (hg : B ≤ g) : Below B w0 ((w.setCell ⟨g, 0, none⟩ u0).setCell ⟨g, 1, none⟩ u1) :=
  (h.setCell (p := ⟨g, 0, none⟩) hg _).setCell (p := ⟨g, 1, none⟩) hg _
theorem row2 {w : World} {b : Nat} {t : TypeId} {x y : Value} (h : Row w b t #[x, y]) : w.cell? ⟨b, 0, none⟩ = some x ∧ w.cell? ⟨b, 1, none⟩ = some y :=
  ⟨(h.cell 0).trans rfl, (h.cell 1).trans rfl⟩
end Go.Proofs.YtlakgkoohdfiaaaDoor


namespace Go.Proofs.YtlakgkoohdfiaaaDoor
open Go.RowKit

theorem grown_below {a b : World} {r : Option Nat} (h : Below a.heap.size a b) : a.grownBy b r := ⟨h.os, h.tape, h.output, h.size, fun i hi _ => h.block i hi⟩
/-- An int64. -/
def I64 (x : Int) : Prop := -9223372036854775808 ≤ x ∧ x ≤ 9223372036854775807
theorem tmod_neg {x n : Int} (h0 : ¬ 0 ≤ x) (h1 : 1 ≤ n) : -n < x.tmod n ∧ x.tmod n ≤ 0 ∧ (x.tmod n < 0 → x.tmod n + n = x % n) ∧ (¬ x.tmod n < 0 → x.tmod n = x % n) := by
  have a := Int.lt_tmod_of_pos x (by omega : 0 < n)
  have c := Int.emod_nonneg x (by omega : n ≠ 0)
  have d := Int.emod_lt_of_pos x (by omega : 0 < n)
  have e : x.tmod n = x % n - ↑(if 0 ≤ x ∨ n ∣ x then 0 else n.natAbs) := Int.tmod_eq_emod
  by_cases hd : n ∣ x
  · rw [if_pos (.inr hd)] at e
    have := Int.emod_eq_zero_of_dvd hd
    omega
  · rw [if_neg (fun h => h.elim h0 hd)] at e
    have : x % n ≠ 0 := fun h => hd (Int.dvd_of_emod_eq_zero h)
    omega
set_option maxHeartbeats 400000 in
theorem mod_any (x n : Int) (w : World) (hx : I64 x) (h1 : 1 ≤ n) (h2 : n ≤ 100000000000) :
    Calls Tryd.prog 46 #[.int .i64 x, .int .i64 n] w fun e w' => e = .returned (.int .i64 (x % n)) ∧ w = w' := by
  obtain ⟨hx1, hx2⟩ := hx
  by_cases h0 : 0 ≤ x
  · have c := Int.emod_nonneg x (by omega : n ≠ 0)
    go_enter Tryd.func46, Tryd.ntmps46
    go_wp2
    go_ret
    exact ⟨rfl, rfl⟩
  · obtain ⟨a, b, c, d⟩ := tmod_neg h0 h1
    by_cases h3 : x.tmod n < 0
    · have C := Lib.hid (c h3); clear c d
      go_enter Tryd.func46, Tryd.ntmps46
      go_wp2
      go_ret
      exact ⟨ret_i64 C.out, rfl⟩
    · have D := Lib.hid (d h3); clear c d
      go_enter Tryd.func46, Tryd.ntmps46
      go_wp2
      go_ret
      exact ⟨ret_i64 D.out, rfl⟩
/-- The first n numbers of a list that lies in W. -/
def Ints (W : World) (A : Option Addr) (n : Nat) : Prop := ∀ i, i < n → ∃ bk off x, A = some ⟨bk, off, none⟩ ∧ bk < W.heap.size ∧ W.cell? ⟨bk, off + i, none⟩ = some (.int .i64 x) ∧ I64 x
/-- Block b holds a reader, made since the world W; below W's end nothing has turned. -/
structure Src (W : World) (b : Nat) (w : World) : Prop where
  base : W.heap.size ≤ b
  below : Below W.heap.size W w
  row : ∃ (A : Option Addr) (n c k : Nat), k ≤ n ∧ n ≤ 2000 ∧ w.heap[b]? = some (.cells #[.slice A n c, .int .i64 k] 87 (0, 0)) ∧ Ints W A n

theorem Src.under {W w w' : World} {b : Nat} (h : Src W b w) (hb : Below w.heap.size w w') : Src W b w' := by
  obtain ⟨A, n, c, k, h1, h2, h3, h4⟩ := h.row
  have hlt : b < w.heap.size := by
    rcases Nat.lt_or_ge b w.heap.size with hlt | hge
    · exact hlt
    · rw [Array.getElem?_eq_none hge] at h3; cases h3
  exact ⟨h.base, h.below.trans (hb.mono h.below.size), A, n, c, k, h1, h2, (hb.block b hlt).trans h3, h4⟩
theorem grown_refl (w : World) (r : Option Nat) : w.grownBy w r := ⟨rfl, rfl, rfl, Nat.le_refl _, fun _ _ _ => rfl⟩
theorem grown_trans {a b c : World} {r : Option Nat} (h : a.grownBy b r) (k : b.grownBy c r) : a.grownBy c r :=
  ⟨k.os.trans h.os, k.tape.trans h.tape, k.output.trans h.output, Nat.le_trans h.size k.size, fun i hi hr => (k.block i (Nat.lt_of_lt_of_le hi h.size) hr).trans (h.block i hi hr)⟩
theorem below_grown {a b c : World} {B g : Nat} (h : Below B a b) (k : b.grownBy c (some g)) (hg : B ≤ g) (hB : B ≤ b.heap.size) : Below B a c :=
  ⟨k.os.trans h.os, k.tape.trans h.tape, k.output.trans h.output, Nat.le_trans h.size k.size, fun i hi => (k.block i (by omega) (by simp; omega)).trans (h.block i hi)⟩

/-- What a call on the reader leaves: a number that meets p, the reader as it should be, and nothing but the reader's block turned. -/
def Reads (p : Int → Prop) (W : World) (b : Nat) (w : World) (e : Ending) (w' : World) : Prop := ∃ x, p x ∧ e = .returned (.int .i64 x) ∧ Src W b w' ∧ w.grownBy w' (some b)

theorem set_row {w : World} {b n c k : Nat} {A : Option Addr} {v : Value} (h : w.heap[b]? = some (.cells #[.slice A n c, .int .i64 k] 87 (0, 0))) (p q : Nat) :
    (((w.drewN p).setCell ⟨b, 1, none⟩ v).drewN q).heap[b]? = some (.cells #[.slice A n c, v] 87 (0, 0)) ∧ w.grownBy (((w.drewN p).setCell ⟨b, 1, none⟩ v).drewN q) (some b) := by
  constructor
  · show ((w.drewN p).setCell ⟨b, 1, none⟩ v).heap[b]? = _
    simp [World.setCell, Array.getElem?_modify, h]
  · have hb : Below 0 w ((w.drewN p).setCell ⟨b, 1, none⟩ v) := ⟨rfl, rfl, rfl, by simp [World.setCell], fun i hi => by omega⟩
    exact ⟨hb.os, hb.tape, hb.output, hb.size, fun i _ hne => Below.heap_setCell (w.drewN p) ⟨b, 1, none⟩ v i (fun e => hne (by rw [e]))⟩

set_option maxHeartbeats 400000 in
theorem raw_any (W : World) (b : Nat) (w : World) (h : Src W b w) :
    Calls Tryd.prog 49 #[.pointer (some ⟨b, 0, none⟩)] w (Reads I64 W b w) := by
  obtain ⟨A, n, c, k, h1, h2, h3, h4⟩ := h.row
  have c0 : w.cell? ⟨b, 0, none⟩ = some (.slice A n c) := by simp [World.cell?, h3]
  have c1 : w.cell? ⟨b, 1, none⟩ = some (.int .i64 k) := by simp [World.cell?, h3]
  have f1 : w.frozen? ⟨b, 1, none⟩ = false := by simp [World.frozen?, h3]
  by_cases hk : k < n
  · obtain ⟨bk, off, x, rfl, hlt, hx, hi⟩ := h4 k hk
    have hbb := h.base
    have hne : bk < b := by omega
    have cx : w.cell? ⟨bk, off + k, none⟩ = some (.int .i64 x) := (h.below.cell (p := ⟨bk, off + k, none⟩) hlt).trans hx
    have hS := h; have H3 := Lib.hid h3; clear h3 h hx hbb hlt
    have H4 := Lib.hid h4; clear h4
    go_enter Tryd.func49, Tryd.ntmps49
    go_wp2
    go_quiet (fail)
    go_wp2
    go_quiet (fail)
    go_wp2
    go_ret
    exact ⟨x, hi, rfl, ⟨hS.base, below_grown hS.below (set_row H3.out _ _).2 hS.base hS.below.size, _, n, c, k + 1, by omega, h2, (set_row H3.out _ _).1, H4.out⟩, (set_row H3.out _ _).2⟩
  · have hkn : k = n := by omega
    subst hkn
    have hS := h; clear h3 h h4
    go_enter Tryd.func49, Tryd.ntmps49
    go_wp2
    go_quiet (fail)
    go_wp2
    go_ret
    exact ⟨0, ⟨by omega, by omega⟩, rfl, hS.under ⟨rfl, rfl, rfl, Nat.le_refl _, fun _ _ => rfl⟩, grown_below ⟨rfl, rfl, rfl, Nat.le_refl _, fun _ _ => rfl⟩⟩

set_option maxHeartbeats 400000 in
theorem n_any (W : World) (b : Nat) (w : World) (n : Int) (h : Src W b w) (n1 : 1 ≤ n) (n2 : n ≤ 100000000000) :
    Calls Tryd.prog 32 #[.pointer (some ⟨b, 0, none⟩), .int .i64 n] w (Reads (fun x => 0 ≤ x ∧ x < n) W b w) := by
  go_enter Tryd.func32, Tryd.ntmps32
  go_wp2_with fail
  refine (raw_any W b _ h).mono ?_
  rintro e w1 ⟨x, hx, rfl, hs, hg⟩
  go_wp2_with fail
  refine (mod_any _ _ _ hx n1 n2).mono ?_
  rintro e w2 ⟨rfl, rfl⟩
  go_wp2_with fail
  go_ret
  exact ⟨x % n, ⟨Int.emod_nonneg x (by omega), Int.emod_lt_of_pos x (by omega)⟩, rfl, hs, hg⟩

set_option maxHeartbeats 400000 in
theorem range_any (W : World) (b : Nat) (w : World) (lo hi : Int) (h : Src W b w) (n1 : lo ≤ hi) (n2 : hi - lo ≤ 90000000) (l1 : -1000000000 ≤ lo) (l2 : lo ≤ 1000000000) :
    Calls Tryd.prog 25 #[.pointer (some ⟨b, 0, none⟩), .int .i64 lo, .int .i64 hi] w (Reads (fun x => lo ≤ x ∧ x ≤ hi) W b w) := by
  go_enter Tryd.func25, Tryd.ntmps25
  go_wp2_with fail
  refine (n_any W b _ _ h (by omega) (by omega)).mono ?_
  rintro e w1 ⟨x, ⟨x1, x2⟩, rfl, hs, hg⟩
  go_wp2_with fail
  go_ret
  exact ⟨lo + x, ⟨by omega, by omega⟩, rfl, hs, hg⟩

set_option maxHeartbeats 400000 in
theorem pick_any (p : Int → Prop) (W : World) (b : Nat) (w : World) (g n c : Nat) (h : Src W b w) (n1 : 1 ≤ n) (n2 : n ≤ 1000) (hgb : g ≠ b) (hgl : g < w.heap.size)
    (hp : ∀ i, i < n → ∃ x, w.cell? ⟨g, i, none⟩ = some (.int .i64 x) ∧ p x) :
    Calls Tryd.prog 50 #[.pointer (some ⟨b, 0, none⟩), .slice (some ⟨g, 0, none⟩) n c] w (Reads p W b w) := by
  have HP := Lib.hid hp; clear hp
  go_enter Tryd.func50, Tryd.ntmps50
  go_wp2_with fail
  refine (n_any W b _ _ h (by omega) (by omega)).mono ?_
  rintro e w1 ⟨x, ⟨x1, x2⟩, rfl, hs, hg⟩
  obtain ⟨k, rfl⟩ := Int.eq_ofNat_of_zero_le x1
  obtain ⟨v, hv, hpv⟩ := HP.out k (by omega)
  have hc : w1.cell? ⟨g, k, none⟩ = some (.int .i64 v) := (World.cell?_of_block (hg.block g hgl (by simpa using hgb))).trans hv
  clear hv
  go_wp2_with fail
  go_ret
  exact ⟨v, hpv, rfl, hs, hg⟩

/-- What New leaves: a reader in a new block. -/
def News (W : World) (e : Ending) (w' : World) : Prop := e = .returned (.pointer (some ⟨W.heap.size, 0, none⟩)) ∧ Src W W.heap.size w' ∧ Below W.heap.size W w'
theorem Ints.less {W : World} {A : Option Addr} {n m : Nat} (h : Ints W A n) (hm : m ≤ n) : Ints W A m := fun i hi => h i (by omega)
theorem new_src {w : World} {A : Option Addr} {n c : Nat} (hn : n ≤ 2000) (hI : Ints w A n) : Src w w.heap.size (w.alloc (.cells #[.slice A n c, .int .i64 0] 87)) :=
  ⟨Nat.le_refl _, (Below.refl _ _).alloc (Nat.le_refl _) _, A, n, c, 0, Nat.zero_le _, hn, heap_alloc_new w _, hI⟩
set_option maxHeartbeats 400000 in
theorem new_none (w : World) :
    Calls Tryd.prog 13 #[.slice none 0 0] w (News w) := by
  go_enter Tryd.func13, Tryd.ntmps13
  go_wp2
  go_ret
  exact ⟨rfl, new_src (by omega) (fun i hi => by omega), (Below.refl _ _).alloc (Nat.le_refl _) _⟩
set_option maxHeartbeats 400000 in
theorem new_some (w : World) (a : Addr) (n c : Nat) (hc : n ≤ c) (_hm : c ≤ 9223372036854775807) (hI : Ints w (some a) n) :
    Calls Tryd.prog 13 #[.slice (some a) n c] w (News w) := by
  go_enter Tryd.func13, Tryd.ntmps13
  go_wp2
  all_goals
    go_ret
    exact ⟨rfl, new_src (by omega) (hI.less (by omega)), (Below.refl _ _).alloc (Nat.le_refl _) _⟩
/-- A list as the program holds it. -/
def ListIn (w : World) (v : Value) : Prop := v = .slice none 0 0 ∨ ∃ (a : Addr) (n c : Nat), v = .slice (some a) n c ∧ n ≤ c ∧ c ≤ 9223372036854775807 ∧ Ints w (some a) n
theorem new_any (w : World) (v : Value) (h : ListIn w v) : Calls Tryd.prog 13 #[v] w (News w) := by
  rcases h with rfl | ⟨a, n, c, rfl, h1, h2, h3⟩
  · exact new_none w
  · exact new_some w a n c h1 h2 h3
theorem Ints.under {W W' : World} {A : Option Addr} {n : Nat} (h : Ints W A n) (hb : Below W.heap.size W W') : Ints W' A n := fun i hi => by
  obtain ⟨bk, off, x, e, hlt, hc, hx⟩ := h i hi
  exact ⟨bk, off, x, e, Nat.lt_of_lt_of_le hlt hb.size, (hb.cell (p := ⟨bk, off + i, none⟩) hlt).trans hc, hx⟩
theorem ListIn.under {W W' : World} {v : Value} (h : ListIn W v) (hb : Below W.heap.size W W') : ListIn W' v := by
  rcases h with rfl | ⟨a, n, c, rfl, h1, h2, h3⟩
  · exact .inl rfl
  · exact .inr ⟨a, n, c, rfl, h1, h2, h3.under hb⟩
end Go.Proofs.YtlakgkoohdfiaaaDoor


namespace Go.Proofs.YtlakgkoohdfiaaaDoor
open Go.RowKit

section
variable {P : Program} {ops : Array Oper} {Q : Exit → Act → World → Prop} {md : Region.Mode} {S : World → Prop}
/-- An operation of a drawn region is taken first. -/
theorem tk (i : Nat) {oi : Oper} {v : Value} {fuel : Nat} {listed : Array Bool} {a : Act} {w : World} (hi : ops[i]? = some oi)
    (h : wpAnyH P md ops Q S fuel (listed.setIfInBounds i true) (a.put oi.dst v) w)
    (hs : Region.noSelect ops = true := by kernel_rfl) (hf : Region.free md ops listed i = true := by kernel_rfl) (hr : (Region.ready md ops listed).contains i = true := by kernel_rfl)
    (hQ : ∀ c a w, Q (.panic c) (a.put oi.dst v) w → Q (.panic c) a w := by exact fun _ _ _ h => h)
    (hg : Region.wanted oi (yielded ops a.tmps) = true := by rfl) (hS : S w := by assumption)
    (hy : ∀ w, S w → (execOp a.eval oi).run P w = .ok (.value v) w := by (intro wx hSx; (try dsimp only at hSx); go_simp; first | done | with_reducible rfl)) : wpAnyH P md ops Q S (fuel + 1) listed a w :=
  wpAnyH_take hi hs hf hr hQ (Or.inl ⟨hg, hy⟩) hS h
/-- A guarded operation that is not done. -/
theorem sk (i : Nat) {oi : Oper} {fuel : Nat} {listed : Array Bool} {a : Act} {w : World} (hi : ops[i]? = some oi)
    (h : wpAnyH P md ops Q S fuel (listed.setIfInBounds i true) (a.put oi.dst undef) w)
    (hs : Region.noSelect ops = true := by kernel_rfl) (hf : Region.free md ops listed i = true := by kernel_rfl) (hr : (Region.ready md ops listed).contains i = true := by kernel_rfl)
    (hQ : ∀ c a w, Q (.panic c) (a.put oi.dst undef) w → Q (.panic c) a w := by exact fun _ _ _ h => h)
    (hg : Region.wanted oi (yielded ops a.tmps) = false := by rfl) (hS : S w := by assumption) : wpAnyH P md ops Q S (fuel + 1) listed a w :=
  wpAnyH_take hi hs hf hr hQ (Or.inr ⟨hg, rfl⟩) hS h
end
end Go.Proofs.YtlakgkoohdfiaaaDoor
