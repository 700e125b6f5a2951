/- What BitsAnswers keeps in memory: three lists, four pairs, three numbers; the raw argument. -/
import Derived.Test.YtjabnicflpeopaaLs
namespace Go.Proofs.Ytjabnicflpeopaa
open Go.RowKit

/-- Three lists of bits in a row. -/
def Three (g : Nat) (Y : World) : Prop := g < Y.heap.size ∧ ∀ i, i < 3 → ∃ A c L n, Y.cell? ⟨g, i * 2, none⟩ = some (.slice A (List.length L) c) ∧ Y.cell? ⟨g, i * 2 + 1, none⟩ = some (.int .i64 n) ∧ Bys Y A c L ∧ I64 n
theorem cell_kept {Y Z : World} {g o : Nat} {r : Option Nat} (hg : g < Y.heap.size) (h : Y.grownBy Z r) (hr : r ≠ some g) : Z.cell? ⟨g, o, none⟩ = Y.cell? ⟨g, o, none⟩ := by
  unfold World.cell?
  rw [show (⟨g, o, Option.none⟩ : Addr).block = g from rfl, h.block g hg (Ne.symm hr)]
theorem Three.under {g : Nat} {Y Z : World} (h : Three g Y) (hb : Below Y.heap.size Y Z) : Three g Z := ⟨Nat.lt_of_lt_of_le h.1 hb.size, fun i hi => by
  obtain ⟨A, c, L, n, h1, h2, h3, h4⟩ := h.2 i hi
  exact ⟨A, c, L, n, (hb.cell (p := ⟨g, i * 2, none⟩) h.1).trans h1, (hb.cell (p := ⟨g, i * 2 + 1, none⟩) h.1).trans h2, h3.under hb, h4⟩⟩
theorem Three.read {W : World} {b g : Nat} {Y Z : World} (h : Three g Y) (hgb : g ≠ b) (hs : Src W b Y) (hg : Y.grownBy Z (some b)) : Three g Z := ⟨Nat.lt_of_lt_of_le h.1 hg.size, fun i hi => by
  obtain ⟨A, c, L, n, h1, h2, h3, h4⟩ := h.2 i hi
  have hr : (some b : Option Nat) ≠ some g := fun e => hgb (by injection e with e; exact e.symm)
  exact ⟨A, c, L, n, (cell_kept h.1 hg hr).trans h1, (cell_kept h.1 hg hr).trans h2, h3.read hs hg, h4⟩⟩
/-- Four pairs of numbers in a row. -/
def Four (g : Nat) (Y : World) : Prop := g < Y.heap.size ∧ ∀ i, i < 4 → ∃ p q : Int, Y.cell? ⟨g, i * 2, none⟩ = some (.int .i64 p) ∧ Y.cell? ⟨g, i * 2 + 1, none⟩ = some (.int .i64 q)
theorem Four.under {g : Nat} {Y Z : World} (h : Four g Y) (hb : Below Y.heap.size Y Z) : Four g Z := ⟨Nat.lt_of_lt_of_le h.1 hb.size, fun i hi => by
  obtain ⟨p, q, h1, h2⟩ := h.2 i hi
  exact ⟨p, q, (hb.cell (p := ⟨g, i * 2, none⟩) h.1).trans h1, (hb.cell (p := ⟨g, i * 2 + 1, none⟩) h.1).trans h2⟩⟩
theorem Four.read {b g : Nat} {Y Z : World} (h : Four g Y) (hgb : g ≠ b) (hg : Y.grownBy Z (some b)) : Four g Z := ⟨Nat.lt_of_lt_of_le h.1 hg.size, fun i hi => by
  obtain ⟨p, q, h1, h2⟩ := h.2 i hi
  have hr : (some b : Option Nat) ≠ some g := fun e => hgb (by injection e with e; exact e.symm)
  exact ⟨p, q, (cell_kept h.1 hg hr).trans h1, (cell_kept h.1 hg hr).trans h2⟩⟩
/-- Three numbers in a row. -/
def Trip (g : Nat) (Y : World) : Prop := g < Y.heap.size ∧ ∀ i, i < 3 → ∃ p : Int, Y.cell? ⟨g, i, none⟩ = some (.int .i64 p)
theorem Trip.under {g : Nat} {Y Z : World} (h : Trip g Y) (hb : Below Y.heap.size Y Z) : Trip g Z := ⟨Nat.lt_of_lt_of_le h.1 hb.size, fun i hi => by
  obtain ⟨p, h1⟩ := h.2 i hi
  exact ⟨p, (hb.cell (p := ⟨g, i, none⟩) h.1).trans h1⟩⟩
theorem three_new (Y : World) {A0 A1 A2 : Option Addr} {c0 c1 c2 : Nat} {L0 L1 L2 : List Nat} {n0 n1 n2 : Int} (h0 : Bys Y A0 c0 L0) (h1 : Bys Y A1 c1 L1) (h2 : Bys Y A2 c2 L2) (i0 : I64 n0) (i1 : I64 n1) (i2 : I64 n2) :
    Three Y.heap.size (Y.alloc (.cells #[.slice A0 L0.length c0, .int .i64 n0, .slice A1 L1.length c1, .int .i64 n1, .slice A2 L2.length c2, .int .i64 n2] 24)) := by
  have r := Row.new Y #[.slice A0 L0.length c0, .int .i64 n0, .slice A1 L1.length c1, .int .i64 n1, .slice A2 L2.length c2, .int .i64 n2] 24
  have hb : Below Y.heap.size Y (Y.alloc (.cells #[.slice A0 L0.length c0, .int .i64 n0, .slice A1 L1.length c1, .int .i64 n1, .slice A2 L2.length c2, .int .i64 n2] 24)) := (Below.refl _ _).alloc (Nat.le_refl _) _
  obtain ⟨q0, q1, q2, q3, q4, q5⟩ := row6 r
  refine ⟨r.lt, fun i hi => ?_⟩
  rcases (by omega : i = 0 ∨ i = 1 ∨ i = 2) with rfl | rfl | rfl
  · exact ⟨A0, c0, L0, n0, q0, q1, h0.under hb, i0⟩
  · exact ⟨A1, c1, L1, n1, q2, q3, h1.under hb, i1⟩
  · exact ⟨A2, c2, L2, n2, q4, q5, h2.under hb, i2⟩
theorem four_new (Y : World) (p0 q0 p1 q1 p2 q2 p3 q3 : Int) : Four Y.heap.size (Y.alloc (.cells #[.int .i64 p0, .int .i64 q0, .int .i64 p1, .int .i64 q1, .int .i64 p2, .int .i64 q2, .int .i64 p3, .int .i64 q3] 34)) := by
  have r := Row.new Y #[.int .i64 p0, .int .i64 q0, .int .i64 p1, .int .i64 q1, .int .i64 p2, .int .i64 q2, .int .i64 p3, .int .i64 q3] 34
  refine ⟨r.lt, fun i hi => ?_⟩
  rcases (by omega : i = 0 ∨ i = 1 ∨ i = 2 ∨ i = 3) with rfl | rfl | rfl | rfl
  · exact ⟨p0, q0, (r.cell 0).trans rfl, (r.cell 1).trans rfl⟩
  · exact ⟨p1, q1, (r.cell 2).trans rfl, (r.cell 3).trans rfl⟩
  · exact ⟨p2, q2, (r.cell 4).trans rfl, (r.cell 5).trans rfl⟩
  · exact ⟨p3, q3, (r.cell 6).trans rfl, (r.cell 7).trans rfl⟩
theorem trip_new (Y : World) (p0 p1 p2 : Int) : Trip Y.heap.size (Y.alloc (.cells #[.int .i64 p0, .int .i64 p1, .int .i64 p2] 3)) := by
  have r := Row.new Y #[.int .i64 p0, .int .i64 p1, .int .i64 p2] 3
  refine ⟨r.lt, fun i hi => ?_⟩
  rcases (by omega : i = 0 ∨ i = 1 ∨ i = 2) with rfl | rfl | rfl
  · exact ⟨p0, (r.cell 0).trans rfl⟩
  · exact ⟨p1, (r.cell 1).trans rfl⟩
  · exact ⟨p2, (r.cell 2).trans rfl⟩
theorem src_below {w W : World} {b : Nat} {Y : World} (h : Below w.heap.size w W) (hs : Src W b Y) : Below w.heap.size w Y := h.trans (hs.below.mono h.size)
theorem list_I64 {n : Int} (h1 : -2 ≤ n) (h2 : n ≤ 42) : I64 n := ⟨by omega, by omega⟩
end Go.Proofs.Ytjabnicflpeopaa
