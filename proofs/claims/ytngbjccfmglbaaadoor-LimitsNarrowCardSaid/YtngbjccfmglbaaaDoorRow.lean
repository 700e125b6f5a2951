/- A block of memory that is known whole, and what a walk may forget. -/
import Derived.Test.YtngbjccfmglbaaaDoorBase
import Derived.Deep.Draws
import Derived.Laws.Rows
namespace Go.Proofs.YtngbjccfmglbaaaDoor
open Go.RowKit

/-- Block g holds these cells, all of which may be written. -/
def Row (w : World) (g : Nat) (t : TypeId) (cs : Array Value) : Prop := w.heap[g]? = some (.cells cs t (0, 0))
section
variable {w w' : World} {g : Nat} {t : TypeId} {cs : Array Value}
theorem Row.lt (h : Row w g t cs) : g < w.heap.size := (Array.getElem?_eq_some_iff.1 h).1
theorem Row.cell (h : Row w g t cs) (j : Nat) : w.cell? ⟨g, j, none⟩ = cs[j]? := by
  unfold Row at h
  simp [World.cell?, h]
theorem Row.thaw (h : Row w g t cs) (j : Nat) : w.frozen? ⟨g, j, none⟩ = false := by
  unfold Row at h
  simp [World.frozen?, h]
theorem Row.new (w : World) (cs : Array Value) (t : TypeId) : Row (w.alloc (.cells cs t)) w.heap.size t cs := heap_alloc_new w _
theorem Row.newAt (hg : w.heap.size = g) : Row (w.alloc (.cells cs t)) g t cs := hg ▸ heap_alloc_new w _
theorem Row.under (h : Row w g t cs) (hb : Below w.heap.size w w') : Row w' g t cs := (hb.block g h.lt).trans h
theorem Row.grown {r : Option Nat} (h : Row w g t cs) (hb : w.grownBy w' r) (hr : some g ≠ r) : Row w' g t cs := (hb.block g h.lt hr).trans h
theorem Row.drew (h : Row w g t cs) : Row w.drew g t cs := h
theorem Row.drewN (h : Row w g t cs) (n : Nat) : Row (w.drewN n) g t cs := h
theorem Row.alloc (h : Row w g t cs) (o : Obj) : Row (w.alloc o) g t cs := (Below.heap_alloc w o g h.lt).trans h
theorem Row.put (h : Row w g t cs) (j : Nat) (u : Value) : Row (w.setCell ⟨g, j, none⟩ u) g t (cs.setIfInBounds j u) := by
  unfold Row at h ⊢
  simp [World.setCell, Array.getElem?_modify, h]
theorem Row.far (h : Row w g t cs) {p : Addr} (hp : p.block ≠ g) (u : Value) : Row (w.setCell p u) g t cs := (Below.heap_setCell w p u g (Ne.symm hp)).trans h
end
/-- Of the world only what is said here is needed from now on. -/
theorem forget {P : Program} {C : Code} {Q : Exit → Act → World → Prop} {a : Act} {X : World} (R : World → Prop) (hR : R X) (h : ∀ Y, R Y → Code.wp P C Q a Y) : Code.wp P C Q a X := h X hR
theorem undrew {a w : World} (h : Below a.drew.heap.size a.drew w) : Below a.heap.size a w := ⟨h.os, h.tape, h.output, h.size, h.block⟩
theorem below_drewN {B : Nat} {w w' : World} (h : Below B w w') (n : Nat) : Below B w (w'.drewN n) := ⟨h.os, h.tape, h.output, h.size, h.block⟩
/-- The corners' block. -/
theorem row3 {w : World} {b : Nat} {t : TypeId} {x y z : Value} (h : Row w b t #[x, y, z]) :
    w.cell? ⟨b, 0, none⟩ = some x ∧ w.cell? ⟨b, 1, none⟩ = some y ∧ w.cell? ⟨b, 2, none⟩ = some z :=
  ⟨(h.cell 0).trans rfl, (h.cell 1).trans rfl, (h.cell 2).trans rfl⟩
theorem row4 {w : World} {b : Nat} {t : TypeId} {x y z u : Value} (h : Row w b t #[x, y, z, u]) :
    w.cell? ⟨b, 0, none⟩ = some x ∧ w.cell? ⟨b, 1, none⟩ = some y ∧ w.cell? ⟨b, 2, none⟩ = some z ∧ w.cell? ⟨b, 3, none⟩ = some u :=
  ⟨(h.cell 0).trans rfl, (h.cell 1).trans rfl, (h.cell 2).trans rfl, (h.cell 3).trans rfl⟩
theorem set4_row {w : World} {g : Nat} {t : TypeId} {y0 y1 y2 y3 : Value} (u0 u1 u2 u3 : Value) (h : Row w g t #[y0, y1, y2, y3]) :
    Row ((((w.setCell ⟨g, 0, none⟩ u0).setCell ⟨g, 1, none⟩ u1).setCell ⟨g, 2, none⟩ u2).setCell ⟨g, 3, none⟩ u3) g t #[u0, u1, u2, u3] := by
  have h0 : Row (w.setCell ⟨g, 0, none⟩ u0) g t #[u0, y1, y2, y3] := h.put 0 _
  have h1 : Row ((w.setCell ⟨g, 0, none⟩ u0).setCell ⟨g, 1, none⟩ u1) g t #[u0, u1, y2, y3] := h0.put 1 _
  have h2 : Row (((w.setCell ⟨g, 0, none⟩ u0).setCell ⟨g, 1, none⟩ u1).setCell ⟨g, 2, none⟩ u2) g t #[u0, u1, u2, y3] := h1.put 2 _
  exact h2.put 3 _
theorem set4_below {w0 w : World} {B g : Nat} {u0 u1 u2 u3 : Value} (h : Below B w0 w) (hg : B ≤ g) :
    Below B w0 ((((w.setCell ⟨g, 0, none⟩ u0).setCell ⟨g, 1, none⟩ u1).setCell ⟨g, 2, none⟩ u2).setCell ⟨g, 3, none⟩ u3) :=
  (((h.setCell (p := ⟨g, 0, none⟩) hg _).setCell (p := ⟨g, 1, none⟩) hg _).setCell (p := ⟨g, 2, none⟩) hg _).setCell (p := ⟨g, 3, none⟩) hg _
theorem set4_far {w : World} {g x : Nat} {t : TypeId} {cs : Array Value} (u0 u1 u2 u3 : Value) (h : Row w x t cs) (hx : g ≠ x) :
    Row ((((w.setCell ⟨g, 0, none⟩ u0).setCell ⟨g, 1, none⟩ u1).setCell ⟨g, 2, none⟩ u2).setCell ⟨g, 3, none⟩ u3) x t cs :=
  (((h.far (p := ⟨g, 0, none⟩) hx _).far (p := ⟨g, 1, none⟩) hx _).far (p := ⟨g, 2, none⟩) hx _).far (p := ⟨g, 3, none⟩) hx _
theorem set2_row {w : World} {g : Nat} {t : TypeId} {y0 y1 : Value} (u0 u1 : Value) (h : Row w g t #[y0, y1]) :
    Row ((w.setCell ⟨g, 0, none⟩ u0).setCell ⟨g, 1, none⟩ u1) g t #[u0, u1] := by
  have h0 : Row (w.setCell ⟨g, 0, none⟩ u0) g t #[u0, y1] := h.put 0 _
  exact h0.put 1 _
theorem set2_below {w0 w : World} {B g : Nat} {u0 u1 : Value} (h : Below B w0 w) (hg : B ≤ g) : Below B w0 ((w.setCell ⟨g, 0, none⟩ u0).setCell ⟨g, 1, none⟩ u1) :=
  (h.setCell (p := ⟨g, 0, none⟩) hg _).setCell (p := ⟨g, 1, none⟩) hg _
theorem row2 {w : World} {b : Nat} {t : TypeId} {x y : Value} (h : Row w b t #[x, y]) : w.cell? ⟨b, 0, none⟩ = some x ∧ w.cell? ⟨b, 1, none⟩ = some y :=
  ⟨(h.cell 0).trans rfl, (h.cell 1).trans rfl⟩
end Go.Proofs.YtngbjccfmglbaaaDoor


