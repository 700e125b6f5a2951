/- A block of memory that is known whole, and what a walk may forget. -/
import Derived.Test.YtehehhehilgnkaaBase
import Derived.Deep.Draws
import Derived.Laws.Rows
namespace Go.Proofs.Ytehehhehilgnkaa
open Go.RowKit

/-- Block g holds these cells, all of which may be written. -/
def Row (w : World) (g : Nat) (t : TypeId) (cs : Array Value) : Prop := w.heap[g]? = some (.cells cs t (0, 0))
section
variable {w w' : World} {g : Nat} {t : TypeId} {cs : Array Value}
theorem Row.lt (h : Row w g t cs) : g < w.heap.size := (Array.getElem?_eq_some_iff.1 h).1
theorem Row.cell (h : Row w g t cs) (j : Nat) : w.cell? ⟨g, j, none⟩ = cs[j]? := by
  unfold Row at h
  simp [World.cell?, h]
theorem Row.thaw (h : Row w g t cs) (j : Nat) : w.frozen? ⟨g, j, none⟩ = false := by
  unfold Row at h
  simp [World.frozen?, h]
theorem Row.new (w : World) (cs : Array Value) (t : TypeId) : Row (w.alloc (.cells cs t)) w.heap.size t cs := heap_alloc_new w _
theorem Row.newAt (hg : w.heap.size = g) : Row (w.alloc (.cells cs t)) g t cs := hg ▸ heap_alloc_new w _
theorem Row.under (h : Row w g t cs) (hb : Below w.heap.size w w') : Row w' g t cs := (hb.block g h.lt).trans h
theorem Row.grown {r : Option Nat} (h : Row w g t cs) (hb : w.grownBy w' r) (hr : some g ≠ r) : Row w' g t cs := (hb.block g h.lt hr).trans h
theorem Row.drew (h : Row w g t cs) : Row w.drew g t cs := h
theorem Row.drewN (h : Row w g t cs) (n : Nat) : Row (w.drewN n) g t cs := h
theorem Row.alloc (h : Row w g t cs) (o : Obj) : Row (w.alloc o) g t cs := (Below.heap_alloc w o g h.lt).trans h
theorem Row.put (h : Row w g t cs) (j : Nat) (u : Value) : Row (w.setCell ⟨g, j, none⟩ u) g t (cs.setIfInBounds j u) := by
  unfold Row at h ⊢
  simp [World.setCell, Array.getElem?_modify, h]
theorem Row.far (h : Row w g t cs) {p : Addr} (hp : p.block ≠ g) (u : Value) : Row (w.setCell p u) g t cs := (Below.heap_setCell w p u g (Ne.symm hp)).trans h
end
/-- Of the world only what is said here is needed from now on. -/
theorem forget {P : Program} {C : Code} {Q : Exit → Act → World → Prop} {a : Act} {X : World} (R : World → Prop) (hR : R X) (h : ∀ Y, R Y → Code.wp P C Q a Y) : Code.wp P C Q a X := h X hR
theorem undrew {a w : World} (h : Below a.drew.heap.size a.drew w) : Below a.heap.size a w := ⟨h.os, h.tape, h.output, h.size, h.block⟩
theorem below_drewN {B : Nat} {w w' : World} (h : Below B w w') (n : Nat) : Below B w (w'.drewN n) := ⟨h.os, h.tape, h.output, h.size, h.block⟩
/-- The corners' block. -/
theorem row3 {w : World} {b : Nat} {t : TypeId} {x y z : Value} (h : Row w b t #[x, y, z]) :
    w.cell? ⟨b, 0, none⟩ = some x ∧ w.cell? ⟨b, 1, none⟩ = some y ∧ w.cell? ⟨b, 2, none⟩ = some z :=
  ⟨(h.cell 0).trans rfl, (h.cell 1).trans rfl, (h.cell 2).trans rfl⟩
theorem row4 {w : World} {b : Nat} {t : TypeId} {x y z u : Value} (h : Row w b t #[x, y, z, u]) :
    w.cell? ⟨b, 0, none⟩ = some x ∧ w.cell? ⟨b, 1, none⟩ = some y ∧ w.cell? ⟨b, 2, none⟩ = some z ∧ w.cell? ⟨b, 3, none⟩ = some u :=
  ⟨(h.cell 0).trans rfl, (h.cell 1).trans rfl, (h.cell 2).trans rfl, (h.cell 3).trans rfl⟩
end Go.Proofs.Ytehehhehilgnkaa
