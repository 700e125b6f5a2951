/- Blocks of memory that hold a date, known whole, and what stays known of a world while they are written. -/
import Derived.Test.YtaohndjlaamdaaaDoorDates
namespace Go.Proofs.YtaohndjlaamdaaaDoor
open Go.RowKit

theorem Tab.set {w : World} (h : Tab w) {a : Addr} (ha : 0 < a.block) (u : Value) : Tab (w.setCell a u) := fun i hi => (World.cell?_setCell_other w a _ u (fun e => by subst e; exact absurd ha (Nat.lt_irrefl _))).trans (h i hi)
/-- A block of a date, known whole. -/
def Box (w : World) (g : Nat) (y m d h i : Int) : Prop := w.heap[g]? = some (.cells #[.int .i64 y, .int .i64 m, .int .i64 d, .int .i64 h, .int .i64 i] 23 (0, 0))
theorem Box.lt {w : World} {g : Nat} {y m d h i : Int} (hB : Box w g y m d h i) : g < w.heap.size := by
  rcases Nat.lt_or_ge g w.heap.size with hlt | hge
  · exact hlt
  · unfold Box at hB; rw [Array.getElem?_eq_none hge] at hB; cases hB
theorem Box.under {w w' : World} {g : Nat} {y m d h i : Int} (hB : Box w g y m d h i) (hb : Below w.heap.size w w') : Box w' g y m d h i := (hb.block g hB.lt).trans hB
theorem Box.facts {w : World} {g : Nat} {y m d h i : Int} (hB : Box w g y m d h i) :
    (w.cell? ⟨g, 0, none⟩ = some (.int .i64 y) ∧ w.cell? ⟨g, 1, none⟩ = some (.int .i64 m) ∧ w.cell? ⟨g, 2, none⟩ = some (.int .i64 d) ∧ w.cell? ⟨g, 3, none⟩ = some (.int .i64 h) ∧ w.cell? ⟨g, 4, none⟩ = some (.int .i64 i)) ∧
    (w.frozen? ⟨g, 0, none⟩ = false ∧ w.frozen? ⟨g, 1, none⟩ = false ∧ w.frozen? ⟨g, 2, none⟩ = false ∧ w.frozen? ⟨g, 3, none⟩ = false ∧ w.frozen? ⟨g, 4, none⟩ = false) := by
  unfold Box at hB
  simp [World.cell?, World.frozen?, hB]
theorem Box.setAt {w : World} {g : Nat} {y m d h i : Int} (hB : Box w g y m d h i) (j : Nat) (u : Int) :
    (w.setCell ⟨g, j, none⟩ (.int .i64 u)).heap[g]? = some (.cells (#[.int .i64 y, .int .i64 m, .int .i64 d, .int .i64 h, .int .i64 i].setIfInBounds j (.int .i64 u)) 23 (0, 0)) := by
  unfold Box at hB
  simp [World.setCell, Array.getElem?_modify, hB]
section
variable {w : World} {g : Nat} {y m d h i : Int} (hB : Box w g y m d h i) (u : Int)
include hB
theorem Box.set0 : Box (w.setCell ⟨g, 0, none⟩ (.int .i64 u)) g u m d h i := hB.setAt 0 u
theorem Box.set1 : Box (w.setCell ⟨g, 1, none⟩ (.int .i64 u)) g y u d h i := hB.setAt 1 u
theorem Box.set2 : Box (w.setCell ⟨g, 2, none⟩ (.int .i64 u)) g y m u h i := hB.setAt 2 u
theorem Box.set3 : Box (w.setCell ⟨g, 3, none⟩ (.int .i64 u)) g y m d u i := hB.setAt 3 u
theorem Box.set4 : Box (w.setCell ⟨g, 4, none⟩ (.int .i64 u)) g y m d h u := hB.setAt 4 u
theorem Box.alloc (o : Obj) : Box (w.alloc o) g y m d h i := (Below.heap_alloc w o g hB.lt).trans hB
end
/-- Of the world only what is said here is needed from now on. -/
theorem forget {P : Program} {C : Code} {Q : Exit → Act → World → Prop} {a : Act} {X : World} (R : World → Prop) (hR : R X) (h : ∀ Y, R Y → Code.wp P C Q a Y) : Code.wp P C Q a X := h X hR
theorem Box.newAt {w : World} {g : Nat} (hg : w.heap.size = g) (y m d h i : Int) : Box (w.alloc (.cells #[.int .i64 y, .int .i64 m, .int .i64 d, .int .i64 h, .int .i64 i] 23)) g y m d h i := hg ▸ heap_alloc_new w _
theorem Box.far {w : World} {g : Nat} {y m d h i : Int} (hB : Box w g y m d h i) {p : Addr} (hp : p.block ≠ g) (u : Value) : Box (w.setCell p u) g y m d h i := (Below.heap_setCell w p u g (Ne.symm hp)).trans hB
theorem Box.drewN {w : World} {g : Nat} {y m d h i : Int} (hB : Box w g y m d h i) (n : Nat) : Box (w.drewN n) g y m d h i := hB
/-- What stays known of the world while the date is counted on: nothing old has turned, and both dates' blocks. -/
structure Two (W : World) (g g' : Nat) (y m d h i y' m' d' h' i' : Int) (w : World) : Prop where
  below : Below W.heap.size W w
  base : W.heap.size ≤ g
  ne : g ≠ g'
  one : Box w g y m d h i
  two : Box w g' y' m' d' h' i'
section
variable {W w : World} {g g' : Nat} {y m d h i y' m' d' h' i' : Int}
theorem Two.frozen (t : Two W g g' y m d h i y' m' d' h' i' w) : w.frozen? ⟨g', 0, none⟩ = false ∧ w.frozen? ⟨g', 1, none⟩ = false ∧ w.frozen? ⟨g', 2, none⟩ = false ∧ w.frozen? ⟨g', 3, none⟩ = false ∧ w.frozen? ⟨g', 4, none⟩ = false := t.two.facts.2
theorem Two.facts (t : Two W g g' y m d h i y' m' d' h' i' w) :
    ((w.cell? ⟨g, 0, none⟩ = some (.int .i64 y) ∧ w.cell? ⟨g, 1, none⟩ = some (.int .i64 m) ∧ w.cell? ⟨g, 2, none⟩ = some (.int .i64 d) ∧ w.cell? ⟨g, 3, none⟩ = some (.int .i64 h) ∧ w.cell? ⟨g, 4, none⟩ = some (.int .i64 i)) ∧
    (w.frozen? ⟨g, 0, none⟩ = false ∧ w.frozen? ⟨g, 1, none⟩ = false ∧ w.frozen? ⟨g, 2, none⟩ = false ∧ w.frozen? ⟨g, 3, none⟩ = false ∧ w.frozen? ⟨g, 4, none⟩ = false)) ∧
    (w.cell? ⟨g', 0, none⟩ = some (.int .i64 y') ∧ w.cell? ⟨g', 1, none⟩ = some (.int .i64 m') ∧ w.cell? ⟨g', 2, none⟩ = some (.int .i64 d') ∧ w.cell? ⟨g', 3, none⟩ = some (.int .i64 h') ∧ w.cell? ⟨g', 4, none⟩ = some (.int .i64 i')) := ⟨t.one.facts, t.two.facts.1⟩
theorem Two.drewN (t : Two W g g' y m d h i y' m' d' h' i' w) (n : Nat) : Two W g g' y m d h i y' m' d' h' i' (w.drewN n) := ⟨below_drewN t.below n, t.base, t.ne, t.one.drewN n, t.two.drewN n⟩
theorem Two.set0 (t : Two W g g' y m d h i y' m' d' h' i' w) (u : Int) : Two W g g' u m d h i y' m' d' h' i' (w.setCell ⟨g, 0, none⟩ (.int .i64 u)) := ⟨t.below.setCell t.base _, t.base, t.ne, t.one.set0 u, t.two.far t.ne _⟩
theorem Two.set1 (t : Two W g g' y m d h i y' m' d' h' i' w) (u : Int) : Two W g g' y u d h i y' m' d' h' i' (w.setCell ⟨g, 1, none⟩ (.int .i64 u)) := ⟨t.below.setCell t.base _, t.base, t.ne, t.one.set1 u, t.two.far t.ne _⟩
theorem Two.set2 (t : Two W g g' y m d h i y' m' d' h' i' w) (u : Int) : Two W g g' y m u h i y' m' d' h' i' (w.setCell ⟨g, 2, none⟩ (.int .i64 u)) := ⟨t.below.setCell t.base _, t.base, t.ne, t.one.set2 u, t.two.far t.ne _⟩
theorem Two.set3 (t : Two W g g' y m d h i y' m' d' h' i' w) (u : Int) : Two W g g' y m d u i y' m' d' h' i' (w.setCell ⟨g, 3, none⟩ (.int .i64 u)) := ⟨t.below.setCell t.base _, t.base, t.ne, t.one.set3 u, t.two.far t.ne _⟩
theorem Two.set4 (t : Two W g g' y m d h i y' m' d' h' i' w) (u : Int) : Two W g g' y m d h u y' m' d' h' i' (w.setCell ⟨g, 4, none⟩ (.int .i64 u)) := ⟨t.below.setCell t.base _, t.base, t.ne, t.one.set4 u, t.two.far t.ne _⟩
end
theorem Box.new (w : World) (y m d h i : Int) : Box (w.alloc (.cells #[.int .i64 y, .int .i64 m, .int .i64 d, .int .i64 h, .int .i64 i] 23)) w.heap.size y m d h i := heap_alloc_new w _

end Go.Proofs.YtaohndjlaamdaaaDoor
