/- The contract of somewhere: a valid place. -/
import Derived.Test.YtehehhehilgnkaaGreatIndex
import Derived.Deep.Cut
import Derived.Deep.CutRange
namespace Go.Proofs.YtehehhehilgnkaaGreat
open Go.RowKit

section
variable {W w0 w w' : World} {b gr gp : Nat} {p q r s : Int}
theorem grown_set {a c : World} {B : Nat} {row : Option Nat} (h : a.grownBy c row) (g j : Nat) (u : Value) (hg : a.heap.size ≤ g) (hB : B = g) : a.grownBy (c.setCell ⟨B, j, none⟩ u) row := by
  subst hB
  exact ⟨h.os, h.tape, h.output, Nat.le_trans h.size (by simp), fun i hi hr => (Below.heap_setCell c ⟨B, j, none⟩ u i (fun e => by simp at e; omega)).trans (h.block i hi hr)⟩
end
end Go.Proofs.YtehehhehilgnkaaGreat

