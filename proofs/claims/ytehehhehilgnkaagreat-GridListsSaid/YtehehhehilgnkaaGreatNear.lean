/- The contract of Nearest. -/
import Derived.Test.YtehehhehilgnkaaGreatLocate
namespace Go.Proofs.YtehehhehilgnkaaGreat
open Go.RowKit Go.Maps

def better (b x : Nat × Int) : Nat × Int := if b.2 < x.2 then x else b
/-- The share with the greatest weight, the first of several. -/
def best (L : List (Nat × Int)) : Nat × Int := L.foldl better (L.headD (0, 0))
def bestTo (L : List (Nat × Int)) (k : Nat) : Nat × Int := (L.take k).foldl better (L.headD (0, 0))
theorem bestTo_succ (L : List (Nat × Int)) (k : Nat) (h : k < L.length) : bestTo L (k + 1) = better (bestTo L k) L[k] := by
  unfold bestTo
  rw [List.take_succ_eq_append_getElem h, List.foldl_append]; rfl
/-- What is known while the shares are gone through. -/
structure Nr (W : World) (g gb : Nat) (L : List (Nat × Int)) (b : Nat × Int) (w : World) : Prop where
  below : Below W.heap.size W w
  shs : Shs w g L
  lg : g < w.heap.size
  gb0 : W.heap.size ≤ gb
  ne : g ≠ gb
  row : Row w gb 75 #[.int .i64 (b.1 : Int), .int .i64 b.2]
theorem Nr.under {W w w' : World} {g gb : Nat} {L : List (Nat × Int)} {b : Nat × Int} (h : Nr W g gb L b w) (hb : Below w.heap.size w w') : Nr W g gb L b w' :=
  ⟨h.below.trans (hb.mono h.below.size), h.shs.under h.lg hb, Nat.lt_of_lt_of_le h.lg hb.size, h.gb0, h.ne, h.row.under hb⟩
theorem Nr.put {W w : World} {g gb : Nat} {L : List (Nat × Int)} {b : Nat × Int} (h : Nr W g gb L b w) (x : Nat × Int) : Nr W g gb L x ((w.setCell ⟨gb, 0, none⟩ (.int .i64 (x.1 : Int))).setCell ⟨gb, 1, none⟩ (.int .i64 x.2)) :=
  ⟨(h.below.setCell h.gb0 _).setCell h.gb0 _, fun i hi => by
      obtain ⟨a, b⟩ := h.shs i hi
      have hne : gb ≠ g := Ne.symm h.ne
      exact ⟨by rw [World.cell?_setCell_far _ _ _ _ hne, World.cell?_setCell_far _ _ _ _ hne]; exact a, by rw [World.cell?_setCell_far _ _ _ _ hne, World.cell?_setCell_far _ _ _ _ hne]; exact b⟩,
    by simpa using h.lg, h.gb0, h.ne, (h.row.put 0 _).put 1 _⟩
end Go.Proofs.YtehehhehilgnkaaGreat

