/- The contract of Without of the program. -/
import Derived.Test.YtngbjccfmglbaaaDoorRd
namespace Go.Proofs.YtngbjccfmglbaaaDoor
open Go.RowKit

theorem infoReading : (Tryd.prog.info? 30).map (fun i => (i.zero, i.size, i.bytes)) = some (some (.agg #[.int .i64 0, .int .i64 0]), 2, 16) := by kernel_rfl
/-- What is known while the list is gone through. -/
structure Wt (W : World) (M : List Elt.R) (u : Value) (w : World) : Prop where
  below : Below W.heap.size W w
  own : w.ownsRow W.heap.size 30 2 u M.length (rdc M)
theorem Wt.under {W w w' : World} {M : List Elt.R} {u : Value} (h : Wt W M u w) (hb : Below w.heap.size w w') : Wt W M u w' := ⟨h.below.trans (hb.mono h.below.size), own_under h.own hb⟩
theorem Wt.more {W w w' : World} {M : List Elt.R} {u : Value} {g' cap' : Nat} {x : Elt.R} (h : Wt W M u w)
    (hown : w'.ownsRow W.heap.size 30 2 (.slice (some ⟨g', 0, none⟩) (M.length + 1) cap') (M.length + 1) (rdc M ++ [.int .i64 x.1, .int .i64 x.2])) (hg : w.grownBy w' u.ownBlock) : Wt W (M ++ [x]) (.slice (some ⟨g', 0, none⟩) (M.length + 1) cap') w' :=
  ⟨below_own h.below h.below.size h.own hg, by rw [rdc_snoc]; simpa using hown⟩
theorem wout_snoc (L : List Elt.R) (C : List Int) (k : Nat) (h : k < L.length) : Elt.wout (L.take (k + 1)) C = Elt.wout (L.take k) C ++ (if C.contains (L[k]).1 then [] else [L[k]]) := by
  unfold Elt.wout
  rw [List.take_succ_eq_append_getElem h, List.filter_append]
  congr 1
  cases hc : C.contains (L[k]).1 <;> (rw [List.filter_cons, List.filter_nil]; simp only [hc]; rfl)
theorem wout_len (L : List Elt.R) (C : List Int) (k : Nat) : (Elt.wout (L.take k) C).length ≤ L.length := by
  unfold Elt.wout
  have h1 := List.length_filter_le (fun r : Elt.R => !C.contains r.1) (L.take k)
  have h2 : (L.take k).length ≤ L.length := by rw [List.length_take]; omega
  omega
end Go.Proofs.YtngbjccfmglbaaaDoor


