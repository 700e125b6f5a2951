/- Lists of numbers of a call's own. -/
import Derived.Test.YtngbjccfmglbaaaDoorRd
import Derived.Deep.Upon
import Derived.Sort.OwnSortedInts
namespace Go.Proofs.YtngbjccfmglbaaaDoor
open Go.RowKit

theorem infoInt : (Tryd.prog.info? 3).map (fun i => (i.zero, i.size, i.bytes)) = some (some (.int .i64 0), 1, 8) := by kernel_rfl
def nmc (C : List Int) : List Value := C.map (Value.int .i64)
theorem nmc_at {C : List Int} {i : Nat} (h : i < C.length) : (nmc C)[i]? = some (.int .i64 C[i]) := by unfold nmc; rw [List.getElem?_map, List.getElem?_eq_getElem h]; rfl
theorem nmc_one (C : List Int) : ∀ u ∈ nmc C, u.oneCell' = true := by
  intro u hu
  obtain ⟨x, -, rfl⟩ := List.mem_map.1 hu
  rfl
theorem NmIn.own {w : World} {base : Nat} {v : Value} {C : List Int} (h : w.ownsRow base 3 1 v C.length (nmc C)) : NmIn w v C := by
  have h' := h
  rcases h.2 with ⟨rfl, h0⟩ | ⟨g, cap, cur, rfl, _, hh, hle, hmax, _, _⟩
  · have := List.eq_nil_of_length_eq_zero h0
    subst this
    exact ⟨none, 0, rfl, Nat.le_refl _, by omega, fun i hi => by simp at hi⟩
  · refine ⟨some ⟨g, 0, none⟩, cap, rfl, hle, by unfold maxLen at hmax; omega, fun i hi => ⟨g, 0, rfl, (Array.getElem?_eq_some_iff.1 hh).1, ?_⟩⟩
    rw [Nat.zero_add, h'.cellAt i (by omega)]
    exact nmc_at hi
/-- What is known of a list of numbers that grows. -/
structure Zt (W : World) (C : List Int) (u : Value) (w : World) : Prop where
  below : Below W.heap.size W w
  own : w.ownsRow W.heap.size 3 1 u C.length (nmc C)
theorem Zt.under {W w w' : World} {C : List Int} {u : Value} (h : Zt W C u w) (hb : Below w.heap.size w w') : Zt W C u w' := ⟨h.below.trans (hb.mono h.below.size), own_under h.own hb⟩
theorem Zt.more {W w w' : World} {C E : List Int} {u v : Value} {n : Nat} {xs : List Value} (h : Zt W C u w) (hn : n = E.length) (hx : xs = nmc E) (hown : w'.ownsRow W.heap.size 3 1 v n xs) (hg : w.grownBy w' u.ownBlock) : Zt W E v w' := by
  subst hn; subst hx
  exact ⟨below_own h.below h.below.size h.own hg, hown⟩
end Go.Proofs.YtngbjccfmglbaaaDoor
