/- Numbers sorted and without the repeated ones; the contract of Check. -/
import Derived.Test.YtngbjccfmglbaaaDoorLmC
import Derived.Test.YtngbjccfmglbaaaDoorShelf
import Derived.Test.YtngbjccfmglbaaaDoorInts
namespace Go.Proofs.YtngbjccfmglbaaaDoor
open Go.RowKit Go.Maps Go.Shelf Go.Sort

/-- What the sort of numbers leaves. -/
def SrtZ (W : World) (base : Nat) (v : Value) (l : List Int) (e : Ending) (w : World) : Prop :=
  e = .returned (.tuple #[]) ∧ W.grownBy w v.ownBlock ∧ w.ownsRow base 3 1 v l.length (nmc (l.mergeSort fun x y => decide (x ≤ y)))
theorem sortZ_any (w : World) (base : Nat) (v : Value) (l : List Int) (h : w.ownsRow base 3 1 v l.length (nmc l)) (hl : l.length ≤ 1000000) : Calls Tryd.prog 22 #[v] w (SrtZ w base v l) := by
  rcases h.2 with ⟨rfl, h0⟩ | ⟨g, cap, cur, rfl, hg, hb, hn, hcap, hs, ht⟩
  · obtain rfl : l = [] := List.eq_nil_of_length_eq_zero h0
    refine (AnyM.slices_Sort_int_none Tryd.sortInt none 0 w).mono ?_
    rintro e w' ⟨rfl, rfl⟩
    exact ⟨rfl, ⟨rfl, rfl, rfl, Nat.le_refl _, fun _ _ _ => rfl⟩, by rw [show ([] : List Int).mergeSort (fun x y => decide (x ≤ y)) = [] from by simp]; exact h⟩
  · have ht' : cur.toList.take l.length = l.map (Value.int .i64) := by simpa [nmc] using ht
    have hcon := AnyM.slices_Sort_int Tryd.sortInt g 0 cap l w (holds_of_blockI hb ht') (Array.getElem?_eq_some_iff.1 hb).1 (by omega)
    refine Calls.mono hcon ?_
    rintro e w' ⟨rfl, q, os, rfl⟩
    exact ⟨rfl, grownBy_sortedI _, ownsRow_sortedI (n := q) (os := os) (base := base) (ss := l) (ts := l.mergeSort fun x y => decide (x ≤ y)) (List.length_mergeSort _) hg hb hn hcap hs⟩
/-- What the list without the repeated ones is. -/
def CmpZ (W : World) (base : Nat) (v : Value) (l : List Int) (e : Ending) (w : World) : Prop :=
  ∃ u, e = .returned u ∧ W.grownBy w v.ownBlock ∧ w.ownsRow base 3 1 u (Lib.compact l).length (nmc (Lib.compact l))
theorem compact_len (l : List Int) : (Lib.compact l).length ≤ l.length := by
  have e : Lib.compact l = Lib.compactUpTo l.toArray l.length := by simp [Lib.compact]
  rw [e]
  unfold Lib.compactUpTo
  rw [List.length_map]
  exact Nat.le_trans (List.length_filter_le _ _) (by simp)
theorem compZ_any (w : World) (base : Nat) (v : Value) (l : List Int) (h : w.ownsRow base 3 1 v l.length (nmc l)) (hl : l.length ≤ 1000000) : Calls Tryd.prog 23 #[v] w (CmpZ w base v l) := by
  rcases h.2 with ⟨rfl, h0⟩ | ⟨g, cap, cur, rfl, hg, hb, hn, hcap, hs, ht⟩
  · obtain rfl : l = [] := List.eq_nil_of_length_eq_zero h0
    refine (Any.slices_Compact_int_empty Tryd.lCompact none 0 w).mono ?_
    rintro e w' ⟨rfl, rfl⟩
    exact ⟨_, rfl, ⟨rfl, rfl, rfl, Nat.le_refl _, fun _ _ _ => rfl⟩, h⟩
  · have ht' : cur.toList.take l.length = l.map (Value.int .i64) := by simpa [nmc] using ht
    have hc := compact_len l
    have hcon := Any.slices_Compact_int Tryd.lCompact g 0 cap l w (holds_of_blockI hb ht') (by omega) hn
    refine Calls.mono hcon ?_
    rintro e w' ⟨rfl, q, rfl⟩
    have hG : w.grownBy (putRow (Value.int .i64) (Sort.ahead w q) g 0 (Lib.compact l ++ List.replicate (l.length - (Lib.compact l).length) 0).toArray) (some g) := by
      refine ⟨rfl, rfl, rfl, by simp, fun k hk hne => ?_⟩
      have : g ≠ k := fun e => hne (by rw [e])
      simp [putRow, mapBlock, Sort.ahead, Array.getElem?_modify, this]
    refine ⟨_, rfl, hG, ?_, .inr ⟨g, cap, putCells (Value.int .i64) 0 (Lib.compact l ++ List.replicate (l.length - (Lib.compact l).length) 0).toArray cur, rfl, hg, ?_, by omega, hcap, by simp [putCells, hs], ?_⟩⟩
    · simp [nmc]
    · simp [putRow, mapBlock, Sort.ahead, Array.getElem?_modify, hb, onCells]
    · have hz : (Lib.compact l ++ List.replicate (l.length - (Lib.compact l).length) (0 : Int)).length ≤ cur.size := by rw [List.length_append, List.length_replicate]; omega
      have h9 := take_putCellsI cur (Lib.compact l ++ List.replicate (l.length - (Lib.compact l).length) (0 : Int)) hz
      have h8 := congrArg (fun L => L.take (Lib.compact l).length) h9
      simp only [List.take_take, List.map_append] at h8
      rw [List.take_append_of_le_length (by simp), List.take_of_length_le (l := (Lib.compact l).map _) (by simp)] at h8
      rw [Nat.mul_one]
      rw [List.length_append, Nat.min_eq_left (by omega)] at h8
      exact h8
end Go.Proofs.YtngbjccfmglbaaaDoor

