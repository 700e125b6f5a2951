/- A list of numbers that a law reads from the source, while all else stays. -/
import Derived.Test.YtjabnicflpeopaaAwk
namespace Go.Proofs.Ytjabnicflpeopaa
open Go.RowKit

theorem Src.lt {W : World} {b : Nat} {w : World} (h : Src W b w) : b < w.heap.size := by
  obtain ⟨A, n, c, k, _, _, h3, _⟩ := h.row
  rcases Nat.lt_or_ge b w.heap.size with q | q
  · exact q
  · rw [Array.getElem?_eq_none q] at h3; cases h3
/-- The source's block is left alone. -/
theorem Src.grown {W : World} {b : Nat} {a c : World} {r : Option Nat} (h : Src W b a) (hg : a.grownBy c r) (hr : ∀ g, r = some g → W.heap.size ≤ g ∧ g ≠ b) : Src W b c := by
  obtain ⟨A, n, cc, k, h1, h2, h3, h4⟩ := h.row
  refine ⟨h.base, ⟨hg.os.trans h.below.os, hg.tape.trans h.below.tape, hg.output.trans h.below.output, Nat.le_trans h.below.size hg.size, fun i hi => (hg.block i (Nat.lt_of_lt_of_le hi h.below.size) (fun e => by have := (hr i e.symm).1; omega)).trans (h.below.block i hi)⟩, A, n, cc, k, h1, h2, (hg.block b h.lt (fun e => (hr b e.symm).2 rfl)).trans h3, h4⟩
/-- Bytes do not lie in the source's block. -/
theorem Bys.read {W : World} {b : Nat} {a c : World} {A : Option Addr} {cc : Nat} {L : List Nat} (h : Bys a A cc L) (hs : Src W b a) (hg : a.grownBy c (some b)) : Bys c A cc L :=
  ⟨h.1, h.2.1, h.2.2.1, h.2.2.2.1, fun i hi => by
    obtain ⟨bk, off, e, hlt, hc⟩ := h.2.2.2.2 i hi
    obtain ⟨A', n, c', k, _, _, h3, _⟩ := hs.row
    have hne : bk ≠ b := fun e => by
      subst e
      rw [Row.cell (t := 53) (cs := #[.slice A' n c', .int .i64 k]) h3] at hc
      rcases (by omega : off + i = 0 ∨ off + i = 1 ∨ 2 ≤ off + i) with q | q | q
      · rw [q] at hc; simp at hc
      · rw [q] at hc; simp at hc
      · rw [Array.getElem?_eq_none (by simpa using q)] at hc; cases hc
    refine ⟨bk, off, e, Nat.lt_of_lt_of_le hlt hg.size, ?_⟩
    rw [← hc]
    unfold World.cell?
    rw [show (⟨bk, off + i, Option.none⟩ : Addr).block = bk from rfl, hg.block bk hlt (fun e => hne (by injection e))]⟩
theorem Bx.read {W : World} {b : Nat} {a c : World} {g : Nat} {A : Option Addr} {cc : Nat} {L : List Nat} {n : Int} (h : Bx a g A cc L n) (hgb : g ≠ b) (hs : Src W b a) (hg : a.grownBy c (some b)) : Bx c g A cc L n :=
  ⟨h.1.grown hg (fun e => hgb (by injection e)), h.2.read hs hg⟩
structure Lst (W : World) (b : Nat) (Y0 : World) (v : Value) (X : List Int) (Y : World) : Prop where
  src : Src W b Y
  own : OwnI Y Y0.heap.size v X
  gro : Y0.grownBy Y (some b)
  lt : b < Y0.heap.size
  bits : ∀ x ∈ X, 0 ≤ x ∧ x < 2
theorem Lst.start {W : World} {b : Nat} {Y0 : World} (h : Src W b Y0) : Lst W b Y0 (.slice none 0 0) [] Y0 := ⟨h, OwnI.nil _ _, grown_refl _ _, h.lt, fun x hx => by cases hx⟩
theorem Lst.read {W : World} {b : Nat} {Y0 Y Y' : World} {v : Value} {X : List Int} (h : Lst W b Y0 v X Y) (hs : Src W b Y') (hg : Y.grownBy Y' (some b)) : Lst W b Y0 v X Y' :=
  ⟨hs, h.own.kept hg (.inr (fun e => by have := (h.own.lt b e).1; have := h.lt; omega)), grown_trans h.gro hg, h.lt, h.bits⟩
theorem Lst.alloc {W : World} {b : Nat} {Y0 Y : World} {v : Value} {X : List Int} (h : Lst W b Y0 v X Y) (o : Obj) : Lst W b Y0 v X (Y.alloc o) :=
  ⟨h.src.under ((Below.refl _ _).alloc (Nat.le_refl _) _), own_under h.own ((Below.refl _ _).alloc (Nat.le_refl _) _), grown_trans h.gro (grown_below ((Below.refl _ _).alloc (Nat.le_refl _) _)), h.lt, h.bits⟩
theorem Lst.more {W : World} {b : Nat} {Y0 Y Y' : World} {v v' : Value} {X : List Int} {x : Int} (h : Lst W b Y0 v X Y) (hx : 0 ≤ x ∧ x < 2)
    (hown : Y'.ownsRow Y0.heap.size 3 1 v' (X.length + 1) (ic X ++ [.int .i64 x])) (hg : Y.grownBy Y' v.ownBlock) : Lst W b Y0 v' (X ++ [x]) Y' :=
  ⟨h.src.grown hg (fun g e => by have := (h.own.lt g e).1; have := h.lt; have := h.src.base; omega), OwnI.more hown,
   ⟨hg.os.trans h.gro.os, hg.tape.trans h.gro.tape, hg.output.trans h.gro.output, Nat.le_trans h.gro.size hg.size, fun i hi hr => (hg.block i (Nat.lt_of_lt_of_le hi h.gro.size) (fun e => by have := (h.own.lt i e.symm).1; omega)).trans (h.gro.block i hi hr)⟩,
   h.lt, fun y hy => by
    rcases List.mem_append.1 hy with q | q
    · exact h.bits y q
    · rw [List.mem_singleton.1 q]; exact hx⟩
/-- A bit as a number. -/
theorem isb_num {X : List Int} (h : ∀ x ∈ X, 0 ≤ x ∧ x < 2) {i : Nat} (hi : i < X.length) : ((isb X i).toNat : Int) = X[i] := by
  have hx := h _ (List.getElem_mem hi)
  unfold isb
  rw [List.getD_eq_getElem?_getD, List.getElem?_eq_getElem hi, Option.getD_some]
  by_cases e : X[i] = 1
  · rw [e]; rfl
  · rw [decide_eq_false e]
    show (0 : Int) = _
    omega
end Go.Proofs.Ytjabnicflpeopaa
