/- The contract of the reader's Order: a permutation of the first numbers. -/
import Derived.Test.YtejoabaanclcbaaGreatTkGa
namespace Go.Proofs.YtejoabaanclcbaaGreat.Tk
open Go.RowKit

def nmc (C : List Int) : List Value := C.map (Value.int .i64)
theorem src_row {W w : World} {b : Nat} (h : Src W b w) : ∃ cs, Row w b 58 cs := by
  obtain ⟨A, n, c, k, h1, h2, h3, h4⟩ := h.row
  exact ⟨_, h3⟩
/-- The list with x put in at k. -/
def insK (k : Nat) (x : Int) (P : List Int) : List Int := P.take k ++ x :: P.drop k
theorem insK_len {k : Nat} {x : Int} {P : List Int} (h : k ≤ P.length) : (insK k x P).length = P.length + 1 := by unfold insK; simp; omega
theorem insK_perm (k : Nat) (x : Int) (P : List Int) : (insK k x P).Perm (x :: P) := by
  unfold insK
  exact List.perm_middle.trans (List.Perm.cons x (by rw [List.take_append_drop]))
/-- The first n numbers. -/
def upto (n : Nat) : List Int := (List.range n).map fun (j : Nat) => (j : Int)
/-- What is known while the order grows. -/
structure Orr (W : World) (b : Nat) (w0 : World) (P : List Int) (u : Value) (w : World) : Prop where
  src : Src W b w
  gro : w0.grownBy w (some b)
  own : ∃ base, w0.heap.size ≤ base ∧ w.ownsRow base 3 1 u P.length (nmc P)
  nz : P = [] → u = .slice none 0 0
theorem Orr.step {W w0 w w' : World} {b : Nat} {P : List Int} {u : Value} (h : Orr W b w0 P u w) (hs : Src W b w') (hg : w.grownBy w' (some b)) : Orr W b w0 P u w' := by
  obtain ⟨cs, hr⟩ := src_row h.src
  obtain ⟨base, h1, h2⟩ := h.own
  exact ⟨hs, grown_trans h.gro hg, ⟨base, h1, h2.kept hg (.inr (fun e => own_ne h2 hr (by decide) e.symm))⟩, h.nz⟩
theorem Orr.next {W w0 w w' : World} {b base : Nat} {P Q : List Int} {u v : Value} {m : Nat} (h : Orr W b w0 P u w) (hb : Below w.heap.size w w') (ho : w'.ownsRow base 3 1 v m (nmc Q)) (hm : m = Q.length) (hbase : w.heap.size ≤ base) (hq : 0 < m) : Orr W b w0 Q v w' :=
  ⟨h.src.under hb, grown_trans h.gro (grown_below hb), ⟨base, Nat.le_trans h.gro.size hbase, by rw [← hm]; exact ho⟩, fun e => by rw [e] at hm; simp at hm; omega⟩
/-- What Order leaves. -/
def Ordd (W : World) (b : Nat) (w : World) (n : Nat) (e : Ending) (w' : World) : Prop := ∃ u P, e = .returned u ∧ P.Perm (upto n) ∧ Orr W b w P u w'
end Go.Proofs.YtejoabaanclcbaaGreat.Tk

