/- Facts that the laws share: what is known of drawn reports, chains without an error. -/
import Derived.Test.YtejoabaanclcbaaGreatTkRp
import Derived.Test.YtejoabaanclcbaaGreatTkAw
namespace Go.Proofs.YtejoabaanclcbaaGreat.Tk
open Go.RowKit

/-- The reader and a drawn list. -/
structure Lw (w : World) (R : List Rq) (u : Value) (Y : World) : Prop where
  src : Src w w.heap.size Y
  own : ∃ base, w.heap.size + 1 ≤ base ∧ Y.ownsRow base 35 8 u R.length (rqc R)
section
variable {w Y Y' : World} {R : List Rq} {u : Value}
theorem Lw.under (h : Lw w R u Y) (hb : Below Y.heap.size Y Y') : Lw w R u Y' := by
  obtain ⟨base, h1, h2⟩ := h.own
  exact ⟨h.src.under hb, base, h1, own_under h2 hb⟩
theorem Lw.step (h : Lw w R u Y) (hs : Src w w.heap.size Y') (hg : Y.grownBy Y' (some w.heap.size)) : Lw w R u Y' := by
  obtain ⟨base, h1, h2⟩ := h.own
  exact ⟨hs, base, h1, own_keep h2 fun i hi => hg.block i (own_lt h2 hi).2 (fun e => by injection e with e; have := (own_lt h2 hi).1; omega)⟩
theorem Lw.rq (h : Lw w R u Y) : RqIn Y u R := by
  obtain ⟨base, h1, h2⟩ := h.own
  exact RqIn.own h2
theorem Lw.form (h : Lw w R u Y) : (u = .slice none R.length 0 ∧ R.length = 0) ∨ ∃ g cap, u = .slice (some ⟨g, 0, none⟩) R.length cap := by
  obtain ⟨base, h1, h2⟩ := h.own
  rcases h2.2 with ⟨e, h0⟩ | ⟨g, cap, cur, e, -⟩
  · exact .inl ⟨by rw [e, h0], h0⟩
  · exact .inr ⟨g, cap, e⟩
theorem Lw.at {g cap : Nat} (h : Lw w R (.slice (some ⟨g, 0, none⟩) R.length cap) Y) (i : Nat) (hi : i < R.length) : At8 Y g (i * 8) R[i] := by
  obtain ⟨A0, c0, e0, -, -, h8⟩ := id h.rq
  injection e0 with e0 e1 e2
  subst e0
  obtain ⟨g', off', e', hg, h8b⟩ := h8 i hi
  injection e' with e'
  injection e' with e' e''
  subst e' e''
  rw [Nat.zero_add] at h8b
  exact h8b
theorem Lw.start {w1 : World} {n : Nat} {one : Bool} {e : Ending} (hs : Src w w.heap.size w1) (h : RpO w w.heap.size w1 n one e Y) : ∃ (R : List Rq) (u : Value) (m : Int), (RF one R m ∧ m ≤ 14000000 + 400 * R.length) ∧ R.length ≤ n ∧ e = .returned u ∧ Lw w R u Y ∧ w1.grownBy Y (some w.heap.size) := by
  obtain ⟨R, u, m, h1, h2, h3, ⟨h4, h5⟩, base, h6, h7⟩ := h
  exact ⟨R, u, m, h1, h2, h3, ⟨h4, base, by have := src_at hs; omega, h7⟩, h5⟩
end
/-- The node of a report. -/
noncomputable def rn (r : Rq) : Nat := nod r.F r.A r.B r.C
end Go.Proofs.YtejoabaanclcbaaGreat.Tk

