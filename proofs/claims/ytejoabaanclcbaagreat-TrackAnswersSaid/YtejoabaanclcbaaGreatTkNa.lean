/- The walk of TrackNames: for every list the law returns true, and what lay in memory is as it was. -/
import Derived.Test.YtejoabaanclcbaaGreatTkGa
namespace Go.Proofs.YtejoabaanclcbaaGreat.Tk
open Go.RowKit

abbrev e7 : ByteArray := ⟨#[69, 67, 72, 79, 55]⟩
/-- The first n reports have another name. -/
def ren (n : Nat) (B R : List Rq) : Prop := R.length = B.length ∧ ∀ j, ∀ h : j < R.length, ∀ h' : j < B.length, R[j] = if j < n then { B[j] with nm := e7 } else B[j]
/-- Both lists in memory, and apart. -/
structure Nw (w : World) (A B : List Rq) (ua ub : Value) (Y : World) : Prop where
  a : Lw w A ua Y
  b : Lw w B ub Y
  apart : ∀ i j, ua.ownBlock = some i → ub.ownBlock = some j → i ≠ j
theorem Nw.under {w Y Y' : World} {A B : List Rq} {ua ub : Value} (h : Nw w A B ua ub Y) (hb : Below Y.heap.size Y Y') : Nw w A B ua ub Y' := ⟨h.a.under hb, h.b.under hb, h.apart⟩
theorem Nw.step {w Y Y' : World} {A B : List Rq} {ua ub : Value} (h : Nw w A B ua ub Y) (hs : Src w w.heap.size Y') (hg : Y.grownBy Y' (some w.heap.size)) : Nw w A B ua ub Y' := ⟨h.a.step hs hg, h.b.step hs hg, h.apart⟩
theorem Nw.put {w Y : World} {A B : List Rq} {ua : Value} {g n cap : Nat} (h : Nw w A B ua (.slice (some ⟨g, 0, none⟩) n cap) Y) (hn : n = B.length) (i : Nat) (hi : i < B.length) :
    Nw w A (B.set i { B[i] with nm := e7 }) ua (.slice (some ⟨g, 0, none⟩) n cap) (Y.setCell ⟨g, i * 8 + 1, none⟩ (.string e7)) := by
  subst hn
  exact ⟨h.a.far _ _ (h.b.lt rfl).1 (fun k hk => h.apart k g hk rfl), (h.b.put i hi 1 (.string e7) { B[i] with nm := e7 } rfl (by omega)).1, h.apart⟩
theorem Lw.at2 {w Y : World} {R : List Rq} {g n cap : Nat} (h : Lw w R (.slice (some ⟨g, 0, none⟩) n cap) Y) (hn : n = R.length) (i : Nat) (hi : i < R.length) : At8 Y g (i * 8) R[i] := by
  subst hn
  exact h.at i hi
theorem Lw.some {w Y : World} {R : List Rq} {Ab : Option Addr} {n cap : Nat} (h : Lw w R (.slice Ab n cap) Y) (hp : 0 < R.length) : ∃ g, Ab = Option.some ⟨g, 0, none⟩ := by
  obtain ⟨base, h1, h2⟩ := h.own
  rcases h2.2 with ⟨e, h0⟩ | ⟨g, cap, cur, e, -⟩
  · omega
  · injection e with e
    exact ⟨g, e⟩
theorem nodup_le {n : Nat} : ∀ {l : List Nat}, l.Pairwise (fun x y => x < y) → (∀ x ∈ l, x < n) → l.length ≤ n := fun {l} h hl => by
  rcases Nat.eq_zero_or_pos l.length with h0 | h0
  · omega
  · have h1 := pw_nth h (l.length - 1) (by omega)
    have h2 := hl _ (List.getElem_mem (show l.length - 1 < l.length by omega))
    omega
theorem susL_len {h : Int} {R : List Rq} {l : List Nat} (hs : SusL h (sgl sea 0 R) l) : l.length ≤ R.length ∧ ∀ x ∈ l, x < R.length := ⟨nodup_le (susL_pw hs) (susL_lt hs), susL_lt hs⟩
/-- The suspects of the one, and the first ones of the other. -/
def pq (n : Nat) (p q : List Nat) (j : Nat) : List Nat := p ++ (q.take j).map (fun x => n + x)
end Go.Proofs.YtejoabaanclcbaaGreat.Tk

