/- The walk of TimelineSpike. -/
import Derived.Test.YtlakgkoohdfiaaaDoorTmZ0
import Derived.Test.YtlakgkoohdfiaaaDoorQar
import Derived.Test.YtlakgkoohdfiaaaDoorQaj
namespace Go.Proofs.YtlakgkoohdfiaaaDoor.Tm
open Go.RowKit Go.Great

theorem own_setN {w : World} {base n g cap size : Nat} {e : TypeId} {xs : List Value} (h : w.ownsRow base e size (.slice (some ⟨g, 0, none⟩) n cap) n xs) (j : Nat) (u : Value) : (w.setCell ⟨g, j, none⟩ u).ownsRow base e size (.slice (some ⟨g, 0, none⟩) n cap) n (xs.set j u) := by
  have hx := h
  rcases hx.2 with ⟨h0, _⟩ | ⟨g', cap', cur, h0, hb, hh, hle, hmax, hsz, htk⟩
  · cases h0
  · injection h0 with h0 _ h3
    injection h0 with h0
    injection h0 with h0
    subst h0
    subst h3
    refine ⟨by rw [List.length_set]; exact h.1, .inr ⟨g, cap, cur.setIfInBounds j u, rfl, hb, ?_, hle, hmax, by rw [Array.size_setIfInBounds]; exact hsz, by rw [Array.toList_setIfInBounds, List.take_set, htk]⟩⟩
    simp [World.setCell, Array.getElem?_modify, hh]
/-- A report with other readings. -/
def rpU (r : Rp) (u : Value) (L : List El.Elt.R) : Rp := ⟨r.k, r.nm, r.t, r.F, r.A, r.B, r.C, u, L⟩
theorem rpc_set7 : ∀ (Q : List Rp) (i : Nat) (h : i < Q.length) (u : Value) (L : List El.Elt.R), (rpc Q).set (i * 8 + 7) u = rpc (Q.set i (rpU Q[i] u L))
  | y :: r, 0, _, u, L => rfl
  | y :: r, i + 1, h, u, L => by
    have := rpc_set7 r i (by simpa using h) u L
    show (rpCells y ++ rpc r).set ((i + 1) * 8 + 7) u = rpCells y ++ rpc (r.set i (rpU (r[i]'(by simpa using h)) u L))
    have e : (i + 1) * 8 + 7 = (rpCells y).length + (i * 8 + 7) := by show (i + 1) * 8 + 7 = 8 + (i * 8 + 7); omega
    rw [e, List.set_append_right _ _ (by omega), Nat.add_sub_cancel_left, this]
theorem Ho.at {w Y : World} {r : Option Nat} {Q : List Rp} {A : Option Addr} {n cap : Nat} (h : Ho w r Q (.slice A n cap) Y) (hp : 0 < Q.length) : ∃ g, A = some ⟨g, 0, none⟩ ∧ w.heap.size ≤ g ∧ g < Y.heap.size := by
  rcases h.own.2 with ⟨h0, h1⟩ | ⟨g, cap, cur, h0, hb, hh, -⟩
  · omega
  · injection h0 with h0
    exact ⟨g, h0, hb, (Array.getElem?_eq_some_iff.1 hh).1⟩
theorem Ho.put {w Y : World} {r : Option Nat} {Q : List Rp} {g n cap : Nat} (h : Ho w r Q (.slice (some ⟨g, 0, none⟩) n cap) Y) {i : Nat} (hi : i < Q.length) (u : Value) (L : List El.Elt.R) (hu : Y.ownsRow w.heap.size 81 2 u L.length (El.rdc L)) : Ho w r (Q.set i (rpU Q[i] u L)) (.slice (some ⟨g, 0, none⟩) n cap) (Y.setCell ⟨g, i * 8 + 7, none⟩ u) := by
  have hn : n = Q.length := by obtain ⟨A, c, e⟩ := row_form h.own; injection e
  subst hn
  have ho := own_setN h.own (i * 8 + 7) u
  have hgb : w.heap.size ≤ g := by
    obtain ⟨g', e, hb, -⟩ := h.at (by omega)
    injection e with e; injection e with e; omega
  have key : ∀ {r0 : Rp}, Y.ownsRow w.heap.size 81 2 r0.u r0.L.length (El.rdc r0.L) → (Y.setCell ⟨g, i * 8 + 7, none⟩ u).ownsRow w.heap.size 81 2 r0.u r0.L.length (El.rdc r0.L) := fun {r0} hq =>
    own_heap hq (fun k hk => Below.heap_setCell _ _ _ _ (fun e => by
      have e' : k = g := e
      subst e'
      obtain ⟨c1, h1, -⟩ := row_own h.own rfl
      obtain ⟨c2, h2, -⟩ := row_own hq hk
      rw [h1] at h2; injection h2 with h2; injection h2 with _ h2; exact absurd h2 (by decide)))
  refine ⟨⟨h.gro.os, h.gro.tape, h.gro.output, by simpa [World.setCell] using h.gro.size, fun k hk hne => (Below.heap_setCell _ _ _ _ (by show k ≠ g; omega)).trans (h.gro.block k hk hne)⟩, ?_, fun q hq => ?_, h.hr⟩
  · rw [List.length_set, ← rpc_set7 Q i hi u L]; exact ho
  · rcases List.mem_or_eq_of_mem_set hq with q1 | q1
    · exact key (h.rds q q1)
    · rw [q1]; exact key (r0 := rpU Q[i] u L) hu
end Go.Proofs.YtlakgkoohdfiaaaDoor.Tm
