/- A report that a law shifts. -/
import Derived.Test.YtlakgkoohdfiaaaDoorQar
import Derived.Test.YtlakgkoohdfiaaaDoorERVal
import Derived.Test.YtlakgkoohdfiaaaDoorTmB
namespace Go.Proofs.YtlakgkoohdfiaaaDoor.Tm
open Go.RowKit Go.Great

/-- A report whose readings are being written. -/
structure Qi (w0 : World) (gq : Nat) (c : Value → Array Value) (u : Value) (L : List El.Elt.R) (Y : World) : Prop where
  below : Below w0.heap.size w0 Y
  box : Row Y gq 38 (c u)
  own : Y.ownsRow w0.heap.size 81 2 u L.length (El.rdc L)
  hq : w0.heap.size ≤ gq
theorem Qi.under {w0 Y Y' : World} {gq : Nat} {c : Value → Array Value} {u : Value} {L : List El.Elt.R} (h : Qi w0 gq c u L Y) (hb : Below Y.heap.size Y Y') : Qi w0 gq c u L Y' :=
  ⟨h.below.trans (hb.mono h.below.size), h.box.under hb, El.own_under h.own hb, h.hq⟩
theorem Qi.ne {w0 Y : World} {gq : Nat} {c : Value → Array Value} {u : Value} {L : List El.Elt.R} (h : Qi w0 gq c u L Y) : some gq ≠ u.ownBlock := fun e => by
  obtain ⟨c1, h1, -⟩ := row_own h.own e.symm
  have h2 := h.box
  rw [h2] at h1; injection h1 with h1; injection h1 with _ h1; exact absurd h1 (by decide)
theorem Qi.bel {w0 Y w9 : World} {gq : Nat} {c : Value → Array Value} {u : Value} {L : List El.Elt.R} (h : Qi w0 gq c u L Y) (hg : Y.grownBy w9 u.ownBlock) : Below w0.heap.size w0 w9 := by
  refine ⟨hg.os.trans h.below.os, hg.tape.trans h.below.tape, hg.output.trans h.below.output, Nat.le_trans h.below.size hg.size, fun i hi => ?_⟩
  have := h.below.size
  exact (hg.block i (by omega) (fun e => by have := row_base h.own e.symm; omega)).trans (h.below.block i hi)
/-- The readings are appended and stored back. -/
theorem Qi.app {w0 Y w9 : World} {gq : Nat} {c : Value → Array Value} {u u' : Value} {L L' : List El.Elt.R} (h : Qi w0 gq c u L Y) (hg : Y.grownBy w9 u.ownBlock) (ho : w9.ownsRow w0.heap.size 81 2 u' L'.length (El.rdc L'))
    (hc : ∀ v v', (c v).setIfInBounds 7 v' = c v') : Qi w0 gq c u' L' (w9.setCell ⟨gq, 7, none⟩ u') := by
  have hb := h.box.grown hg h.ne
  refine ⟨set1_below (h.bel hg) h.hq, by have := hb.put 7 u'; rwa [hc] at this, own_heap ho (fun i hi => Below.heap_setCell _ _ _ _ (fun e => ?_)), h.hq⟩
  obtain ⟨c1, h1, -⟩ := row_own ho hi
  have e' : i = gq := e
  rw [e'] at h1
  rw [hb] at h1; injection h1 with h1; injection h1 with _ h1; exact absurd h1 (by decide)
/-- A part of the reports, shifted. -/
def ShK (d T : Int) (Q Q' : List Rp) : Prop := (∀ j, ∀ h : j < Q.length, ∀ h' : j < Q'.length, Q'[j].nm = Q[j].nm ∧ Q'[j].t = Q[j].t + T ∧ Q'[j].L = shL d Q[j].L) ∧ ∀ r ∈ Q', El.Elt.vld r.L = 0
theorem ShK.snoc {d T : Int} {Q Q' : List Rp} (h : ShK d T Q Q') (hl : Q'.length < Q.length) {r : Rp} (hr : Q[Q'.length] = r) (q : Rp) (h1 : q.nm = r.nm) (h2 : q.t = r.t + T) (h3 : q.L = shL d r.L) (hv : El.Elt.vld q.L = 0) : ShK d T Q (Q' ++ [q]) := by
  refine ⟨fun j hj hj' => ?_, fun r hr => ?_⟩
  · rw [List.length_append, List.length_singleton] at hj'
    rcases (by omega : j < Q'.length ∨ j = Q'.length) with e | e
    · rw [List.getElem_append_left e]; exact h.1 j hj e
    · subst e
      rw [List.getElem_append_right (Nat.le_refl _)]
      simp only [Nat.sub_self, List.getElem_singleton, hr]
      exact ⟨h1, h2, h3⟩
  · rcases List.mem_append.1 hr with e | e
    · exact h.2 r e
    · rw [List.mem_singleton.1 e]; exact hv
theorem Shf.er {Q Q' : List Rp} {d T lo m : Int} {cs : Array Value} {S P : Int → Int} (h : Shf Q Q' d T) (hv : ∀ r ∈ Q', El.Elt.vld r.L = 0) (hs : Ser lo m Q) (hc : CtB cs S P) (hl : 0 ≤ lo) (hm : m + T ≤ 52595999) (hT : 0 ≤ T) : erT Q' S P = 0 := by
  have hll := h.len
  refine erT_zero hc.s hc.p hv (fun r hr => ?_) (h.dis (asc_dis hs.asc))
  obtain ⟨j, hj, rfl⟩ := List.getElem_of_mem hr
  rw [(h.at_ j (by omega) hj).2.1]
  have := hs.bd _ (List.getElem_mem (by omega : j < Q.length))
  omega
theorem Shf.nms {Q Q' : List Rp} {d T : Int} (h : Shf Q Q' d T) (hn : ∀ r ∈ Q, r.nm.size ≤ 40) : ∀ r ∈ Q', r.nm.size ≤ 40 := fun r hr => by
  obtain ⟨j, hj, rfl⟩ := List.getElem_of_mem hr
  have hl := h.len
  rw [(h.at_ j (by omega) hj).1]
  exact hn _ (List.getElem_mem _)
theorem sh_take {d : Int} {L : List El.Elt.R} {k : Nat} (h : k < L.length) : shL d (L.take (k + 1)) = shL d (L.take k) ++ [(L[k].1, if L[k].1 = 1 then L[k].2 + d else L[k].2)] := by
  unfold shL
  rw [List.take_add_one, List.getElem?_eq_getElem h, List.map_append]
  rfl
end Go.Proofs.YtlakgkoohdfiaaaDoor.Tm
