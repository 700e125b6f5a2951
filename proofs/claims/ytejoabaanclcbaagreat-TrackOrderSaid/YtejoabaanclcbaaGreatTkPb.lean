/- Facts for TrackOrder: reports that all get the place of the first. -/
import Derived.Test.YtejoabaanclcbaaGreatTkPa
namespace Go.Proofs.YtejoabaanclcbaaGreat.Tk
open Go.RowKit Go.Maps

def samePl (a b : Rq) : Prop := a.F = b.F ∧ a.A = b.A ∧ a.B = b.B ∧ a.C = b.C
/-- The first i reports have the place of the first one. -/
def ZR (i : Nat) (X Z : List Rq) : Prop := Z.length = X.length ∧ ∀ j, ∀ h : j < Z.length, ∀ h' : j < X.length, Z[j].t = X[j].t ∧ Z[j].k = X[j].k ∧ Z[j].nm = X[j].nm ∧ (j < i ∨ j = 0 → samePl Z[j] (X[0]'(by omega)))
theorem zr_zero (X : List Rq) : ZR 0 X X := ⟨rfl, fun j h h' => ⟨rfl, rfl, rfl, fun hj => by
  obtain rfl : j = 0 := by omega
  exact ⟨rfl, rfl, rfl, rfl⟩⟩⟩
theorem zr_set {i : Nat} {X Z : List Rq} (h : ZR i X Z) (hi : i < Z.length) : ZR (i + 1) X (Z.set i { Z[i] with F := (Z[0]'(by omega)).F, A := (Z[0]'(by omega)).A, B := (Z[0]'(by omega)).B, C := (Z[0]'(by omega)).C }) := by
  have hl := h.1
  have h0 := (h.2 0 (by omega) (by omega)).2.2.2 (.inr rfl)
  refine ⟨by rw [List.length_set]; exact hl, fun j hj hj' => ?_⟩
  rw [List.getElem_set]
  split
  · next e =>
    subst e
    obtain ⟨a, b, c, -⟩ := h.2 i hi hj'
    exact ⟨a, b, c, fun _ => h0⟩
  · next e =>
    obtain ⟨a, b, c, d⟩ := h.2 j (by simpa using hj) hj'
    exact ⟨a, b, c, fun hji => d (by omega)⟩
theorem zr_at {m : Int} {X Z : List Rq} (h : ZR (X ++ [rl]).length (X ++ [rl]) Z) (_hd : DR m X) : ∀ r ∈ Z.take X.length, ∃ (j : Nat) (hj : j < X.length), r.t = X[j].t ∧ r.nm = X[j].nm ∧ samePl r (X[0]'(by omega)) := fun r hr => by
  obtain ⟨j, hj, rfl⟩ := List.getElem_of_mem hr
  have hl := h.1
  rw [List.length_append, List.length_singleton] at hl
  rw [List.length_take] at hj
  have hjx : j < X.length := by omega
  obtain ⟨a, b, c, d⟩ := h.2 j (by omega) (by rw [List.length_append]; omega)
  have e := d (.inl (by rw [List.length_append]; omega))
  refine ⟨j, hjx, ?_, ?_, ?_⟩
  · rw [List.getElem_take, a, List.getElem_append_left hjx]
  · rw [List.getElem_take, c, List.getElem_append_left hjx]
  · rw [List.getElem_take]
    rw [List.getElem_append_left (show 0 < X.length by omega)] at e
    exact e
theorem zr_times {m : Int} {X Z : List Rq} (h : ZR (X ++ [rl]).length (X ++ [rl]) Z) (_hd : DR m X) : (Z.take X.length).map Rq.t = X.map Rq.t := by
  have hl := h.1
  rw [List.length_append, List.length_singleton] at hl
  refine List.ext_getElem (by rw [List.length_map, List.length_map, List.length_take]; omega) fun j h1 h2 => ?_
  have hjx : j < X.length := by simpa using h2
  rw [List.getElem_map, List.getElem_map, List.getElem_take, (h.2 j (by omega) (by rw [List.length_append]; omega)).1, List.getElem_append_left hjx]
theorem zr_tne {m : Int} {X Z : List Rq} (h : ZR (X ++ [rl]).length (X ++ [rl]) Z) (hd : DR m X) : tne (Z.take X.length) := by
  have e := zr_times h hd
  have h1 := hd.1
  rw [← e] at h1
  exact (List.pairwise_map.1 h1).imp fun h => by omega
theorem zr_oks {m : Int} {X Z : List Rq} (h : ZR (X ++ [rl]).length (X ++ [rl]) Z) (hd : DR m X) (hm : m ≤ 52595999) : oks sea (Z.take X.length) := fun r hr _ => by
  obtain ⟨j, hj, h1, -, h2, h3, h4, h5⟩ := zr_at h hd r hr
  obtain ⟨k1, k2, -⟩ := hd.2 X[j] (List.getElem_mem _)
  obtain ⟨-, -, -, -, k5⟩ := hd.2 (X[0]'(by omega)) (List.getElem_mem _)
  unfold okr tOk
  rw [h2, h3, h4, h5, k5, Bool.true_and, decide_eq_true_iff, h1]
  omega
theorem zr_nm {m : Int} {X Z : List Rq} (h : ZR (X ++ [rl]).length (X ++ [rl]) Z) (hd : DR m X) : ∀ r ∈ Z.take X.length, r.nm.size ≤ 5 := fun r hr => by
  obtain ⟨j, hj, h1, h2, -⟩ := zr_at h hd r hr
  rw [h2]
  exact (hd.2 X[j] (List.getElem_mem _)).2.2.1
theorem zr_none {m k : Int} {X Z : List Rq} {l : List Nat} (h : ZR (X ++ [rl]).length (X ++ [rl]) Z) (hd : DR m X) (hk : 0 ≤ k) (hs : SusL k (sgl sea 0 (Z.take X.length)) l) : l = [] := by
  refine sus_none hs fun x hx y hy hxy => ?_
  obtain ⟨i, hi, rfl⟩ := sgl_of _ 0 x hx
  obtain ⟨j, hj, rfl⟩ := sgl_of _ 0 y hy
  obtain ⟨a, ha, -, -, a1, a2, a3, a4⟩ := zr_at h hd _ (List.getElem_mem hi)
  obtain ⟨b, hb, -, -, b1, b2, b3, b4⟩ := zr_at h hd _ (List.getElem_mem hj)
  unfold pls
  rw [decide_eq_true_iff]
  refine ⟨hxy, ?_⟩
  have k5 := (hd.2 (X[0]'(by omega)) (List.getElem_mem _)).2.2.2.2
  have e : hp (nod (Z.take X.length)[i].F (Z.take X.length)[i].A (Z.take X.length)[i].B (Z.take X.length)[i].C) (nod (Z.take X.length)[j].F (Z.take X.length)[j].A (Z.take X.length)[j].B (Z.take X.length)[j].C) = 0 := by
    rw [a1, a2, a3, a4, b1, b2, b3, b4]
    exact hp_self (nod_lt k5)
  have hxy2 : (Z.take X.length)[i].t < (Z.take X.length)[j].t := hxy
  have hm : 0 ≤ k * ((Z.take X.length)[j].t - (Z.take X.length)[i].t) := Int.mul_nonneg hk (by omega)
  show 1440 * ((hp _ _ : Nat) : Int) ≤ k * ((Z.take X.length)[j].t - (Z.take X.length)[i].t) + 1440
  rw [e]
  omega
/-- The first reports of a list in memory. -/
theorem RqIn.take {W : World} {A : Option Addr} {n cap k : Nat} {R : List Rq} (h : RqIn W (.slice A n cap) R) (hk : k ≤ R.length) : RqIn W (.slice A k cap) (R.take k) := by
  obtain ⟨A', cap', e, h2, h3, h4⟩ := h
  injection e with e1 e2 e3
  subst e1 e3
  refine ⟨A, cap, by rw [List.length_take, Nat.min_eq_left hk], by rw [List.length_take]; omega, h3, fun i hi => ?_⟩
  rw [List.length_take] at hi
  obtain ⟨g, off, e, hg, h8⟩ := h4 i (by omega)
  exact ⟨g, off, e, hg, by rw [List.getElem_take]; exact h8⟩
section
variable {w Y Y' : World} {R : List Rq} {u v : Value}
theorem Lw.app (h : Lw w R u Y) {r : Rq} {b : Nat} (hb : w.heap.size + 1 ≤ b) (h0 : Y.ownsRow b 35 8 u R.length (rqc R)) (ho : Y'.ownsRow b 35 8 v (R.length + 1) (rqc R ++ rqCells r)) (hg : Y.grownBy Y' u.ownBlock) : Lw w (R ++ [r]) v Y' := by
  have hbk : ∀ i, i < Y.heap.size → i ≤ w.heap.size → Y'.heap[i]? = Y.heap[i]? := fun i hi hi2 => hg.block i hi (fun e => by have := (own_lt h0 e.symm).1; omega)
  have hs := src_at h.src
  have hB : Below (w.heap.size + 1) Y Y' := ⟨hg.os, hg.tape, hg.output, hg.size, fun i hi => hbk i (by omega) (by omega)⟩
  refine ⟨?_, b, hb, ?_⟩
  · obtain ⟨A, n, cp, k, h1, h2, h3, h4⟩ := h.src.row
    exact ⟨h.src.base, h.src.below.trans (hB.mono (by omega)), A, n, cp, k, h1, h2, (hbk _ hs (by omega)).trans h3, h4⟩
  · rw [List.length_append, show rqc (R ++ [r]) = rqc R ++ rqCells r from by simp [rqc]]
    exact ho
end
end Go.Proofs.YtejoabaanclcbaaGreat.Tk

