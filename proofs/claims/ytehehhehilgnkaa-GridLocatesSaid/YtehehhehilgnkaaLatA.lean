/- The contract of newLattice. -/
import Derived.Test.YtehehhehilgnkaaCount
namespace Go.Proofs.Ytehehhehilgnkaa
open Go.RowKit Go.Maps

/-- All of these are 0. -/
def allZ : List Value → Bool
  | [] => true
  | .int .i64 (.ofNat 0) :: r => allZ r
  | _ => false
theorem allZ_get : ∀ {l : List Value} {j : Nat}, allZ l = true → j < l.length → l[j]? = some (.int .i64 0)
  | [], _, _, h => by simp at h
  | v :: r, j, h, hj => by
    unfold allZ at h
    split at h
    · rename_i e; cases e
    · rename_i r' e
      injection e with e1 e2
      subst e1 e2
      cases j with
      | zero => rfl
      | succ j => simpa using allZ_get h (by simpa using hj)
    · cases h
theorem zeroLat0 : allZ (Try.zeroCells86.toList.drop 1) = true := by kernel_rfl
theorem zeroLat (j : Nat) (hj : j < 1620) : Try.zeroCells86[j + 1]? = some (.int .i64 0) := by
  have h := allZ_get (j := j) zeroLat0 (by simp only [List.length_drop, Array.length_toList]; rw [Try.zeroCells86_size]; omega)
  rw [List.getElem?_drop, Array.getElem?_toList, Nat.add_comm] at h
  exact h
def Mks (W : World) (n gl gm : Nat) (s : Lat.St) (w : World) : Prop := Mk W n gl gm s.rv s.cnt s.bor s.ix w
theorem run_le (n : Nat) (l : List Lat.Pt) : (Lat.run n l).cnt ≤ l.length ∧ (Lat.run n l).bor.length ≤ l.length := by
  suffices h : ∀ (l : List Lat.Pt) (s : Lat.St), (l.foldl (Lat.step n) s).cnt ≤ s.cnt + l.length ∧ (l.foldl (Lat.step n) s).bor.length ≤ s.bor.length + l.length by
    have := h l Lat.St.none
    simpa [Lat.run, Lat.St.none] using this
  intro l
  induction l with
  | nil => intro s; simp
  | cons p r ih =>
    intro s
    have h1 := ih (Lat.step n s p)
    have h2 : (Lat.step n s p).cnt ≤ s.cnt + 1 ∧ (Lat.step n s p).bor.length ≤ s.bor.length + 1 := by
      unfold Lat.step
      split
      · split <;> simp [Lat.fresh]
      · simp [Lat.fresh]
    simp only [List.foldl_cons, List.length_cons]
    omega
theorem pts_len {n : Nat} (hn : n ≤ 8) (k : Nat) : (Lat.pts n k).length ≤ k * 81 := by
  induction k with
  | zero => simp [Lat.pts]
  | succ k ih =>
    rw [Lat.pts_succ, List.length_append]
    have : ∀ j, j ≤ n + 1 → (Lat.face n k j).length ≤ j * 9 := by
      intro j
      induction j with
      | zero => simp [Lat.face]
      | succ j ih2 =>
        intro hj
        rw [Lat.face_succ, List.length_append]
        have := ih2 (by omega)
        simp [Lat.row]; omega
    have := this (n + 1) (Nat.le_refl _)
    omega
theorem face_len {n : Nat} (hn : n ≤ 8) (f j : Nat) (hj : j ≤ n + 1) : (Lat.face n f j).length ≤ j * 9 := by
  induction j with
  | zero => simp [Lat.face]
  | succ j ih2 =>
    rw [Lat.face_succ, List.length_append]
    have := ih2 (by omega)
    simp [Lat.row]; omega
/-- What is behind some points of a face. -/
def at3 (n f a b : Nat) : Lat.St := Lat.run n (Lat.pts n f ++ Lat.face n f a ++ Lat.row n f a b)
theorem at3_le {n f a b : Nat} (hn : n ≤ 8) (hf : f < 20) (ha : a ≤ n + 1) (hb : b ≤ 9) : (at3 n f a b).cnt ≤ 100000 ∧ (at3 n f a b).bor.length ≤ 100000 := by
  have h := run_le n (Lat.pts n f ++ Lat.face n f a ++ Lat.row n f a b)
  have h1 := pts_len hn f
  have h2 := face_len hn f a ha
  simp only [List.length_append] at h
  have h3 : (Lat.row n f a b).length = b := by simp [Lat.row]
  unfold at3
  omega
theorem at3_b (n f a b : Nat) : at3 n f a (b + 1) = Lat.step n (at3 n f a b) (f, a, b) := by
  unfold at3; rw [Lat.row_succ, ← List.append_assoc, Lat.run_snoc]
theorem at3_a (n f a : Nat) : at3 n f a (n + 1 - a) = at3 n f (a + 1) 0 := by
  unfold at3; rw [Lat.face_succ]; simp [Lat.row]
theorem at3_f (n f : Nat) : at3 n f (n + 1) 0 = at3 n (f + 1) 0 0 := by
  unfold at3; rw [Lat.pts_succ]; simp [Lat.row, Lat.face]
theorem at3_0 (n : Nat) : at3 n 0 0 0 = Lat.St.none := by simp [at3, Lat.pts, Lat.face, Lat.row, Lat.run]
theorem at3_fin (n : Nat) : at3 n 20 0 0 = Lat.fin n := by simp [at3, Lat.face, Lat.row, Lat.fin]
/-- What enter leaves: the point's index, everything but the table of indexes as the step has it. -/
def Ent (W : World) (n gl gm : Nat) (s : Lat.St) (p : Lat.Pt) (e : Ending) (w' : World) : Prop :=
  ∃ i : Nat, e = .returned (.int .i64 i) ∧ (Lat.step n s p).ix = (Lat.off p.1 p.2.1 p.2.2, i) :: s.ix ∧ Mk W n gl gm (Lat.step n s p).rv (Lat.step n s p).cnt (Lat.step n s p).bor s.ix w'
theorem enter_any (W : World) (n gl gm f a b c : Nat) (s : Lat.St) (w : World) (h : Mks W n gl gm s w) (hn : Lat.frq n) (hf : f < 20) (hab : a + b ≤ n) (hc : c = n - a - b) (h1 : s.cnt ≤ 100000) (h2 : s.bor.length ≤ 100000) :
    Calls Try.prog 61 #[.pointer (some ⟨gl, 0, none⟩), .agg #[.int .i64 f, .int .i64 a, .int .i64 b, .int .i64 c], .map (some gm)] w (Ent W n gl gm s (f, a, b)) := by
  unfold Lat.frq at hn
  subst hc
  by_cases hz : a = 0 ∨ b = 0 ∨ n - a - b = 0
  · cases hl : Lat.look (Lat.pk f a b (n - a - b)) s.bor with
    | some i =>
      have hs : Lat.step n s (f, a, b) = { s with ix := (Lat.off f a b, i) :: s.ix } := by simp only [Lat.step, if_pos hz, hl]
      exact (enter_known W n gl gm f a b (n - a - b) i s.rv s.cnt s.bor s.ix w h hf (by omega) (by omega) (by omega) hz hl).mono fun e w' ⟨he, hm⟩ => ⟨i, he, by rw [hs], by rw [hs]; exact hm⟩
    | none =>
      have hs : Lat.step n s (f, a, b) = Lat.fresh (f, a, b) s ((Lat.pk f a b (n - a - b), s.cnt) :: s.bor) := by simp only [Lat.step, if_pos hz, hl]
      exact (enter_new W n gl gm f a b (n - a - b) s.rv s.cnt s.bor s.ix w h hf (by omega) (by omega) (by omega) hz hl (by omega) (by omega) h1 h2).mono fun e w' ⟨he, hm⟩ => ⟨s.cnt, he, by rw [hs]; rfl, by rw [hs]; exact hm⟩
  · have hs : Lat.step n s (f, a, b) = Lat.fresh (f, a, b) s s.bor := by simp only [Lat.step, if_neg hz]
    exact (enter_in W n gl gm f a b (n - a - b) s.rv s.cnt s.bor s.ix w h hf (by omega) (by omega) (by omega) (by omega) (by omega) (by omega) (by omega) h1).mono fun e w' ⟨he, hm⟩ => ⟨s.cnt, he, by rw [hs]; rfl, by rw [hs]; exact hm⟩
/-- The start. -/
theorem mks_start {W w1 : World} {n : Nat} (hb : Below W.heap.size W w1) (hown : w1.ownsRow W.heap.size 23 4 (.slice (some ⟨W.heap.size, 0, none⟩) 0 (cn n)) 0 []) (hg : W.heap.size ≤ w1.heap.size) :
    Mks W n w1.heap.size (w1.heap.size + 1) (at3 n 0 0 0) ((w1.alloc (.cells (Try.zeroCells86.setIfInBounds 0 (.slice (some ⟨W.heap.size, 0, none⟩) 0 (cn n))) 86)).alloc (.map #[] 0)) := by
  rw [at3_0]
  have hz := Try.zeroCells86_size
  refine ⟨(hb.alloc hb.size _).alloc (by have := hb.size; simp; omega) _, by omega, by omega, ⟨_, W.heap.size, cn n, (Row.new _ _ _).alloc _, by simp [hz], by simp [hz, Lat.St.none], ?_, fun j hj => ?_⟩, .map [], 0, ?_, Bor.start, Nat.le_refl _⟩
  · exact (hown.alloc _).alloc _
  · rw [Array.getElem?_setIfInBounds, if_neg (by omega), zeroLat j hj]
    simp [Lat.St.none, Lat.look]
  · have := World.ownsMap_made (H := Unit) (w1.alloc (.cells (Try.zeroCells86.setIfInBounds 0 (.slice (some ⟨W.heap.size, 0, none⟩) 0 (cn n))) 86)) Try.prog 118 (plainElem Try.prog 3)
    simpa using this
end Go.Proofs.Ytehehhehilgnkaa
