/- The contract of the reference's Locate. -/
import Derived.Test.YtehehhehilgnkaaRShs
namespace Go.Proofs.Ytehehhehilgnkaa
open Go.RowKit

/-- The shares of the points so far, as the reference holds them. -/
def RL (w : World) (n f : Nat) (T : List ((Nat × Nat) × Int)) (v : Value) : Prop := ∃ L, SL w L v ∧ L.Perm (Lat.shl n f T) ∧ L.Pairwise (fun a b : Nat × Int => a.1 ≤ b.1)
theorem RL.start (w : World) (n f : Nat) : RL w n f [] (.slice none 0 0) := ⟨[], .inl ⟨rfl, rfl⟩, List.Perm.nil, List.Pairwise.nil⟩
theorem RL.under {w w' : World} {n f : Nat} {T : List ((Nat × Nat) × Int)} {v : Value} (h : RL w n f T v) (hb : Below w.heap.size w w') : RL w' n f T v := by
  obtain ⟨L, a, b⟩ := h
  exact ⟨L, a.under hb, b⟩
/-- What one more call of share leaves. -/
def RLP (W : World) (n f : Nat) (T : List ((Nat × Nat) × Int)) (e : Ending) (w : World) : Prop := ∃ v, e = .returned v ∧ Below W.heap.size W w ∧ RL w n f T v
theorem refshare_step (n f a b : Nat) (T : List ((Nat × Nat) × Int)) (v : Value) (y : Int) (w : World) (h : RL w n f T v) (hT : T.length ≤ 2) (hy : 0 ≤ y) :
    Calls Try.prog 44 #[v, .int .i64 (Lat.idx n f a b : Nat), .int .i64 y] w (RLP w n f (T ++ [((a, b), y)])) := by
  obtain ⟨L, hS, hp, hs⟩ := h
  have hl : L.length ≤ 2 := by
    rw [hp.length_eq]
    exact Nat.le_trans (List.length_filterMap_le _ _) hT
  by_cases h0 : y = 0
  · subst h0
    refine (refshare_zero _ _ _).mono ?_
    rintro e w' ⟨rfl, rfl⟩
    exact ⟨v, rfl, Below.refl _ _, L, hS, by rw [Lat.shl_no (t := ((a, b), (0 : Int))) (by simp)]; exact hp, hs⟩
  · have hpos : 0 < y := by omega
    have key : Calls Try.prog 44 #[v, .int .i64 (Lat.idx n f a b : Nat), .int .i64 y] w (RShareP w L (Lat.idx n f a b, y)) := by
      rcases hS with ⟨rfl, rfl⟩ | ⟨g, cap, rfl, h1, h2, h3, h4, h5⟩
      · exact refshare_nil _ _ _ h0
      · exact refshare_some _ _ _ _ _ _ h0 h1 hl h2 h3 h4 h5
    refine key.mono ?_
    rintro e w' ⟨v', k, rfl, hb, hk, hS', q1, q2⟩
    refine ⟨v', rfl, hb, _, hS', ?_, insK_sorted hs q1 q2⟩
    rw [Lat.shl_yes (t := ((a, b), y)) hpos]
    exact ((insK_perm _ _ _).trans (List.Perm.cons _ hp)).trans (List.perm_append_singleton _ _).symm
/-- The steps of a place in letters. -/
theorem loc_num {n : Nat} {A : Int} (hn : Lat.frq n) (h0 : 0 ≤ A) (h1 : A ≤ 840) :
    A.tdiv ((840 : Int) / (n : Int)) * ((840 : Int) / (n : Int)) = wd n (Lat.xa n A) ∧ (n : Int) * (A - wd n (Lat.xa n A)) = Lat.rs n A ∧ 0 ≤ wd n (Lat.xa n A) ∧ wd n (Lat.xa n A) ≤ A ∧ A.tdiv ((840 : Int) / (n : Int)) = (Lat.xa n A : Int) := by
  rw [Int.tdiv_eq_ediv_of_nonneg h0]
  rcases Lat.eight hn with rfl | rfl | rfl | rfl | rfl | rfl | rfl | rfl <;> (simp only [Lat.rs, Lat.xa, wd] at *; simp at *; omega)
/-- What the reference's Locate leaves. -/
def RLocP (W : World) (n f : Nat) (A B C : Int) (e : Ending) (w : World) : Prop := ∃ v, e = .returned (.tuple #[v, .int .i64 0]) ∧ Below W.heap.size W w ∧ SL w (Lat.loc n f A B C) v
theorem rloc_of {W w : World} {n f : Nat} {A B C : Int} {T : List ((Nat × Nat) × Int)} {v : Value} (hn : Lat.frq n) (hv : Ico.Vld f A B C) (hT : Lat.tri n A B C = T) (hb : Below W.heap.size W w) (h : RL w n f T v) : RLocP W n f A B C (.returned (.tuple #[v, .int .i64 0])) w := by
  obtain ⟨L, a, b, c⟩ := h
  rw [← hT] at b
  rw [Lat.loc_uniq hn hv b c] at a
  exact ⟨v, rfl, hb, a⟩
end Go.Proofs.Ytehehhehilgnkaa
