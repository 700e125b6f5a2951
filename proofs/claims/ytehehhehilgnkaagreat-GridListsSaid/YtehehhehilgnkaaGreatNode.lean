/- The nodes of a grid as places; what Nearest and Locate say of them; the greatest weight. -/
import Derived.Test.YtehehhehilgnkaaGreatShr
namespace Go.Proofs.YtehehhehilgnkaaGreat
open Go.RowKit

theorem rs_wd {n a : Nat} (hn : Lat.frq n) (ha : a ≤ n) : Lat.rs n (wd n a) = 0 ∧ Lat.xa n (wd n a) = a ∧ 0 ≤ wd n a ∧ wd n a ≤ 840 := by
  rcases Lat.eight hn with rfl | rfl | rfl | rfl | rfl | rfl | rfl | rfl <;> (simp only [Lat.rs, Lat.xa, wd]; simp; omega)
theorem wd_sum {n a b c : Nat} (hn : Lat.frq n) (h : a + b + c = n) : wd n a + wd n b + wd n c = 840 := by
  rcases Lat.eight hn with rfl | rfl | rfl | rfl | rfl | rfl | rfl | rfl <;> (simp only [wd]; simp; omega)
/-- A node as a place. -/
theorem nd_vld {n k : Nat} (hn : Lat.frq n) (hk : k < cn n) : Ico.Vld (Lat.nd n k).1 (wd n (Lat.nd n k).2.1) (wd n (Lat.nd n k).2.2) (wd n (n - (Lat.nd n k).2.1 - (Lat.nd n k).2.2)) := by
  obtain ⟨h1, h2, -⟩ := Lat.nd_in hn hk
  have a := rs_wd hn (show (Lat.nd n k).2.1 ≤ n by omega)
  have b := rs_wd hn (show (Lat.nd n k).2.2 ≤ n by omega)
  have c := rs_wd hn (show n - (Lat.nd n k).2.1 - (Lat.nd n k).2.2 ≤ n by omega)
  exact ⟨h1, a.2.2.1, a.2.2.2, b.2.2.1, b.2.2.2, c.2.2.1, c.2.2.2, wd_sum hn (by omega)⟩
theorem nd_loc {n k : Nat} (hn : Lat.frq n) (hk : k < cn n) : Lat.loc n (Lat.nd n k).1 (wd n (Lat.nd n k).2.1) (wd n (Lat.nd n k).2.2) (wd n (n - (Lat.nd n k).2.1 - (Lat.nd n k).2.2)) = [(k, 840)] := by
  obtain ⟨h1, h2, h3⟩ := Lat.nd_in hn hk
  have a := rs_wd hn (show (Lat.nd n k).2.1 ≤ n by omega)
  have b := rs_wd hn (show (Lat.nd n k).2.2 ≤ n by omega)
  have c := rs_wd hn (show n - (Lat.nd n k).2.1 - (Lat.nd n k).2.2 ≤ n by omega)
  unfold Lat.loc Lat.tri
  rw [a.1, b.1, c.1, if_pos (by omega), a.2.1, b.2.1]
  simp [Lat.shl, Lat.srt, Lat.ins, h3]
theorem ncs_at (n : Nat) : ∀ (l : List Lat.Pt) (k : Nat) (h : k < l.length), (ncs n l)[k * 4]? = some (.int .i64 (l[k]).1) ∧ (ncs n l)[k * 4 + 1]? = some (.int .i64 (wd n (l[k]).2.1)) ∧ (ncs n l)[k * 4 + 2]? = some (.int .i64 (wd n (l[k]).2.2)) ∧ (ncs n l)[k * 4 + 3]? = some (.int .i64 (wd n (n - (l[k]).2.1 - (l[k]).2.2)))
  | p :: r, 0, _ => ⟨rfl, rfl, rfl, rfl⟩
  | p :: r, k + 1, h => by
    have := ncs_at n r k (by simpa using h)
    have e : ncs n (p :: r) = .int .i64 p.1 :: .int .i64 (wd n p.2.1) :: .int .i64 (wd n p.2.2) :: .int .i64 (wd n (n - p.2.1 - p.2.2)) :: ncs n r := rfl
    rw [e, show (k + 1) * 4 = k * 4 + 1 + 1 + 1 + 1 by omega]
    simpa using this
/-- A node's cells in the list that Nodes returns. -/
theorem nd_cells {w : World} {base n g cap : Nat} (hn : Lat.frq n) (h : w.ownsRow base 32 4 (.slice (some ⟨g, 0, none⟩) (cn n) cap) (cn n) (ncs n (Lat.nodes n))) (k : Nat) (hk : k < cn n) :
    w.cell? ⟨g, k * 4, none⟩ = some (.int .i64 (Lat.nd n k).1) ∧ w.cell? ⟨g, k * 4 + 1, none⟩ = some (.int .i64 (wd n (Lat.nd n k).2.1)) ∧ w.cell? ⟨g, k * 4 + 2, none⟩ = some (.int .i64 (wd n (Lat.nd n k).2.2)) ∧ w.cell? ⟨g, k * 4 + 3, none⟩ = some (.int .i64 (wd n (n - (Lat.nd n k).2.1 - (Lat.nd n k).2.2))) := by
  have hl : k < (Lat.nodes n).length := by rw [Lat.nodes_len hn]; exact hk
  have e : (Lat.nodes n)[k] = Lat.nd n k := by unfold Lat.nd; rw [List.getD_eq_getElem?_getD, List.getElem?_eq_getElem hl]; rfl
  have := ncs_at n (Lat.nodes n) k hl
  rw [e] at this
  rw [h.cellAt _ (by omega), h.cellAt _ (by omega), h.cellAt _ (by omega), h.cellAt _ (by omega)]
  exact this
theorem better_fold : ∀ (L : List (Nat × Int)) (b0 : Nat × Int), (∀ x ∈ L, b0.1 ≤ x.1) → L.Pairwise (fun a b => a.1 ≤ b.1) →
    let b := L.foldl better b0
    (b = b0 ∨ b ∈ L) ∧ b0.2 ≤ b.2 ∧ (∀ x ∈ L, x.2 ≤ b.2) ∧ (b0.2 = b.2 → b.1 ≤ b0.1) ∧ (∀ x ∈ L, x.2 = b.2 → b.1 ≤ x.1)
  | [], b0, _, _ => ⟨.inl rfl, Int.le_refl _, fun x h => by (cases h), fun _ => Nat.le_refl _, fun x h => by (cases h)⟩
  | x :: r, b0, h0, hp => by
    obtain ⟨p1, p2⟩ := List.pairwise_cons.1 hp
    intro b
    have hb : b = r.foldl better (better b0 x) := rfl
    by_cases hx : b0.2 < x.2
    · have e : better b0 x = x := if_pos hx
      rw [e] at hb
      obtain ⟨q1, q2, q3, q4, q5⟩ := better_fold r x p1 p2
      rw [← hb] at q1 q2 q3 q4 q5
      refine ⟨.inr (by rcases q1 with q | q <;> simp [q]), by omega, fun y hy => ?_, fun h => by omega, fun y hy => ?_⟩
      · rcases List.mem_cons.1 hy with rfl | hy
        · exact q2
        · exact q3 y hy
      · rcases List.mem_cons.1 hy with rfl | hy
        · exact q4
        · exact q5 y hy
    · have e : better b0 x = b0 := if_neg hx
      rw [e] at hb
      obtain ⟨q1, q2, q3, q4, q5⟩ := better_fold r b0 (fun y hy => h0 y (by simp [hy])) p2
      rw [← hb] at q1 q2 q3 q4 q5
      have h0x := h0 x (by simp)
      refine ⟨by rcases q1 with q | q <;> simp [q], q2, fun y hy => ?_, q4, fun y hy => ?_⟩
      · rcases List.mem_cons.1 hy with rfl | hy
        · omega
        · exact q3 y hy
      · rcases List.mem_cons.1 hy with rfl | hy
        · intro h; have := q4 (by omega); omega
        · exact q5 y hy
theorem best_is {L : List (Nat × Int)} (hl : 0 < L.length) (hp : L.Pairwise (fun a b => a.1 ≤ b.1)) : best L ∈ L ∧ (∀ x ∈ L, x.2 ≤ (best L).2) ∧ (∀ x ∈ L, x.2 = (best L).2 → (best L).1 ≤ x.1) := by
  match L, hl, hp with
  | x :: r, _, hp =>
    obtain ⟨p1, p2⟩ := List.pairwise_cons.1 hp
    obtain ⟨q1, q2, q3, q4, q5⟩ := better_fold (x :: r) x (fun y hy => by rcases List.mem_cons.1 hy with rfl | hy; exact Nat.le_refl _; exact p1 y hy) hp
    exact ⟨by rcases q1 with q | q; rw [show best (x :: r) = x from q]; simp; exact q, q3, q5⟩
/-- The greatest weight as the law finds it. -/
def mostTo (L : List (Nat × Int)) (k : Nat) : Int := (L.take k).foldl (fun m x => max m x.2) 0
def ownTo (L : List (Nat × Int)) (j k : Nat) : Int := (L.take k).foldl (fun o x => if x.1 = j then x.2 else o) 0
theorem mostTo_succ (L : List (Nat × Int)) (k : Nat) (h : k < L.length) : mostTo L (k + 1) = max (mostTo L k) L[k].2 := by
  unfold mostTo; rw [List.take_succ_eq_append_getElem h, List.foldl_append]; rfl
theorem ownTo_succ (L : List (Nat × Int)) (j k : Nat) (h : k < L.length) : ownTo L j (k + 1) = if L[k].1 = j then L[k].2 else ownTo L j k := by
  unfold ownTo; rw [List.take_succ_eq_append_getElem h, List.foldl_append]; rfl
theorem max_fold : ∀ (L : List (Nat × Int)) (m : Int), m ≤ L.foldl (fun m x => max m x.2) m ∧ (∀ x ∈ L, x.2 ≤ L.foldl (fun m x => max m x.2) m) ∧ (L.foldl (fun m x => max m x.2) m = m ∨ ∃ x ∈ L, x.2 = L.foldl (fun m x => max m x.2) m)
  | [], m => ⟨Int.le_refl _, fun x h => by (cases h), .inl rfl⟩
  | x :: r, m => by
    obtain ⟨a, b, c⟩ := max_fold r (max m x.2)
    simp only [List.foldl_cons]
    refine ⟨by omega, fun y hy => ?_, ?_⟩
    · rcases List.mem_cons.1 hy with rfl | hy
      · omega
      · exact b y hy
    · rcases c with c | ⟨y, hy, c⟩
      · by_cases h : m ≤ x.2
        · exact .inr ⟨x, by simp, by rw [c]; omega⟩
        · exact .inl (by rw [c]; omega)
      · exact .inr ⟨y, by simp [hy], c⟩
theorem own_fold (j : Nat) (v : Int) : ∀ (L : List (Nat × Int)) (o : Int), (∀ y ∈ L, y.1 = j → y.2 = v) → (o = v ∨ ∃ y ∈ L, y.1 = j) → L.foldl (fun o x => if x.1 = j then x.2 else o) o = v
  | [], o, _, h => by rcases h with h | ⟨y, hy, _⟩; exact h; cases hy
  | x :: r, o, h1, h => by
    simp only [List.foldl_cons]
    refine own_fold j v r _ (fun y hy => h1 y (by simp [hy])) ?_
    by_cases e : x.1 = j
    · rw [if_pos e]; exact .inl (h1 x (by simp) e)
    · rw [if_neg e]
      rcases h with h | ⟨y, hy, hj⟩
      · exact .inl h
      · rcases List.mem_cons.1 hy with rfl | hy
        · exact absurd hj e
        · exact .inr ⟨y, hy, hj⟩
/-- What the law finds at the end. -/
theorem near_facts {n f : Nat} {A B C : Int} (hn : Lat.frq n) (hv : Ico.Vld f A B C) {L : List (Nat × Int)} (hL : Lat.loc n f A B C = L) :
    mostTo L L.length = (best L).2 ∧ ownTo L (best L).1 L.length = (best L).2 ∧ 0 < (best L).2 ∧ (∀ x ∈ L, x.2 = (best L).2 → (best L).1 ≤ x.1) ∧ (∀ x ∈ L, x.1 < 1000 ∧ 0 < x.2 ∧ x.2 ≤ 840) ∧ best L ∈ L := by
  subst hL
  have hin := Lat.loc_in hn hv
  have hs : (Lat.loc n f A B C).Pairwise (fun a b : Nat × Int => a.1 ≤ b.1) := Lat.srt_sorted _
  have hd : (Lat.loc n f A B C).Pairwise (fun a b : Nat × Int => a.1 ≠ b.1) := ((Lat.srt_perm _).symm.pairwise_iff (fun {a b} (h : a.1 ≠ b.1) => h.symm)).1 (Lat.shl_ne hn hv)
  obtain ⟨b1, b2, b3⟩ := best_is (Lat.loc_pos hn hv).1 hs
  have hp := (hin _ b1).2.1
  have hc := cn_le hn
  unfold cn at hc
  refine ⟨?_, ?_, hp, b3, fun x hx => ⟨by have := (hin x hx).1; omega, (hin x hx).2⟩, b1⟩
  · unfold mostTo
    rw [List.take_length]
    obtain ⟨m1, m2, m3⟩ := max_fold (Lat.loc n f A B C) 0
    have := m2 _ b1
    rcases m3 with m3 | ⟨x, hx, m3⟩
    · omega
    · have := b2 x hx; omega
  · unfold ownTo
    rw [List.take_length]
    refine own_fold _ _ _ _ (fun y hy e => ?_) (.inr ⟨_, b1, rfl⟩)
    by_cases he : y = best (Lat.loc n f A B C)
    · rw [he]
    · exfalso
      obtain ⟨i, hi, rfl⟩ := List.getElem_of_mem hy
      obtain ⟨j, hj, hbj⟩ := List.getElem_of_mem b1
      rw [← hbj] at e he
      rcases Nat.lt_trichotomy i j with h | h | h
      · exact List.pairwise_iff_getElem.1 hd i j hi hj h e
      · subst h; exact he rfl
      · exact List.pairwise_iff_getElem.1 hd j i hj hi h e.symm
end Go.Proofs.YtehehhehilgnkaaGreat

