/- Readings that change slowly: what is rejected. -/
import Derived.Test.YtlakgkoohdfiaaaDoorQaq
namespace Go.Proofs.YtlakgkoohdfiaaaDoor.Tm
open Go.RowKit

/-- Reports of one name with two readings each, the first of them slow, the second one always the same. -/
structure Clm (n : Int) (p tm : Nat → Int) (Q : List Rp) : Prop where
  at_ : ∀ j, ∀ h : j < Q.length, Q[j].nm = nmA ∧ Q[j].t = tm j ∧ Q[j].L = [((1 : Int), p j), ((2 : Int), (2800 : Int))]
  asc : ∀ i j, i < j → j < Q.length → tm i < tm j
  slow : ∀ j, j + 1 < Q.length → p (j + 1) - p j ≤ n * ((tm (j + 1) - tm j + 59) / 60) ∧ p j - p (j + 1) ≤ n * ((tm (j + 1) - tm j + 59) / 60)
  bd : ∀ j, j < Q.length → (9000 ≤ p j ∧ p j ≤ 10900) ∧ 0 ≤ tm j ∧ tm j ≤ 52595999
section
variable {n : Int} {p tm : Nat → Int} {Q : List Rp}
theorem Clm.dis (h : Clm n p tm Q) : Dis Q := fun i j hi hj hne ⟨_, e⟩ => by
  rw [(h.at_ i hi).2.1, (h.at_ j hj).2.1] at e
  rcases Nat.lt_or_gt_of_ne hne with q | q
  · have := h.asc i j q hj; omega
  · have := h.asc j i q hi; omega
theorem Clm.lin1 (h : Clm n p tm Q) : (lin Q nmA 1).length = Q.length ∧ ∀ i, i < Q.length → pa (lin Q nmA 1) i = ⟨p i, tm i, i⟩ :=
  lin_all h.dis (fun i hi => ⟨(h.at_ i hi).1, (h.at_ i hi).2.1, by rw [(h.at_ i hi).2.2]; rfl⟩) h.asc
theorem Clm.lin2 (h : Clm n p tm Q) : (lin Q nmA 2).length = Q.length ∧ ∀ i, i < Q.length → pa (lin Q nmA 2) i = ⟨2800, tm i, i⟩ :=
  lin_all h.dis (fun i hi => ⟨(h.at_ i hi).1, (h.at_ i hi).2.1, by rw [(h.at_ i hi).2.2]; rfl⟩) h.asc
theorem Clm.one (h : Clm n p tm Q) {i : Nat} (hi : i < Q.length) : rjt n 0 (lin Q nmA 1) i = false := by
  obtain ⟨hl, hp⟩ := h.lin1
  refine calm_rjt (fun k hk => ?_) (by rw [hl]; exact hi)
  rw [hl] at hk
  rw [hp k (by omega), hp (k + 1) hk]
  unfold slw hrs
  exact decide_eq_true (h.slow k hk)
theorem Clm.two (h : Clm n p tm Q) {s q : Int} (hs : 0 ≤ s) {i : Nat} (hi : i < Q.length) : rjt s q (lin Q nmA 2) i = false := by
  obtain ⟨hl, hp⟩ := h.lin2
  refine flat_rjt 2800 hs (fun k hk => ?_) (fun k hk => ?_) (by rw [hl]; exact hi)
  · rw [hl] at hk
    rw [hp k (by omega), hp (k + 1) hk]
    exact Int.le_of_lt (h.asc k (k + 1) (by omega) hk)
  · rw [hl] at hk
    rw [hp k hk]
/-- Only the first element can be rejected, and only where its line is. -/
theorem Clm.flags (h : Clm n p tm Q) {S P : Int → Int} (hs : 0 ≤ S 2) {q : Nat × Int} (hq : q ∈ flg Q S P) : q.2 = 1 ∧ ∃ i, i < Q.length ∧ rjt (S 1) (P 1) (lin Q nmA 1) i = true := by
  obtain ⟨k1, ⟨x, hx, e⟩, k3⟩ := (flg_mem Q S P q).1 hq
  rw [(h.at_ _ k1).2.2] at hx
  rw [(h.at_ _ k1).1, rej_iff] at k3
  obtain ⟨j, hj, -, hr⟩ := k3
  simp only [List.mem_cons, List.not_mem_nil, or_false] at hx
  rcases hx with rfl | rfl
  · rw [← e] at hj hr ⊢
    exact ⟨rfl, j, by rw [← h.lin1.1]; exact hj, hr⟩
  · rw [← e] at hj hr
    dsimp only at hj hr
    rw [h.lin2.1] at hj
    rw [h.two hs hj] at hr
    cases hr
theorem Clm.none_step (h : Clm n p tm Q) {S P : Int → Int} (h1 : S 1 = n) (h2 : 0 ≤ S 2) (h3 : P 1 = 0) : flg Q S P = [] := by
  refine List.eq_nil_iff_forall_not_mem.2 fun q hq => ?_
  obtain ⟨-, i, hi, hr⟩ := h.flags h2 hq
  rw [h1, h3, h.one hi] at hr
  cases hr
theorem Clm.none_zero (h : Clm n p tm Q) : flg Q P0 P0 = [] := by
  refine List.eq_nil_iff_forall_not_mem.2 fun q hq => ?_
  obtain ⟨-, i, hi, hr⟩ := h.flags (S := P0) (P := P0) (by decide) hq
  rw [show P0 1 = 0 from rfl, rjt_none] at hr
  cases hr
theorem Clm.er (h : Clm n p tm Q) {cs : Array Value} {S P : Int → Int} (hc : CtB cs S P) : erT Q S P = 0 := by
  refine erT_zero hc.s hc.p (fun r hr => ?_) (fun r hr => ?_) h.dis
  · obtain ⟨j, hj, rfl⟩ := List.getElem_of_mem hr
    rw [(h.at_ j hj).2.2]
    refine vld_of (fun x hx => ?_) (by simp)
    simp only [List.mem_cons, List.not_mem_nil, or_false] at hx
    have hb := (h.bd j hj).1
    rcases hx with rfl | rfl
    · exact ⟨by unfold El.Elt.Ex; omega, Int.le_trans (show El.Elt.lo 1 ≤ 9000 by decide) hb.1, Int.le_trans hb.2 (show (10900 : Int) ≤ El.Elt.hi 1 by decide)⟩
    · exact ⟨by unfold El.Elt.Ex; omega, by decide, by decide⟩
  · obtain ⟨j, hj, rfl⟩ := List.getElem_of_mem hr
    rw [(h.at_ j hj).2.1]; exact (h.bd j hj).2
end
end Go.Proofs.YtlakgkoohdfiaaaDoor.Tm
