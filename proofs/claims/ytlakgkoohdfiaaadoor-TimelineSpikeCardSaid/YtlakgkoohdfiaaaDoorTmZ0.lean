/- One wrong reading among calm ones: what is rejected. -/
import Derived.Test.YtlakgkoohdfiaaaDoorQaq
namespace Go.Proofs.YtlakgkoohdfiaaaDoor.Tm
open Go.RowKit

def P50 : Int → Int := fun j => if j = ((1 : Nat) : Int) then 50 else 0
theorem Hly.dis {v : Nat → Int} {Q : List Rp} (h : Hly v Q) : Dis Q := fun i j hi hj hne ⟨_, e⟩ => by
  have h1 := (h i hi).2.2.1
  have h2 := (h j hj).2.2.1
  omega
theorem Hly.lin {v : Nat → Int} {Q : List Rp} (h : Hly v Q) : (lin Q nmA 1).length = Q.length ∧ ∀ i, i < Q.length → pa (lin Q nmA 1) i = ⟨v i, 60 * (i : Int), i⟩ :=
  lin_all h.dis (fun i hi => ⟨(h i hi).2.1, (h i hi).2.2.1, by rw [(h i hi).2.2.2.2]; rfl⟩) (fun i j hij _ => by omega)
theorem Hly.asc {v : Nat → Int} {Q : List Rp} (h : Hly v Q) : ∀ r ∈ Q, Asc' r.L := fun r hr => by
  obtain ⟨j, hj, rfl⟩ := List.getElem_of_mem hr
  rw [(h j hj).2.2.2.2]; exact List.pairwise_singleton _ _
/-- The wrong reading alone is rejected. -/
theorem spike_flg {v : Nat → Int} {Q : List Rp} (h : Hly v Q) {i : Nat} (h0 : 0 < i) (h1 : i + 1 < Q.length) (hv : ∀ j, j < Q.length → j ≠ i → 9988 ≤ v j ∧ v j ≤ 10012) (hd : 10100 ≤ v i) : flg Q P0 P50 = [(i, 1)] := by
  obtain ⟨hl, hp⟩ := h.lin
  refine srtF_ext (flg_srt _ _ h.asc) (List.pairwise_singleton _ _) fun q => ?_
  obtain ⟨qi, qc⟩ := q
  rw [flg_mem, List.mem_singleton]
  have hs : ∀ j, j < Q.length → (rjt 0 50 (lin Q nmA 1) j = true ↔ j = i) := fun j hj => by
    unfold rjt spk
    rw [hl]
    simp only [Int.lt_irrefl, decide_false, Bool.false_and, Bool.false_or, decide_eq_true_eq]
    constructor
    · rintro ⟨-, j0, j1, j2, j3, j4⟩
      rw [hp j hj, hp (j - 1) (by omega), hp (j + 1) j1] at j2
      rw [hp (j - 1) (by omega), hp (j + 1) j1] at j3 j4
      dsimp only at j2 j3 j4
      refine Classical.byContradiction fun hne => ?_
      have a := hv j hj hne
      by_cases e1 : j - 1 = i
      · have b := hv (j + 1) j1 (by omega)
        rw [e1] at j2 j3 j4; omega
      · by_cases e2 : j + 1 = i
        · have b := hv (j - 1) (by omega) e1
          rw [e2] at j2 j3 j4; omega
        · have b := hv (j - 1) (by omega) e1
          have c := hv (j + 1) j1 e2
          omega
    · rintro rfl
      have a := hv (j - 1) (by omega) (by omega)
      have b := hv (j + 1) h1 (by omega)
      rw [hp j hj, hp (j - 1) (by omega), hp (j + 1) h1]
      dsimp only
      omega
  constructor
  · rintro ⟨k1, ⟨x, hx, e⟩, k3⟩
    dsimp only at k1 hx e k3
    rw [(h qi k1).2.2.2.2, List.mem_singleton] at hx
    subst hx
    dsimp only at e
    subst e
    rw [(h qi k1).2.1, rej_iff] at k3
    obtain ⟨j, hj, hji, hr⟩ := k3
    rw [hl] at hj
    rw [hp j hj] at hji
    dsimp only at hji
    have := (hs j hj).1 hr
    rw [← hji, this]
  · intro e
    injection e with e1 e2
    subst e1 e2
    refine ⟨by dsimp only; omega, ⟨_, by dsimp only; rw [(h _ (by omega)).2.2.2.2]; exact List.mem_singleton.2 rfl, rfl⟩, ?_⟩
    dsimp only
    rw [(h _ (by omega)).2.1, rej_iff]
    exact ⟨_, by rw [hl]; omega, by rw [hp _ (by omega)], (hs _ (by omega)).2 rfl⟩
end Go.Proofs.YtlakgkoohdfiaaaDoor.Tm
