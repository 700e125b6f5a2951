/- The contract of Normal of the program. -/
import Derived.Test.YteccblhmpggcgaaDoorAddr
namespace Go.Proofs.YteccblhmpggcgaaDoor
open Go.RowKit

theorem flat4 {α : Type} {p : Nat → List α} (hp : ∀ g, (p g).length = 4) : ∀ (l : List Nat) (i r : Nat), r < 4 → (h : i < l.length) → (l.flatMap p)[i * 4 + r]? = (p l[i])[r]?
  | x :: l, 0, r, hr, _ => by
    rw [List.flatMap_cons, List.getElem?_append_left (by rw [hp]; omega)]; simp
  | x :: l, i + 1, r, hr, h => by
    rw [List.flatMap_cons, List.getElem?_append_right (by rw [hp]; omega), hp]
    rw [show (i + 1) * 4 + r - 4 = i * 4 + r by omega, flat4 hp l i r hr (by simpa using h)]
    simp
theorem pl_len (f : Nat) (a b c : Int) (g : Nat) : (pl f a b c g).length = 4 := rfl
/-- Block g holds the addresses. -/
def Has (w : World) (f : Nat) (a b c : Int) (g : Nat) : Prop := ∀ i, (h : i < (Ico.fcs f a b c 20).length) →
  w.cell? ⟨g, i * 4, none⟩ = some (.int .i64 ((Ico.fcs f a b c 20)[i] : Nat)) ∧ w.cell? ⟨g, i * 4 + 1, none⟩ = some (.int .i64 (Ico.wt f a b c (Ico.cor (Ico.fcs f a b c 20)[i] 0))) ∧
  w.cell? ⟨g, i * 4 + 2, none⟩ = some (.int .i64 (Ico.wt f a b c (Ico.cor (Ico.fcs f a b c 20)[i] 1))) ∧ w.cell? ⟨g, i * 4 + 3, none⟩ = some (.int .i64 (Ico.wt f a b c (Ico.cor (Ico.fcs f a b c 20)[i] 2)))
theorem Has.keep {w w' : World} {f : Nat} {a b c : Int} {g : Nat} (h : Has w f a b c g) (hk : ∀ j, w'.cell? ⟨g, j, none⟩ = w.cell? ⟨g, j, none⟩) : Has w' f a b c g := fun i hi => by
  rw [hk, hk, hk, hk]; exact h i hi
theorem Has.under {w w' : World} {f : Nat} {a b c : Int} {g : Nat} (h : Has w f a b c g) (hg : g < w.heap.size) (hb : Below w.heap.size w w') : Has w' f a b c g := h.keep fun j => hb.cell (p := ⟨g, j, none⟩) hg
theorem own_open {w : World} {B size n : Nat} {e : TypeId} {v : Value} {xs : List Value} (h : w.ownsRow B e size v n xs) (hn : 0 < n) :
    ∃ g cap, v = .slice (some ⟨g, 0, none⟩) n cap ∧ B ≤ g ∧ g < w.heap.size ∧ n ≤ cap ∧ cap ≤ maxLen ∧ ∀ j u, xs[j]? = some u → w.cell? ⟨g, j, none⟩ = some u := by
  rcases h.2 with ⟨_, h0⟩ | ⟨g, cap, cur, rfl, hB, hg, hc, hm, _⟩
  · omega
  · refine ⟨g, cap, rfl, hB, (Array.getElem?_eq_some_iff.1 hg).1, hc, hm, fun j u hu => ?_⟩
    have e : (⟨g, 0, none⟩ : Addr).add j = ⟨g, j, none⟩ := by unfold Addr.add; cases j <;> simp
    have := h.cells (g := g) rfl j u hu
    rwa [e] at this
/-- What Addresses leaves: a list in a block of its own. -/
theorem addresses_open (f : Nat) (a b c : Int) (w : World) (hv : Ico.Vld f a b c) :
    Calls Tryd.prog 15 #[.agg #[.int .i64 f, .int .i64 a, .int .i64 b, .int .i64 c]] w fun e w' => ∃ g cap, e = .returned (.tuple #[.slice (some ⟨g, 0, none⟩) (Ico.fcs f a b c 20).length cap, .int .i64 0]) ∧ Below w.heap.size w w' ∧
      w.heap.size ≤ g ∧ g < w'.heap.size ∧ (Ico.fcs f a b c 20).length ≤ cap ∧ cap ≤ 9223372036854775807 ∧ Has w' f a b c g :=
  (addresses_yes f a b c w hv).mono fun e w' ⟨v, he, hb, ho⟩ => by
    obtain ⟨g, cap, rfl, h1, h2, h3, h4, h5⟩ := own_open ho (Ico.fcs_pos hv)
    refine ⟨g, cap, he, hb, h1, h2, h3, by unfold maxLen at h4; exact h4, fun i hi => ⟨?_, ?_, ?_, ?_⟩⟩
    · exact h5 _ _ ((flat4 (pl_len f a b c) _ i 0 (by omega) hi).trans rfl)
    · exact h5 _ _ ((flat4 (pl_len f a b c) _ i 1 (by omega) hi).trans rfl)
    · exact h5 _ _ ((flat4 (pl_len f a b c) _ i 2 (by omega) hi).trans rfl)
    · exact h5 _ _ ((flat4 (pl_len f a b c) _ i 3 (by omega) hi).trans rfl)
theorem nf_eq {f : Nat} {a b c : Int} (h : 0 < (Ico.fcs f a b c 20).length) : (Ico.fcs f a b c 20)[0] = Ico.nf f a b c := by
  unfold Ico.nf
  generalize Ico.fcs f a b c 20 = l at *
  cases l with
  | nil => simp at h
  | cons x l => rfl
/-- The normal place's weights. -/
def nw (f : Nat) (a b c : Int) (k : Nat) : Int := Ico.wt f a b c (Ico.cor (Ico.nf f a b c) k)
theorem Has.first {w : World} {f : Nat} {a b c : Int} {g : Nat} (h : Has w f a b c g) (hv : Ico.Vld f a b c) :
    w.cell? ⟨g, 0, none⟩ = some (.int .i64 (Ico.nf f a b c : Nat)) ∧ w.cell? ⟨g, 1, none⟩ = some (.int .i64 (nw f a b c 0)) ∧ w.cell? ⟨g, 2, none⟩ = some (.int .i64 (nw f a b c 1)) ∧ w.cell? ⟨g, 3, none⟩ = some (.int .i64 (nw f a b c 2)) := by
  have := h 0 (Ico.fcs_pos hv)
  rw [nf_eq (Ico.fcs_pos hv)] at this
  exact this
set_option maxHeartbeats 1000000 in
theorem normal_no (F a b c : Int) (w : World) (hv : vb F a b c = false) :
    Calls Tryd.prog 13 #[.agg #[.int .i64 F, .int .i64 a, .int .i64 b, .int .i64 c]] w fun e w' => e = .returned (.tuple #[.agg #[.int .i64 0, .int .i64 0, .int .i64 0, .int .i64 0], .int .i64 1]) ∧ Below w.heap.size w w' := by
  go_enter Tryd.func13, Tryd.ntmps13
  go_wp2_with fail
  refine (addresses_no _ _ _ _ _ hv).mono ?_
  rintro e w2 ⟨rfl, hb2⟩
  obtain ⟨hc, hz⟩ := bcell hb2
  go_wp2_with fail
  exact bodyPost_ret (v := .tuple #[.agg #[.int .i64 0, .int .i64 0, .int .i64 0, .int .i64 0], .int .i64 1]) (by simp [results, Tryd.results13, hc, go_sem]) rfl ⟨rfl, (((((((Below.refl _ _).alloc (Nat.le_refl _) _).alloc (by simp) _).trans (hb2.mono (by simp; omega))).setCell (by simp) _).setCell (by simp) _).setCell (by simp) _).setCell (by simp) _⟩
set_option maxHeartbeats 1000000 in
theorem normal_yes (f : Nat) (a b c : Int) (w : World) (hv : Ico.Vld f a b c) :
    Calls Tryd.prog 13 #[.agg #[.int .i64 f, .int .i64 a, .int .i64 b, .int .i64 c]] w fun e w' => e = .returned (.tuple #[.agg #[.int .i64 (Ico.nf f a b c : Nat), .int .i64 (nw f a b c 0), .int .i64 (nw f a b c 1), .int .i64 (nw f a b c 2)], .int .i64 0]) ∧ Below w.heap.size w w' := by
  have HV := Lib.hid hv; clear hv
  go_enter Tryd.func13, Tryd.ntmps13
  go_wp2_with fail
  refine (addresses_open _ _ _ _ _ HV.out).mono ?_
  rintro e w2 ⟨g, cap, rfl, hb2, g1, g2, g3, g4, hH⟩
  obtain ⟨hc, hz⟩ := bcell hb2
  obtain ⟨q0, q1, q2, q3⟩ := hH.first HV.out
  have hp := Ico.fcs_pos HV.out
  clear hH
  generalize (Ico.fcs f a b c 20).length = len at *
  have hge : w.heap.size + 2 ≤ g := by simp at g1; omega
  clear g1
  go_wp2_with fail
  exact bodyPost_ret (v := .tuple #[.agg #[.int .i64 (Ico.nf f a b c : Nat), .int .i64 (nw f a b c 0), .int .i64 (nw f a b c 1), .int .i64 (nw f a b c 2)], .int .i64 0]) (by simp [results, Tryd.results13, hc, go_sem]) rfl ⟨rfl, (((((((Below.refl _ _).alloc (Nat.le_refl _) _).alloc (by simp) _).trans (hb2.mono (by simp; omega))).setCell (by simp) _).setCell (by simp) _).setCell (by simp) _).setCell (by simp) _⟩
end Go.Proofs.YteccblhmpggcgaaDoor
