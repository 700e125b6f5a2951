/- ClimateFaces: what two groups of reports on different faces teach together. -/
import Derived.Test.YtcheadbhkbbegaaDoorLrA
namespace Go.Proofs.YtcheadbhkbbegaaDoor
open Go.RowKit Go.Maps

theorem valsC_app (R S : List Rp) (c f mo : Int) : valsC (R ++ S) c f mo = valsC R c f mo ++ valsC S c f mo := by unfold valsC; rw [List.filterMap_append]
theorem valsC_off {R : List Rp} {c f mo : Int} (h : ∀ r ∈ R, r.F ≠ f) : valsC R c f mo = [] := by
  unfold valsC
  refine List.filterMap_eq_nil_iff.2 (fun r hr => ?_)
  have : (r.F == f) = false := beq_eq_false_iff_ne.2 (h r hr)
  rw [this]
  simp
theorem entC_app {R S : List Rp} (hd : ∀ r ∈ R, ∀ s ∈ S, r.F ≠ s.F) (c f mo : Int) : entC (R ++ S) c f mo = entC R c f mo ++ entC S c f mo ∧ (entC R c f mo = [] ∨ entC S c f mo = []) := by
  have hor : (∀ r ∈ R, r.F ≠ f) ∨ ∀ s ∈ S, s.F ≠ f := by
    by_cases h : ∀ r ∈ R, r.F ≠ f
    · exact .inl h
    · refine .inr (fun s hs e => h (fun r hr e' => hd r hr s hs (e'.trans e.symm)))
  rcases hor with h | h
  · have h0 := valsC_off (c := c) (mo := mo) h
    have e : entC R c f mo = [] := by unfold entC; rw [if_pos h0]
    refine ⟨?_, .inl e⟩
    rw [e, List.nil_append]
    unfold entC
    rw [valsC_app, h0, List.nil_append]
  · have h0 := valsC_off (c := c) (mo := mo) h
    have e : entC S c f mo = [] := by unfold entC; rw [if_pos h0]
    refine ⟨?_, .inr e⟩
    rw [e, List.append_nil]
    unfold entC
    rw [valsC_app, h0, List.append_nil]
theorem entI_app {R S : List Rp} (hd : ∀ r ∈ R, ∀ s ∈ S, r.F ≠ s.F) (i : Nat) : entI (R ++ S) i = entI R i ++ entI S i := (entC_app hd _ _ _).1
theorem outC_app_len {R S : List Rp} (hd : ∀ r ∈ R, ∀ s ∈ S, r.F ≠ s.F) : ∀ K, (outC (R ++ S) K).length = (outC R K).length + (outC S K).length
  | 0 => by simp [outC]
  | K + 1 => by
    rw [outC_succ, outC_succ, outC_succ, List.length_append, List.length_append, List.length_append, outC_app_len hd K, entI_app hd K, List.length_append]
    omega
theorem outC_app_mem {R S : List Rp} (hd : ∀ r ∈ R, ∀ s ∈ S, r.F ≠ s.F) {K : Nat} {n : Cm.N5} (h : n ∈ outC (R ++ S) K) : n ∈ outC R K ++ outC S K := by
  obtain ⟨i, hi, hn⟩ := outC_mem.1 h
  rw [entI_app hd i] at hn
  rcases List.mem_append.1 hn with q | q
  · exact List.mem_append_left _ (outC_mem.2 ⟨i, hi, q⟩)
  · exact List.mem_append_right _ (outC_mem.2 ⟨i, hi, q⟩)
/-- The middle of a face is normal. -/
theorem nrm_mid {F : Int} (h0 : 0 ≤ F) (h1 : F ≤ 19) : nrm F 280 280 280 = true := by
  obtain ⟨f, rfl⟩ := Int.eq_ofNat_of_zero_le h0
  have h2 : f < 20 := by omega
  have key : ∀ g : Fin 20, Pl.Ico.nf g 280 280 280 = g := by decide +kernel
  refine (nrm_iff (f := f) (by unfold Pl.Ico.Vld; omega)).2 ?_
  exact key ⟨f, h2⟩
/-- A report at another place. -/
def atP (r : Rp) (F : Int) : Rp := ⟨r.k, r.nm, r.t, F, 280, 280, 280, r.u, r.L⟩
theorem pd_at {m : Int} {r : Rp} (h : Pd m r) {F : Int} (h0 : 0 ≤ F) (h1 : F ≤ 19) : Pd m (atP r F) := ⟨h.1, h.2.1, h.2.2.1, nrm_mid h0 h1, h.2.2.2.2⟩
theorem rpc_len (R : List Rp) : (rpc R).length = R.length * 8 := by
  induction R with
  | nil => rfl
  | cons x R ih => show (rpCells x ++ rpc R).length = _; rw [List.length_append, ih, List.length_cons]; simp [rpCells]; omega
theorem set_app {α : Type} (A B : List α) {n : Nat} (h : A.length = n) (j : Nat) (x : α) : (A ++ B).set (n + j) x = A ++ B.set j x := by
  subst h
  rw [List.set_append_right _ _ (by omega)]
  congr 1
  congr 1
  omega
theorem rpc_put : ∀ (R : List Rp) (i : Nat) (hi : i < R.length) (F : Int), ((((rpc R).set (i * 8 + 3) (.int .i64 F)).set (i * 8 + 4) (.int .i64 280)).set (i * 8 + 5) (.int .i64 280)).set (i * 8 + 6) (.int .i64 280) = rpc (R.set i (atP R[i] F))
  | x :: R, 0, _, F => by
    show (((((rpCells x ++ rpc R).set 3 _).set 4 _).set 5 _).set 6 _) = rpCells (atP x F) ++ rpc R
    rfl
  | x :: R, i + 1, hi, F => by
    have hi' : i < R.length := by simpa using hi
    have ih := rpc_put R i hi' F
    show (((((rpCells x ++ rpc R).set _ _).set _ _).set _ _).set _ _) = rpCells x ++ rpc (R.set i (atP R[i] F))
    have e : ∀ k, (i + 1) * 8 + k = 8 + (i * 8 + k) := fun k => by omega
    have hl : (rpCells x).length = 8 := rfl
    rw [e, e, e, e, set_app (n := 8) _ _ hl, set_app (n := 8) _ _ hl, set_app (n := 8) _ _ hl, set_app (n := 8) _ _ hl, ih]
end Go.Proofs.YtcheadbhkbbegaaDoor
