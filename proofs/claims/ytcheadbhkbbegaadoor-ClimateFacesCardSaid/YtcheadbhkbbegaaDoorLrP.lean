/- What is learned does not depend on the order; few reports give few normals; two normals compared. -/
import Derived.Test.YtcheadbhkbbegaaDoorQas
import Derived.Test.YtcheadbhkbbegaaDoorCmLk
import Derived.Laws.StructEq
import Derived.ChangeKeysEq
namespace Go.Proofs.YtcheadbhkbbegaaDoor
open Go.RowKit Go.Maps

theorem valsC_perm {R R' : List Rp} (h : R'.Perm R) (c f mo : Int) : (valsC R' c f mo).Perm (valsC R c f mo) := h.filterMap _
theorem spr_perm {l l' : List Int} (h : l'.Perm l) (a : Int) : spr l' a = spr l a := by
  by_cases h0 : l = []
  · subst h0; rw [List.Perm.eq_nil h]
  · have h0' : l' ≠ [] := fun e => h0 (by subst e; exact (List.Perm.eq_nil h.symm))
    obtain ⟨v, hv, e⟩ := spr_hit a h0
    obtain ⟨v', hv', e'⟩ := spr_hit a h0'
    have h1 := spr_in a (h.mem_iff.2 hv)
    have h2 := spr_in a (h.mem_iff.1 hv')
    omega
theorem sum_perm {l l' : List Int} (h : l'.Perm l) : l'.sum = l.sum := by
  induction h with
  | nil => rfl
  | cons x _ ih => rw [List.sum_cons, List.sum_cons, ih]
  | swap x y l => simp only [List.sum_cons]; omega
  | trans _ _ h1 h2 => exact h1.trans h2
theorem entC_perm {R R' : List Rp} (h : R'.Perm R) (c f mo : Int) : entC R' c f mo = entC R c f mo := by
  have hp := valsC_perm h c f mo
  unfold entC
  by_cases h0 : valsC R c f mo = []
  · have h0' : valsC R' c f mo = [] := by rw [h0] at hp; exact List.Perm.eq_nil hp
    rw [if_pos h0, if_pos h0']
  · have h0' : valsC R' c f mo ≠ [] := fun e => h0 (by rw [e] at hp; exact List.Perm.eq_nil hp.symm)
    rw [if_neg h0, if_neg h0', sum_perm hp, hp.length_eq, spr_perm hp]
theorem outC_perm {R R' : List Rp} (h : R'.Perm R) (K : Nat) : outC R' K = outC R K := by
  unfold outC
  have : entI R' = entI R := funext fun i => entC_perm h _ _ _
  rw [this]
theorem prs_len11 : ∀ (R : List Rp), (∀ r ∈ R, r.L.length ≤ 11) → (prs R).length ≤ 11 * R.length
  | [], _ => by simp [prs]
  | r :: R, h => by
    have h1 := prs_len11 R fun q hq => h q (by simp [hq])
    have h2 := h r (by simp)
    have e : prs (r :: R) = prs1 r ++ prs R := by simp [prs]
    rw [e, List.length_append, List.length_cons]
    have h3 : (prs1 r).length = r.L.length := by simp [prs1]
    omega
theorem ksl_le' : ∀ (P : List (Sl × Int)) (a : List Sl), (P.foldl (fun a p => if p.1 ∈ a then a else a ++ [p.1]) a).length ≤ a.length + P.length
  | [], a => by simp
  | p :: P, a => by
    rw [List.foldl_cons]
    have := ksl_le' P (if p.1 ∈ a then a else a ++ [p.1])
    split at this
    · rename_i hq; rw [if_pos hq, List.length_cons]; omega
    · rename_i hq; rw [if_neg hq, List.length_cons]; rw [List.length_append, List.length_singleton] at this; omega
theorem vld_le11 {L : List El.Elt.R} (h : El.Elt.vld L = 0) : L.length ≤ 11 := by
  have hv := vld_vals h
  have ha := vld_asc h
  have key : ∀ i, ∀ hi : i < L.length, (i : Int) + 1 ≤ L[i].1 := fun i => by
    induction i with
    | zero => intro hi; have := (hv _ (List.getElem_mem hi)).1; unfold El.Elt.Ex at this; omega
    | succ i ih => intro hi; have h1 := ih (by omega); have h2 := ha i hi; push_cast; omega
  rcases Nat.eq_zero_or_pos L.length with q | q
  · omega
  · have h1 := key (L.length - 1) (by omega)
    have h2 := (hv _ (List.getElem_mem (show L.length - 1 < L.length by omega))).1
    unfold El.Elt.Ex at h2
    omega
/-- Few reports are learned without a limit. -/
theorem lrn_few {R : List Rp} (h0 : errC R = 0) (hl : R.length ≤ 18) : lrn R = (outC R 2640, 0) := by
  refine lrn_ok h0 ?_
  have h1 := ksl_len h0
  have h2 := ksl_le' (prs R) []
  have h3 := prs_len11 R (fun r hr => vld_le11 (erC_parts (errC_all h0 r hr)).2.2)
  unfold ksl at h1
  rw [List.length_nil] at h2
  generalize outC R 2640 = X at *
  omega
theorem errC_of {R : List Rp} {m : Int} (h : ∀ r ∈ R, Pd m r) : errC R = 0 := errC_zero R (fun j hj => by
  obtain ⟨-, ⟨t1, t2⟩, hv, hn, -⟩ := h _ (List.getElem_mem hj)
  unfold erC
  rw [if_pos ⟨hn, by unfold Ck.Cal.rng; simp; omega⟩, hv])
/-- Two normals are compared field by field. -/
theorem eq_normal (n m : Cm.N5) (w : World) : (Op.equalIn 10000 50 (.agg #[.int .i64 n.1, .int .i64 n.2.1, .int .i64 n.2.2.1, .int .i64 n.2.2.2.1, .int .i64 n.2.2.2.2]) (.agg #[.int .i64 m.1, .int .i64 m.2.1, .int .i64 m.2.2.1, .int .i64 m.2.2.2.1, .int .i64 m.2.2.2.2])).run Tryd.prog w = .ok (decide (n = m)) w := by
  obtain ⟨a, b, c, d, f⟩ := n
  obtain ⟨a', b', c', d', f'⟩ := m
  have u3 := Tryd.underlying3
  have a3 := Tryd.isAgg3
  have z3 := Tryd.sizeOf3
  have hS : Tryd.prog.underlying 50 = some (.struct (Tryd.prog.fieldsOf 50)) := by kernel_rfl
  rw [show (10000 : Nat) = 9999 + 1 from rfl, run_equalIn_agg w 9999 50 _ _ hS (by kernel_rfl)]
  simp only [Program.fieldsOf, Tryd.underlying50]
  go_simp
  by_cases h1 : a = a' <;> by_cases h2 : b = b' <;> by_cases h3 : c = c' <;> by_cases h4 : d = d' <;> by_cases h5 : f = f' <;> simp [h1, h2, h3, h4, h5]
end Go.Proofs.YtcheadbhkbbegaaDoor
