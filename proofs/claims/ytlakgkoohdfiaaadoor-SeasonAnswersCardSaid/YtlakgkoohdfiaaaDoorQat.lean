/- Texts of this proof. -/
import Derived.Test.YtlakgkoohdfiaaaDoorQao
import Derived.Test.YtlakgkoohdfiaaaDoorQas
import Derived.Laws.StructEq
import Derived.ChangeKeysEq
import Derived.Test.YtlakgkoohdfiaaaDoorQaq
import Derived.Test.YtlakgkoohdfiaaaDoorQah
namespace Go.Proofs.YtlakgkoohdfiaaaDoor
open Go.RowKit

theorem lrn_ok {R : List Rp} (h1 : errC R = 0) (h2 : ¬ 200 < (outC R 2640).length) : lrn R = (outC R 2640, 0) := by
  unfold lrn
  generalize outC R 2640 = X at *
  rw [if_pos h1, if_neg h2]
theorem lrn_big {R : List Rp} (h1 : errC R = 0) (h2 : 200 < (outC R 2640).length) : lrn R = ([], 2) := by
  unfold lrn
  generalize outC R 2640 = X at *
  rw [if_pos h1, if_pos h2]
theorem lrn_err {R : List Rp} (h1 : errC R ≠ 0) : lrn R = ([], errC R) := by
  unfold lrn
  generalize outC R 2640 = X at *
  rw [if_neg h1]
end Go.Proofs.YtlakgkoohdfiaaaDoor

namespace Go.Proofs.YtlakgkoohdfiaaaDoor
open Go.RowKit Go.Maps

theorem valsC_perm {R R' : List Rp} (h : R'.Perm R) (c f mo : Int) : (valsC R' c f mo).Perm (valsC R c f mo) := h.filterMap _
theorem spr_perm {l l' : List Int} (h : l'.Perm l) (a : Int) : spr l' a = spr l a := by
  by_cases h0 : l = []
  · subst h0; rw [List.Perm.eq_nil h]
  · have h0' : l' ≠ [] := fun e => h0 (by subst e; exact (List.Perm.eq_nil h.symm))
    obtain ⟨v, hv, e⟩ := spr_hit a h0
    obtain ⟨v', hv', e'⟩ := spr_hit a h0'
    have h1 := spr_in a (h.mem_iff.2 hv)
    have h2 := spr_in a (h.mem_iff.1 hv')
    omega
theorem sum_perm {l l' : List Int} (h : l'.Perm l) : l'.sum = l.sum := by
  induction h with
  | nil => rfl
  | cons x _ ih => rw [List.sum_cons, List.sum_cons, ih]
  | swap x y l => simp only [List.sum_cons]; omega
  | trans _ _ h1 h2 => exact h1.trans h2
theorem entC_perm {R R' : List Rp} (h : R'.Perm R) (c f mo : Int) : entC R' c f mo = entC R c f mo := by
  have hp := valsC_perm h c f mo
  unfold entC
  by_cases h0 : valsC R c f mo = []
  · have h0' : valsC R' c f mo = [] := by rw [h0] at hp; exact List.Perm.eq_nil hp
    rw [if_pos h0, if_pos h0']
  · have h0' : valsC R' c f mo ≠ [] := fun e => h0 (by rw [e] at hp; exact List.Perm.eq_nil hp.symm)
    rw [if_neg h0, if_neg h0', sum_perm hp, hp.length_eq, spr_perm hp]
theorem outC_perm {R R' : List Rp} (h : R'.Perm R) (K : Nat) : outC R' K = outC R K := by
  unfold outC
  have : entI R' = entI R := funext fun i => entC_perm h _ _ _
  rw [this]
theorem prs_len11 : ∀ (R : List Rp), (∀ r ∈ R, r.L.length ≤ 11) → (prs R).length ≤ 11 * R.length
  | [], _ => by simp [prs]
  | r :: R, h => by
    have h1 := prs_len11 R fun q hq => h q (by simp [hq])
    have h2 := h r (by simp)
    have e : prs (r :: R) = prs1 r ++ prs R := by simp [prs]
    rw [e, List.length_append, List.length_cons]
    have h3 : (prs1 r).length = r.L.length := by simp [prs1]
    omega
theorem ksl_le' : ∀ (P : List (Sl × Int)) (a : List Sl), (P.foldl (fun a p => if p.1 ∈ a then a else a ++ [p.1]) a).length ≤ a.length + P.length
  | [], a => by simp
  | p :: P, a => by
    rw [List.foldl_cons]
    have := ksl_le' P (if p.1 ∈ a then a else a ++ [p.1])
    split at this
    · rename_i hq; rw [if_pos hq, List.length_cons]; omega
    · rename_i hq; rw [if_neg hq, List.length_cons]; rw [List.length_append, List.length_singleton] at this; omega
theorem vld_le11 {L : List El.Elt.R} (h : El.Elt.vld L = 0) : L.length ≤ 11 := by
  have hv := vld_vals h
  have ha := vld_asc h
  have key : ∀ i, ∀ hi : i < L.length, (i : Int) + 1 ≤ L[i].1 := fun i => by
    induction i with
    | zero => intro hi; have := (hv _ (List.getElem_mem hi)).1; unfold El.Elt.Ex at this; omega
    | succ i ih => intro hi; have h1 := ih (by omega); have h2 := ha i hi; push_cast; omega
  rcases Nat.eq_zero_or_pos L.length with q | q
  · omega
  · have h1 := key (L.length - 1) (by omega)
    have h2 := (hv _ (List.getElem_mem (show L.length - 1 < L.length by omega))).1
    unfold El.Elt.Ex at h2
    omega
/-- Few reports are learned without a limit. -/
theorem lrn_few {R : List Rp} (h0 : errC R = 0) (hl : R.length ≤ 18) : lrn R = (outC R 2640, 0) := by
  refine lrn_ok h0 ?_
  have h1 := ksl_len h0
  have h2 := ksl_le' (prs R) []
  have h3 := prs_len11 R (fun r hr => vld_le11 (erC_parts (errC_all h0 r hr)).2.2)
  unfold ksl at h1
  rw [List.length_nil] at h2
  generalize outC R 2640 = X at *
  omega
theorem errC_of {R : List Rp} {m : Int} (h : ∀ r ∈ R, Pd m r) : errC R = 0 := errC_zero R (fun j hj => by
  obtain ⟨-, ⟨t1, t2⟩, hv, hn, -⟩ := h _ (List.getElem_mem hj)
  unfold erC
  rw [if_pos ⟨hn, by unfold Ck.Cal.rng; simp; omega⟩, hv])
/-- Two normals are compared field by field. -/
theorem eq_normal (n m : Cm.N5) (w : World) : (Op.equalIn 10000 50 (.agg #[.int .i64 n.1, .int .i64 n.2.1, .int .i64 n.2.2.1, .int .i64 n.2.2.2.1, .int .i64 n.2.2.2.2]) (.agg #[.int .i64 m.1, .int .i64 m.2.1, .int .i64 m.2.2.1, .int .i64 m.2.2.2.1, .int .i64 m.2.2.2.2])).run Tryd.prog w = .ok (decide (n = m)) w := by
  obtain ⟨a, b, c, d, f⟩ := n
  obtain ⟨a', b', c', d', f'⟩ := m
  have u3 := Tryd.underlying3
  have a3 := Tryd.isAgg3
  have z3 := Tryd.sizeOf3
  have hS : Tryd.prog.underlying 50 = some (.struct (Tryd.prog.fieldsOf 50)) := by kernel_rfl
  rw [show (10000 : Nat) = 9999 + 1 from rfl, run_equalIn_agg w 9999 50 _ _ hS (by kernel_rfl)]
  simp only [Program.fieldsOf, Tryd.underlying50]
  go_simp
  by_cases h1 : a = a' <;> by_cases h2 : b = b' <;> by_cases h3 : c = c' <;> by_cases h4 : d = d' <;> by_cases h5 : f = f' <;> simp [h1, h2, h3, h4, h5]
end Go.Proofs.YtlakgkoohdfiaaaDoor

namespace Go.Proofs.YtlakgkoohdfiaaaDoor
open Go.RowKit

/-- Both climates in their boxes. -/
structure Sb (W : World) (ga gb : Nat) (A B : Option Addr) (ca cb : Nat) (N M : List Cm.N5) (w : World) : Prop where
  below : Below W.heap.size W w
  ba : Row w ga 24 #[.slice A N.length ca]
  bb : Row w gb 24 #[.slice B M.length cb]
  na : NrIn w (.slice A N.length ca) N
  nb : NrIn w (.slice B M.length cb) M
theorem Sb.under {W w w' : World} {ga gb ca cb : Nat} {A B : Option Addr} {N M : List Cm.N5} (h : Sb W ga gb A B ca cb N M w) (hb : Below w.heap.size w w') : Sb W ga gb A B ca cb N M w' :=
  ⟨h.below.trans (hb.mono h.below.size), h.ba.under hb, h.bb.under hb, h.na.under hb, h.nb.under hb⟩
def eqToN (a b : List Cm.N5) (n : Nat) : Prop := ∀ j, j < n → a[j]? = b[j]?
theorem eqToN_all {a b : List Cm.N5} (hl : a.length = b.length) (h : eqToN a b a.length) : a = b := by
  refine List.ext_getElem? fun j => ?_
  rcases Nat.lt_or_ge j a.length with q | q
  · exact h j q
  · rw [List.getElem?_eq_none q, List.getElem?_eq_none (by omega)]
theorem five_eq {n m : Cm.N5} {bq : Bool} (h : decide (n = m) = bq) : bq = decide (n.1 = m.1 ∧ n.2.1 = m.2.1 ∧ n.2.2.1 = m.2.2.1 ∧ n.2.2.2.1 = m.2.2.2.1 ∧ n.2.2.2.2 = m.2.2.2.2) := by
  rw [← h]
  obtain ⟨a, b, c, d, f⟩ := n
  obtain ⟨a', b', c', d', f'⟩ := m
  simp
set_option maxRecDepth 100000 in
set_option maxHeartbeats 4000000 in
theorem refSameN_any (u v : Value) (N M : List Cm.N5) (w : World) (hN : NrIn w u N) (hM : NrIn w v M) :
    Calls Tryd.prog 23 #[clV u, clV v] w fun e w' => e = .returned (.bool (decide (N = M))) ∧ Below w.heap.size w w' := by
  obtain ⟨A, ca, rfl, m1, m2, -⟩ := id hN
  obtain ⟨B, cb, rfl, m3, m4, -⟩ := id hM
  have b1 := (Below.refl w.heap.size w).alloc (Nat.le_refl _) (.cells #[.slice A N.length ca] 24)
  have b2 := b1.alloc b1.size (.cells #[.slice B M.length cb] 24)
  have I0 : Hid (Sb w w.heap.size (w.heap.size + 1) A B ca cb N M ((w.alloc (.cells #[.slice A N.length ca] 24)).alloc (.cells #[.slice B M.length cb] 24))) := Lib.hid ⟨b2, (Row.new _ _ _).alloc _, Row.newAt (by simp), hN.under b2, hM.under b2⟩
  obtain ⟨z, hz⟩ : ∃ z, decide (N = M) = z := ⟨_, rfl⟩
  have HZ := Lib.hid hz
  rw [hz]
  clear hz hN hM b1 b2
  go_enter Tryd.func23, Tryd.ntmps23
  go_upto_region 1 with fail
  refine forget (fun Y => Hid (Sb w w.heap.size (w.heap.size + 1) A B ca cb N M Y)) I0 ?_
  clear I0
  obtain ⟨gb, hgb⟩ : ∃ g, w.heap.size + 1 = g := ⟨_, rfl⟩
  obtain ⟨ga, hga⟩ : ∃ g, w.heap.size = g := ⟨_, rfl⟩
  rw [hgb, hga]
  clear hgb hga
  rintro Y HI
  have q0 := (HI.out.ba.cell 0).trans rfl
  have q1 := (HI.out.bb.cell 0).trans rfl
  by_cases hn : N.length = M.length
  · have HN := Lib.hid hn
    have k9 : ((N.length : Int) != (M.length : Int)) = false := by rw [bne_eq_false_iff_eq]; omega
    clear hn
    go_wp2_with fail
    go_loopw [5] (fun t wr => ∃ i : Nat, i ≤ N.length ∧ t = .int .i64 (i : Int) ∧ Hid (eqToN N M i) ∧ Hid (Sb w ga gb A B ca cb N M wr)) (fun t _ => N.length - (intOf t).toNat)
    case atStart => exact ⟨0, by omega, rfl, Lib.hid (fun i hi => by omega), HI⟩
    case round =>
      clear HI q0 q1
      obtain ⟨i, hi, rfl, HT, HI⟩ := hrel
      have q0 := (HI.out.ba.cell 0).trans rfl
      have q1 := (HI.out.bb.cell 0).trans rfl
      by_cases hlt : i < N.length
      · have k0 : (i : Int) < (N.length : Int) := by omega
        have k1 : (0 : Int) ≤ (i : Int) := by omega
        have hib : i < M.length := by have := HN.out; omega
        have k2 : (i : Int) < (M.length : Int) := by omega
        obtain ⟨g, o1, rfl, -, p1⟩ := HI.out.na.at hlt
        obtain ⟨g', o2, rfl, -, p2⟩ := HI.out.nb.at hib
        have HST := Lib.hid (show N[i] = M[i] → eqToN N M (i + 1) from fun h j hj => by
          rcases (by omega : j < i ∨ j = i) with hj' | rfl
          · exact HT.out j hj'
          · rw [List.getElem?_eq_getElem hlt, List.getElem?_eq_getElem hib, h])
        have HNO := Lib.hid (show N[i] ≠ M[i] → ¬ N = M from fun h h' => by subst h'; exact h rfl)
        generalize N[i] = n at *
        generalize M[i] = m at *
        obtain ⟨bq, hbq⟩ : ∃ bq, decide (n = m) = bq := ⟨_, rfl⟩
        have HBQ := Lib.hid hbq
        clear hib hbq
        go_upto_region 6 with fail
        refine wp_region_held_drew (S := fun w' : World => (w'.cell? ⟨ga, 0, none⟩ = some (.slice (some ⟨g, o1, none⟩) N.length ca) ∧ w'.cell? ⟨gb, 0, none⟩ = some (.slice (some ⟨g', o2, none⟩) M.length cb)) ∧ (w'.cell? ⟨g, o1 + i * 5, none⟩ = some (.int .i64 n.1) ∧ w'.cell? ⟨g, o1 + i * 5 + 1, none⟩ = some (.int .i64 n.2.1) ∧ w'.cell? ⟨g, o1 + i * 5 + 2, none⟩ = some (.int .i64 n.2.2.1) ∧ w'.cell? ⟨g, o1 + i * 5 + 3, none⟩ = some (.int .i64 n.2.2.2.1) ∧ w'.cell? ⟨g, o1 + i * 5 + 4, none⟩ = some (.int .i64 n.2.2.2.2)) ∧ w'.cell? ⟨g', o2 + i * 5, none⟩ = some (.int .i64 m.1) ∧ w'.cell? ⟨g', o2 + i * 5 + 1, none⟩ = some (.int .i64 m.2.1) ∧ w'.cell? ⟨g', o2 + i * 5 + 2, none⟩ = some (.int .i64 m.2.2.1) ∧ w'.cell? ⟨g', o2 + i * 5 + 3, none⟩ = some (.int .i64 m.2.2.2.1) ∧ w'.cell? ⟨g', o2 + i * 5 + 4, none⟩ = some (.int .i64 m.2.2.2.2)) (by kernel_rfl) ⟨⟨q0, q1⟩, p1, p2⟩ (fun hHeld => ?_)
        refine tk 0 (oi := ⟨some 20, _, _, _, _, none⟩) rfl ?_
        try go_frame
        refine tk 1 (oi := ⟨some 21, _, _, _, _, none⟩) rfl ?_
        try go_frame
        refine tk 2 (oi := ⟨some 22, _, _, _, _, none⟩) rfl ?_
        try go_frame
        refine tk 3 (oi := ⟨some 23, _, _, _, _, none⟩) rfl ?_
        try go_frame
        refine tk 4 (oi := ⟨some 24, _, _, _, _, none⟩) rfl ?_
        try go_frame
        refine tk 5 (oi := ⟨some 25, _, _, _, _, none⟩) rfl ?_
        try go_frame
        refine tk 6 (oi := ⟨some 26, _, _, _, _, none⟩) rfl ?_
        try go_frame
        refine tk 7 (oi := ⟨some 27, _, _, _, _, none⟩) rfl ?_
        try go_frame
        refine tk 8 (oi := ⟨some 28, _, _, _, _, none⟩) rfl ?_
        try go_frame
        refine tk 9 (oi := ⟨some 29, _, _, _, _, none⟩) rfl ?_
        try go_frame
        refine tk 10 (oi := ⟨some 30, _, _, _, _, none⟩) (v := .bool (!bq)) rfl ?_ (hy := fun wx hSx => by
          go_simp
          rw [five_eq HBQ.out]
          by_cases h1 : n.1 = m.1 <;> by_cases h2 : n.2.1 = m.2.1 <;> by_cases h3 : n.2.2.1 = m.2.2.1 <;> by_cases h4 : n.2.2.2.1 = m.2.2.2.1 <;> by_cases h5 : n.2.2.2.2 = m.2.2.2.2 <;> simp [h1, h2, h3, h4, h5])
        try go_frame
        refine wpAnyH_done (by kernel_rfl) ?_ _
        have HI2 := Lib.hid (HI.out.under (show Below wr.heap.size wr wr.drew from ⟨rfl, rfl, rfl, Nat.le_refl _, fun _ _ => rfl⟩))
        clear hHeld p1 p2 q0 q1 HI
        cases bq with
        | true =>
          have HS2 := Lib.hid (HST.out (of_decide_eq_true HBQ.out))
          clear HST HNO
          go_wp2_with fail
          go_roundw
          case rel => exact ⟨i + 1, by omega, by go_num, HS2, HI2⟩
          case measure => simp [intOf]; omega
        | false =>
          have HN2 := Lib.hid (HNO.out (of_decide_eq_false HBQ.out))
          clear HST HNO
          go_wp2_with fail
          go_ret
          exact ⟨ret_bool (by rw [← HZ.out, decide_eq_false HN2.out]), HI2.out.below⟩
      · have k0 : ¬ (i : Int) < (N.length : Int) := by omega
        have HY := Lib.hid (show N = M from eqToN_all HN.out (fun j hj => HT.out j (by omega)))
        go_wp2_with fail
        go_ret
        exact ⟨ret_bool (by rw [← HZ.out, decide_eq_true HY.out]), HI.out.below⟩
  · have k9 : ((N.length : Int) != (M.length : Int)) = true := by rw [bne_iff_ne]; omega
    have HN := Lib.hid (show ¬ N = M from fun h => hn (by rw [h])); clear hn
    go_wp2_with fail
    go_ret
    exact ⟨ret_bool (by rw [← HZ.out, decide_eq_false HN.out]), HI.out.below⟩
end Go.Proofs.YtlakgkoohdfiaaaDoor

namespace Go.Proofs.YtlakgkoohdfiaaaDoor
open Go.RowKit

set_option maxRecDepth 100000 in
theorem refLess_any (s t : Cm.N5) (w : World) : Calls Tryd.prog 60 #[nV s, nV t] w fun e w' => e = .returned (.bool (decide (Cm.lt3 (Cm.key s) (Cm.key t)))) ∧ Below w.heap.size w w' := by
  obtain ⟨a0, a1, a2, a3, a4⟩ := s
  obtain ⟨b0, b1, b2, b3, b4⟩ := t
  have hk : decide (Cm.lt3 (Cm.key (a0, a1, a2, a3, a4)) (Cm.key (b0, b1, b2, b3, b4))) = decide (a0 < b0 ∨ a0 = b0 ∧ (a1 < b1 ∨ a1 = b1 ∧ a2 < b2)) := by unfold Cm.lt3 Cm.key; rfl
  rw [hk]
  clear hk
  have bb1 := (Below.refl w.heap.size w).alloc (Nat.le_refl _) (.cells #[.int .i64 a0, .int .i64 a1, .int .i64 a2, .int .i64 a3, .int .i64 a4] 50)
  have BB := Lib.hid (bb1.alloc bb1.size (.cells #[.int .i64 b0, .int .i64 b1, .int .i64 b2, .int .i64 b3, .int .i64 b4] 50))
  clear bb1
  by_cases h0 : a0 = b0
  · subst h0
    by_cases h1 : a1 = b1
    · subst h1
      go_enter Tryd.func60, Tryd.ntmps60
      go_wp2_with fail
      go_ret
      exact ⟨ret_bool (by simp), BB.out⟩
    · have k1 : (a1 != b1) = true := bne_iff_ne.2 h1
      have H1 := Lib.hid h1
      clear h1
      go_enter Tryd.func60, Tryd.ntmps60
      go_wp2_with fail
      go_ret
      exact ⟨ret_bool (by simp [H1.out]), BB.out⟩
  · have k0 : (a0 != b0) = true := bne_iff_ne.2 h0
    have H0 := Lib.hid h0
    clear h0
    go_enter Tryd.func60, Tryd.ntmps60
    go_wp2_with fail
    go_ret
    exact ⟨ret_bool (by simp [H0.out]), BB.out⟩
end Go.Proofs.YtlakgkoohdfiaaaDoor

namespace Go.Proofs.YtlakgkoohdfiaaaDoor
open Go.RowKit

/-- The climate in its box. -/
structure Vr (W : World) (gb : Nat) (A : Option Addr) (cap : Nat) (N : List Cm.N5) (w : World) : Prop where
  below : Below W.heap.size W w
  box : Row w gb 24 #[.slice A N.length cap]
  nr : NrIn w (.slice A N.length cap) N
theorem Vr.under {W w w' : World} {gb cap : Nat} {A : Option Addr} {N : List Cm.N5} (h : Vr W gb A cap N w) (hb : Below w.heap.size w w') : Vr W gb A cap N w' :=
  ⟨h.below.trans (hb.mono h.below.size), h.box.under hb, h.nr.under hb⟩
/-- None of the first k normals has the error z. -/
def NoE (N : List Cm.N5) (z : Int) (k : Nat) : Prop := ∀ j, ∀ h : j < N.length, j < k → Cm.chkN N[j] ≠ z
theorem NoE.succ {N : List Cm.N5} {z : Int} {k : Nat} (h : NoE N z k) (hk : k < N.length) (hz : Cm.chkN N[k] ≠ z) : NoE N z (k + 1) := fun j hj hjk => by
  rcases (by omega : j < k ∨ j = k) with q | rfl
  · exact h j hj q
  · exact hz
theorem NoE.all {N : List Cm.N5} {z : Int} (h : NoE N z N.length) : ¬ ∃ n ∈ N, Cm.chkN n = z := fun ⟨n, hn, e⟩ => by
  obtain ⟨j, hj, rfl⟩ := List.getElem_of_mem hn
  exact h j hj hj e
theorem chk_no {n : Cm.N5} (h : ¬ El.Elt.Ex n.1) : Cm.chkN n = 4 := by unfold Cm.chkN; rw [if_neg h]
theorem chk_yes {n : Cm.N5} (h : El.Elt.Ex n.1) : Cm.chkN n ≠ 4 := by unfold Cm.chkN; rw [if_pos h]; split <;> omega
theorem chk_rng {n : Cm.N5} (h : Cm.chkN n ≠ 4) : (0 ≤ n.2.1 ∧ n.2.1 ≤ 19 ∧ 1 ≤ n.2.2.1 ∧ n.2.2.1 ≤ 12 ∧ -10000 ≤ n.2.2.2.1 ∧ n.2.2.2.1 ≤ 20000 ∧ 0 ≤ n.2.2.2.2 ∧ n.2.2.2.2 ≤ 20000 → Cm.chkN n ≠ 1) ∧ (¬ (0 ≤ n.2.1 ∧ n.2.1 ≤ 19 ∧ 1 ≤ n.2.2.1 ∧ n.2.2.1 ≤ 12 ∧ -10000 ≤ n.2.2.2.1 ∧ n.2.2.2.1 ≤ 20000 ∧ 0 ≤ n.2.2.2.2 ∧ n.2.2.2.2 ≤ 20000) → Cm.chkN n = 1) := by
  unfold Cm.chkN at h ⊢
  by_cases q : El.Elt.Ex n.1
  · rw [if_pos q]
    exact ⟨fun h => by rw [if_pos h]; omega, fun h => by rw [if_neg h]⟩
  · rw [if_neg q] at h; omega
/-- The first k normals ascend. -/
def Asc (N : List Cm.N5) (k : Nat) : Prop := ∀ j, ∀ h : j + 1 < N.length, j + 1 < k → Cm.lt3 (Cm.key N[j]) (Cm.key N[j + 1])
set_option maxRecDepth 100000 in
set_option maxHeartbeats 4000000 in
theorem refValidateN_any (v : Value) (N : List Cm.N5) (w : World) (hN : NrIn w v N) :
    Calls Tryd.prog 21 #[clV v] w fun e w' => e = .returned (.int .i64 (Cm.vldN N)) ∧ Below w.heap.size w w' := by
  obtain ⟨A, cap, rfl, m1, m2, -⟩ := id hN
  have b1 := (Below.refl w.heap.size w).alloc (Nat.le_refl _) (.cells #[.slice A N.length cap] 24)
  have I0 : Hid (Vr w w.heap.size A cap N (w.alloc (.cells #[.slice A N.length cap] 24))) := Lib.hid ⟨b1, Row.new _ _ _, hN.under b1⟩
  obtain ⟨z, hz⟩ : ∃ z, Cm.vldN N = z := ⟨_, rfl⟩
  rw [hz]
  have HZ := Lib.hid hz
  clear hz hN b1
  go_enter Tryd.func21, Tryd.ntmps21
  go_upto_region 1 with fail
  refine forget (fun Y => Hid (Vr w w.heap.size A cap N Y)) I0 ?_
  clear I0
  obtain ⟨gb, hgb⟩ : ∃ g, w.heap.size = g := ⟨_, rfl⟩
  rw [hgb]
  have HGB := Lib.hid hgb
  clear hgb
  rintro Y HI
  have q0 := (HI.out.box.cell 0).trans rfl
  by_cases h200 : 200 < N.length
  · have k1 : (200 : Int) < (N.length : Int) := by omega
    have HV := Lib.hid (Cm.vldN_long h200)
    clear h200
    go_wp2_with fail
    go_ret
    exact ⟨ret_i64 (by rw [← HZ.out, HV.out]), HGB.out ▸ HI.out.below⟩
  · have k1 : ¬ (200 : Int) < (N.length : Int) := by omega
    have H2 := Lib.hid h200
    have hl : N.length ≤ 200 := by omega
    clear h200
    go_wp2_with fail
    clear q0 k1
    go_loopw [17] (fun t' wr => ∃ i : Nat, i ≤ N.length ∧ t' = .int .i64 (i : Int) ∧ Hid (NoE N 4 i) ∧ Hid (Vr w gb A cap N wr)) (fun t' _ => N.length - (intOf t').toNat)
    case atStart => exact ⟨0, Nat.zero_le _, rfl, Lib.hid (fun j _ h => by omega), HI⟩
    case round =>
      clear HI
      obtain ⟨i, hi, rfl, HT, HI⟩ := hrel
      by_cases hlt : i < N.length
      · have k0 : (0 : Int) ≤ (i : Int) := by omega
        have k1 : (i : Int) < (N.length : Int) := by omega
        obtain ⟨g, o, hA, -, p0, p1, p2, p3, p4⟩ := HI.out.nr.at hlt
        subst hA
        have HNx := Lib.hid (fun h => HT.out.succ hlt h)
        have HBd := Lib.hid (fun (h : Cm.chkN N[i] = 4) => Cm.vldN_kind H2.out ⟨N[i], List.getElem_mem hlt, h⟩)
        generalize N[i] = n at *
        obtain ⟨m0, m1', m2', m3, m4⟩ := n
        simp only at p0 p1 p2 p3 p4
        have b1 := (Below.refl wr.heap.size wr).alloc (Nat.le_refl _) (.cells #[.int .i64 m0, .int .i64 m1', .int .i64 m2', .int .i64 m3, .int .i64 m4] 50)
        have I1 : Hid (Vr w gb (some ⟨g, o, none⟩) cap N (wr.alloc (.cells #[.int .i64 m0, .int .i64 m1', .int .i64 m2', .int .i64 m3, .int .i64 m4] 50)) ∧ Row (wr.alloc (.cells #[.int .i64 m0, .int .i64 m1', .int .i64 m2', .int .i64 m3, .int .i64 m4] 50)) wr.heap.size 50 #[.int .i64 m0, .int .i64 m1', .int .i64 m2', .int .i64 m3, .int .i64 m4]) := Lib.hid ⟨HI.out.under b1, Row.new _ _ _⟩
        clear b1 HI HT
        go_upto_region 6 with fail
        refine forget (fun Y => Hid (Vr w gb (some ⟨g, o, none⟩) cap N Y ∧ Row Y wr.heap.size 50 #[.int .i64 m0, .int .i64 m1', .int .i64 m2', .int .i64 m3, .int .i64 m4])) I1 ?_
        clear I1 p0 p1 p2 p3 p4
        generalize wr.heap.size = gn at *
        rintro Y1 I1
        obtain ⟨c0, c1, c2, c3, c4⟩ := row5 I1.out.2
        have HI := Lib.hid I1.out.1
        clear I1
        by_cases hx : El.Elt.Ex m0
        · have HT2 := Lib.hid (HNx.out (chk_yes hx))
          have HDe := Lib.hid (El.refDescribe_yes m0 Y1 hx)
          clear HNx HBd hx
          go_wp2_with fail
          refine HDe.out.mono ?_
          rintro e w2 ⟨rfl, g2⟩
          have HI2 := Lib.hid ((HI.out.under g2).under ((Below.refl w2.heap.size w2).alloc (Nat.le_refl _) (.cells #[.string (S [El.Elt.lt m0]), .int .i64 (El.Elt.lo m0), .int .i64 (El.Elt.hi m0), .int .i64 (El.Elt.dg m0)] 102)))
          clear HI g2 HDe
          go_wp2_with fail
          go_roundw
          case rel => exact ⟨i + 1, by omega, by go_num, HT2, HI2⟩
          case measure => simp [intOf]; omega
        · have HV := Lib.hid (HBd.out (chk_no hx))
          have HDe := Lib.hid (El.refDescribe_no m0 Y1 hx)
          clear HNx HBd hx
          go_wp2_with fail
          refine HDe.out.mono ?_
          rintro e w2 ⟨rfl, g2⟩
          have HI2 := Lib.hid (((HI.out.under g2).under ((Below.refl w2.heap.size w2).alloc (Nat.le_refl _) (.cells #[.string ⟨#[]⟩, .int .i64 0, .int .i64 0, .int .i64 0] 102))).below)
          clear HI g2 HDe
          go_wp2_with fail
          go_ret
          exact ⟨ret_i64 (by rw [← HZ.out, HV.out]), HGB.out ▸ HI2.out⟩
      · obtain rfl : i = N.length := by omega
        have k1 : ¬ (N.length : Int) < (N.length : Int) := by omega
        have q0 := (HI.out.box.cell 0).trans rfl
        have HN4 := Lib.hid HT.out
        have HA4 := Lib.hid HT.out.all
        clear HT
        go_wp2_with fail
        clear q0 k1
        go_loopw [33] (fun t' wr => ∃ i : Nat, i ≤ N.length ∧ t' = .int .i64 (i : Int) ∧ Hid (NoE N 1 i) ∧ Hid (Vr w gb A cap N wr)) (fun t' _ => N.length - (intOf t').toNat)
        case atStart => exact ⟨0, Nat.zero_le _, rfl, Lib.hid (fun j _ h => by omega), HI⟩
        case round =>
          clear HI
          obtain ⟨i, hi, rfl, HT, HI⟩ := hrel
          by_cases hlt : i < N.length
          · have k0 : (0 : Int) ≤ (i : Int) := by omega
            have k1 : (i : Int) < (N.length : Int) := by omega
            obtain ⟨g, o, hA, -, p0, p1, p2, p3, p4⟩ := HI.out.nr.at hlt
            subst hA
            have hcr := chk_rng (HN4.out i hlt hlt)
            have HNx := Lib.hid (fun h => HT.out.succ hlt (hcr.1 h))
            have HBd := Lib.hid (fun h => Cm.vldN_range H2.out HA4.out ⟨N[i], List.getElem_mem hlt, hcr.2 h⟩)
            clear hcr
            generalize N[i] = n at *
            obtain ⟨m0, m1', m2', m3, m4⟩ := n
            simp only at p0 p1 p2 p3 p4 HNx HBd
            have b1 := (Below.refl wr.heap.size wr).alloc (Nat.le_refl _) (.cells #[.int .i64 m0, .int .i64 m1', .int .i64 m2', .int .i64 m3, .int .i64 m4] 50)
            have I1 : Hid (Vr w gb (some ⟨g, o, none⟩) cap N (wr.alloc (.cells #[.int .i64 m0, .int .i64 m1', .int .i64 m2', .int .i64 m3, .int .i64 m4] 50)) ∧ Row (wr.alloc (.cells #[.int .i64 m0, .int .i64 m1', .int .i64 m2', .int .i64 m3, .int .i64 m4] 50)) wr.heap.size 50 #[.int .i64 m0, .int .i64 m1', .int .i64 m2', .int .i64 m3, .int .i64 m4]) := Lib.hid ⟨HI.out.under b1, Row.new _ _ _⟩
            clear b1 HI HT
            go_upto_region 13 with fail
            refine forget (fun Y => Hid (Vr w gb (some ⟨g, o, none⟩) cap N Y ∧ Row Y wr.heap.size 50 #[.int .i64 m0, .int .i64 m1', .int .i64 m2', .int .i64 m3, .int .i64 m4])) I1 ?_
            clear I1 p0 p1 p2 p3 p4
            generalize wr.heap.size = gn at *
            rintro Y1 I1
            obtain ⟨c0, c1, c2, c3, c4⟩ := row5 I1.out.2
            have HI := Lib.hid I1.out.1
            clear I1
            have hc : (m1' < 0) ∨ (¬ m1' < 0 ∧ 20 ≤ m1') ∨ (¬ m1' < 0 ∧ ¬ 20 ≤ m1' ∧ m2' < 1) ∨ (¬ m1' < 0 ∧ ¬ 20 ≤ m1' ∧ ¬ m2' < 1 ∧ 12 < m2') ∨ (¬ m1' < 0 ∧ ¬ 20 ≤ m1' ∧ ¬ m2' < 1 ∧ ¬ 12 < m2' ∧ m3 < -10000) ∨ (¬ m1' < 0 ∧ ¬ 20 ≤ m1' ∧ ¬ m2' < 1 ∧ ¬ 12 < m2' ∧ ¬ m3 < -10000 ∧ 20000 < m3) ∨ (¬ m1' < 0 ∧ ¬ 20 ≤ m1' ∧ ¬ m2' < 1 ∧ ¬ 12 < m2' ∧ ¬ m3 < -10000 ∧ ¬ 20000 < m3 ∧ m4 < 0) ∨ (¬ m1' < 0 ∧ ¬ 20 ≤ m1' ∧ ¬ m2' < 1 ∧ ¬ 12 < m2' ∧ ¬ m3 < -10000 ∧ ¬ 20000 < m3 ∧ ¬ m4 < 0 ∧ 20000 < m4) ∨ (¬ m1' < 0 ∧ ¬ 20 ≤ m1' ∧ ¬ m2' < 1 ∧ ¬ 12 < m2' ∧ ¬ m3 < -10000 ∧ ¬ 20000 < m3 ∧ ¬ m4 < 0 ∧ ¬ 20000 < m4) := by omega
            rcases hc with hc | hc | hc | hc | hc | hc | hc | hc | hc
            · have u0 := hc
              have HV := Lib.hid (HBd.out (by omega))
              clear HNx HBd
              go_wp2_with fail
              go_ret
              exact ⟨ret_i64 (by rw [← HZ.out, HV.out]), HGB.out ▸ HI.out.below⟩
            · obtain ⟨u0, u1⟩ := hc
              have HV := Lib.hid (HBd.out (by omega))
              clear HNx HBd
              go_wp2_with fail
              go_ret
              exact ⟨ret_i64 (by rw [← HZ.out, HV.out]), HGB.out ▸ HI.out.below⟩
            · obtain ⟨u0, u1, u2⟩ := hc
              have HV := Lib.hid (HBd.out (by omega))
              clear HNx HBd
              go_wp2_with fail
              go_ret
              exact ⟨ret_i64 (by rw [← HZ.out, HV.out]), HGB.out ▸ HI.out.below⟩
            · obtain ⟨u0, u1, u2, u3⟩ := hc
              have HV := Lib.hid (HBd.out (by omega))
              clear HNx HBd
              go_wp2_with fail
              go_ret
              exact ⟨ret_i64 (by rw [← HZ.out, HV.out]), HGB.out ▸ HI.out.below⟩
            · obtain ⟨u0, u1, u2, u3, u4⟩ := hc
              have HV := Lib.hid (HBd.out (by omega))
              clear HNx HBd
              go_wp2_with fail
              go_ret
              exact ⟨ret_i64 (by rw [← HZ.out, HV.out]), HGB.out ▸ HI.out.below⟩
            · obtain ⟨u0, u1, u2, u3, u4, u5⟩ := hc
              have HV := Lib.hid (HBd.out (by omega))
              clear HNx HBd
              go_wp2_with fail
              go_ret
              exact ⟨ret_i64 (by rw [← HZ.out, HV.out]), HGB.out ▸ HI.out.below⟩
            · obtain ⟨u0, u1, u2, u3, u4, u5, u6⟩ := hc
              have HV := Lib.hid (HBd.out (by omega))
              clear HNx HBd
              go_wp2_with fail
              go_ret
              exact ⟨ret_i64 (by rw [← HZ.out, HV.out]), HGB.out ▸ HI.out.below⟩
            · obtain ⟨u0, u1, u2, u3, u4, u5, u6, u7⟩ := hc
              have HV := Lib.hid (HBd.out (by omega))
              clear HNx HBd
              go_wp2_with fail
              go_ret
              exact ⟨ret_i64 (by rw [← HZ.out, HV.out]), HGB.out ▸ HI.out.below⟩
            · obtain ⟨u0, u1, u2, u3, u4, u5, u6, u7⟩ := hc
              have HT2 := Lib.hid (HNx.out ⟨by omega, by omega, by omega, by omega, by omega, by omega, by omega, by omega⟩)
              clear HNx HBd
              go_wp2_with fail
              go_roundw
              case rel => exact ⟨i + 1, by omega, by go_num, HT2, HI⟩
              case measure => simp [intOf]; omega
          · obtain rfl : i = N.length := by omega
            have k1 : ¬ (N.length : Int) < (N.length : Int) := by omega
            have HA1 := Lib.hid HT.out.all
            clear HT HN4
            go_wp2_with fail
            go_loopw [9] (fun t' wr => ∃ i : Nat, 1 ≤ i ∧ i ≤ N.length + 1 ∧ t' = .int .i64 (i : Int) ∧ Hid (Asc N i) ∧ Hid (Vr w gb A cap N wr)) (fun t' _ => N.length + 1 - (intOf t').toNat)
            case atStart => exact ⟨1, by omega, by omega, rfl, Lib.hid (fun j _ h => by omega), HI⟩
            case round =>
              clear HI
              obtain ⟨i, hi1, hi, rfl, HT, HI⟩ := hrel
              have q0 := (HI.out.box.cell 0).trans rfl
              by_cases hlt : i < N.length
              · have k0 : (0 : Int) ≤ (i : Int) := by omega
                have k1 : (i : Int) < (N.length : Int) := by omega
                obtain ⟨k, hk⟩ : ∃ k, i = k + 1 := ⟨i - 1, by omega⟩
                have hkl : k < N.length := by omega
                have hw : IntKind.i64.wrap ((i : Int) - 1) = (k : Int) := by rw [IntWalk.i64_in _ (by omega)]; omega
                have j0 : (0 : Int) ≤ (k : Int) := by omega
                have j1 : (k : Int) < (N.length : Int) := by omega
                obtain ⟨g, o, hA, hgl, p0, p1, p2, p3, p4⟩ := HI.out.nr.at hlt
                obtain ⟨g', o', hA', -, r0, r1, r2, r3, r4⟩ := HI.out.nr.at hkl
                subst hA
                injection hA' with hA'
                injection hA' with hA1 hA2 _
                subst hA1
                subst hA2
                have HYes := Lib.hid (show Cm.lt3 (Cm.key N[k]) (Cm.key N[i]) → Asc N (i + 1) from fun h j hj hji => by
                  rcases (by omega : j + 1 < i ∨ j = k) with q | rfl
                  · exact HT.out j hj q
                  · subst hk; exact h)
                have HNo := Lib.hid (show ¬ Cm.lt3 (Cm.key N[k]) (Cm.key N[i]) → ¬ Cm.AscN N from fun h ha => h (by subst hk; exact ha k hlt))
                have HLs := Lib.hid (fun W => refLess_any N[k] N[i] W)
                generalize N[k] = a at *
                generalize N[i] = c at *
                obtain ⟨bq, hbq⟩ : ∃ bq, decide (Cm.lt3 (Cm.key a) (Cm.key c)) = bq := ⟨_, rfl⟩
                rw [hbq] at HLs
                have HBQ := Lib.hid hbq
                clear hbq hkl hk
                have HD := Lib.hid (HI.out.under (show Below wr.heap.size wr wr.drew from ⟨rfl, rfl, rfl, Nat.le_refl _, fun _ _ => rfl⟩))
                obtain ⟨a0, a1, a2, a3, a4⟩ := a
                obtain ⟨c0, c1, c2, c3, c4⟩ := c
                simp only at p0 p1 p2 p3 p4 r0 r1 r2 r3 r4
                go_upto_region 19 with fail
                refine wp_region_held_drew (S := fun w' : World => w'.cell? ⟨gb, 0, none⟩ = some (.slice (some ⟨g, o, none⟩) N.length cap) ∧ (w'.cell? ⟨g, o + k * 5, none⟩ = some (.int .i64 a0) ∧ w'.cell? ⟨g, o + k * 5 + 1, none⟩ = some (.int .i64 a1) ∧ w'.cell? ⟨g, o + k * 5 + 2, none⟩ = some (.int .i64 a2) ∧ w'.cell? ⟨g, o + k * 5 + 3, none⟩ = some (.int .i64 a3) ∧ w'.cell? ⟨g, o + k * 5 + 4, none⟩ = some (.int .i64 a4)) ∧ (w'.cell? ⟨g, o + i * 5, none⟩ = some (.int .i64 c0) ∧ w'.cell? ⟨g, o + i * 5 + 1, none⟩ = some (.int .i64 c1) ∧ w'.cell? ⟨g, o + i * 5 + 2, none⟩ = some (.int .i64 c2) ∧ w'.cell? ⟨g, o + i * 5 + 3, none⟩ = some (.int .i64 c3) ∧ w'.cell? ⟨g, o + i * 5 + 4, none⟩ = some (.int .i64 c4))) (by kernel_rfl) ⟨q0, ⟨r0, r1, r2, r3, r4⟩, p0, p1, p2, p3, p4⟩ (fun hHeld => ?_)
                refine tk 0 (oi := ⟨some 83, _, _, _, _, none⟩) rfl ?_
                try go_frame
                refine tk 1 (oi := ⟨some 84, _, _, _, _, none⟩) rfl ?_
                try go_frame
                refine tk 2 (oi := ⟨some 85, _, _, _, _, none⟩) rfl ?_
                try go_frame
                refine tk 3 (oi := ⟨some 86, _, _, _, _, none⟩) (v := .int .i64 (k : Int)) rfl ?_ (hy := fun wx hSx => by first | (go_simp; done) | (go_simp; simp [hw]))
                try go_frame
                refine tk 4 (oi := ⟨some 87, _, _, _, _, none⟩) rfl ?_
                try go_frame
                refine tk 5 (oi := ⟨some 88, _, _, _, _, none⟩) rfl ?_
                try go_frame
                refine tk 6 (oi := ⟨some 89, _, _, _, _, none⟩) rfl ?_
                try go_frame
                refine tk 7 (oi := ⟨some 90, _, _, _, _, none⟩) rfl ?_
                try go_frame
                refine tk 8 (oi := ⟨some 91, _, _, _, _, none⟩) rfl ?_
                try go_frame
                refine tk 9 (oi := ⟨some 92, _, _, _, _, none⟩) rfl ?_
                try go_frame
                refine tk 10 (oi := ⟨some 93, _, _, _, _, none⟩) rfl ?_
                try go_frame
                refine wpAnyH_ready (rs := [11]) (by kernel_rfl) (by simp) ?_
                refine AllReadyH.cons (o := ⟨some 94, _, _, _, _, none⟩) rfl (fun KK hKK => ?_) AllReadyH.nil
                go_simp
                refine (HLs.out _).mono ?_
                rintro e w3 ⟨rfl, g3⟩
                have HI3 := Lib.hid (HD.out.under g3)
                have C : ∀ j, w3.cell? ⟨g, j, none⟩ = wr.cell? ⟨g, j, none⟩ := fun j => (g3.cell (p := ⟨g, j, none⟩) hgl).trans rfl
                have SS := And.intro ((HI3.out.box.cell 0).trans rfl) (And.intro (And.intro ((C _).trans r0) (And.intro ((C _).trans r1) (And.intro ((C _).trans r2) (And.intro ((C _).trans r3) ((C _).trans r4))))) (And.intro ((C _).trans p0) (And.intro ((C _).trans p1) (And.intro ((C _).trans p2) (And.intro ((C _).trans p3) ((C _).trans p4))))))
                clear C g3 HD HI HLs
                go_wp2_with fail
                refine hKK.out _ _ SS (fun hHeld2 => ?_)
                clear hKK KK hHeld SS
                try go_frame
                refine tk 12 (oi := ⟨some 95, _, _, _, _, none⟩) rfl ?_
                try go_frame
                refine wpAnyH_done (by kernel_rfl) ?_ _
                clear hHeld2 q0 p0 p1 p2 p3 p4 r0 r1 r2 r3 r4 hw j0 j1
                cases bq with
                | true =>
                  have HT2 := Lib.hid (HYes.out (of_decide_eq_true HBQ.out))
                  clear HYes HNo HT HBQ
                  go_wp2_with fail
                  go_roundw
                  case rel => exact ⟨i + 1, by omega, by omega, by go_num, HT2, HI3⟩
                  case measure => simp [intOf]; omega
                | false =>
                  have HV := Lib.hid ((Cm.vldN_sort H2.out HA4.out HA1.out).2 (HNo.out (of_decide_eq_false HBQ.out)))
                  clear HYes HNo HT HBQ
                  go_wp2_with fail
                  go_ret
                  exact ⟨ret_i64 (by rw [← HZ.out, HV.out]), HGB.out ▸ HI3.out.below⟩
              · have k1 : ¬ (i : Int) < (N.length : Int) := by omega
                have HV := Lib.hid ((Cm.vldN_sort H2.out HA4.out HA1.out).1 (fun j hj => HT.out j hj (by omega)))
                clear HT
                go_wp2_with fail
                go_ret
                exact ⟨ret_i64 (by rw [← HZ.out, HV.out]), HGB.out ▸ HI.out.below⟩
end Go.Proofs.YtlakgkoohdfiaaaDoor
