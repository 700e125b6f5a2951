/- The reference's Same at climates. -/
import Derived.Test.YtcheadbhkbbegaaDoorLrP
import Derived.Test.YtcheadbhkbbegaaDoorQar
namespace Go.Proofs.YtcheadbhkbbegaaDoor
open Go.RowKit

/-- Both climates in their boxes. -/
structure Sb (W : World) (ga gb : Nat) (A B : Option Addr) (ca cb : Nat) (N M : List Cm.N5) (w : World) : Prop where
  below : Below W.heap.size W w
  ba : Row w ga 24 #[.slice A N.length ca]
  bb : Row w gb 24 #[.slice B M.length cb]
  na : NrIn w (.slice A N.length ca) N
  nb : NrIn w (.slice B M.length cb) M
theorem Sb.under {W w w' : World} {ga gb ca cb : Nat} {A B : Option Addr} {N M : List Cm.N5} (h : Sb W ga gb A B ca cb N M w) (hb : Below w.heap.size w w') : Sb W ga gb A B ca cb N M w' :=
  ⟨h.below.trans (hb.mono h.below.size), h.ba.under hb, h.bb.under hb, h.na.under hb, h.nb.under hb⟩
def eqToN (a b : List Cm.N5) (n : Nat) : Prop := ∀ j, j < n → a[j]? = b[j]?
theorem eqToN_all {a b : List Cm.N5} (hl : a.length = b.length) (h : eqToN a b a.length) : a = b := by
  refine List.ext_getElem? fun j => ?_
  rcases Nat.lt_or_ge j a.length with q | q
  · exact h j q
  · rw [List.getElem?_eq_none q, List.getElem?_eq_none (by omega)]
theorem five_eq {n m : Cm.N5} {bq : Bool} (h : decide (n = m) = bq) : bq = decide (n.1 = m.1 ∧ n.2.1 = m.2.1 ∧ n.2.2.1 = m.2.2.1 ∧ n.2.2.2.1 = m.2.2.2.1 ∧ n.2.2.2.2 = m.2.2.2.2) := by
  rw [← h]
  obtain ⟨a, b, c, d, f⟩ := n
  obtain ⟨a', b', c', d', f'⟩ := m
  simp
set_option maxRecDepth 100000 in
set_option maxHeartbeats 4000000 in
theorem refSameN_any (u v : Value) (N M : List Cm.N5) (w : World) (hN : NrIn w u N) (hM : NrIn w v M) :
    Calls Tryd.prog 23 #[clV u, clV v] w fun e w' => e = .returned (.bool (decide (N = M))) ∧ Below w.heap.size w w' := by
  obtain ⟨A, ca, rfl, m1, m2, -⟩ := id hN
  obtain ⟨B, cb, rfl, m3, m4, -⟩ := id hM
  have b1 := (Below.refl w.heap.size w).alloc (Nat.le_refl _) (.cells #[.slice A N.length ca] 24)
  have b2 := b1.alloc b1.size (.cells #[.slice B M.length cb] 24)
  have I0 : Hid (Sb w w.heap.size (w.heap.size + 1) A B ca cb N M ((w.alloc (.cells #[.slice A N.length ca] 24)).alloc (.cells #[.slice B M.length cb] 24))) := Lib.hid ⟨b2, (Row.new _ _ _).alloc _, Row.newAt (by simp), hN.under b2, hM.under b2⟩
  obtain ⟨z, hz⟩ : ∃ z, decide (N = M) = z := ⟨_, rfl⟩
  have HZ := Lib.hid hz
  rw [hz]
  clear hz hN hM b1 b2
  go_enter Tryd.func23, Tryd.ntmps23
  go_upto_region 1 with fail
  refine forget (fun Y => Hid (Sb w w.heap.size (w.heap.size + 1) A B ca cb N M Y)) I0 ?_
  clear I0
  obtain ⟨gb, hgb⟩ : ∃ g, w.heap.size + 1 = g := ⟨_, rfl⟩
  obtain ⟨ga, hga⟩ : ∃ g, w.heap.size = g := ⟨_, rfl⟩
  rw [hgb, hga]
  clear hgb hga
  rintro Y HI
  have q0 := (HI.out.ba.cell 0).trans rfl
  have q1 := (HI.out.bb.cell 0).trans rfl
  by_cases hn : N.length = M.length
  · have HN := Lib.hid hn
    have k9 : ((N.length : Int) != (M.length : Int)) = false := by rw [bne_eq_false_iff_eq]; omega
    clear hn
    go_wp2_with fail
    go_loopw [5] (fun t wr => ∃ i : Nat, i ≤ N.length ∧ t = .int .i64 (i : Int) ∧ Hid (eqToN N M i) ∧ Hid (Sb w ga gb A B ca cb N M wr)) (fun t _ => N.length - (intOf t).toNat)
    case atStart => exact ⟨0, by omega, rfl, Lib.hid (fun i hi => by omega), HI⟩
    case round =>
      clear HI q0 q1
      obtain ⟨i, hi, rfl, HT, HI⟩ := hrel
      have q0 := (HI.out.ba.cell 0).trans rfl
      have q1 := (HI.out.bb.cell 0).trans rfl
      by_cases hlt : i < N.length
      · have k0 : (i : Int) < (N.length : Int) := by omega
        have k1 : (0 : Int) ≤ (i : Int) := by omega
        have hib : i < M.length := by have := HN.out; omega
        have k2 : (i : Int) < (M.length : Int) := by omega
        obtain ⟨g, o1, rfl, -, p1⟩ := HI.out.na.at hlt
        obtain ⟨g', o2, rfl, -, p2⟩ := HI.out.nb.at hib
        have HST := Lib.hid (show N[i] = M[i] → eqToN N M (i + 1) from fun h j hj => by
          rcases (by omega : j < i ∨ j = i) with hj' | rfl
          · exact HT.out j hj'
          · rw [List.getElem?_eq_getElem hlt, List.getElem?_eq_getElem hib, h])
        have HNO := Lib.hid (show N[i] ≠ M[i] → ¬ N = M from fun h h' => by subst h'; exact h rfl)
        generalize N[i] = n at *
        generalize M[i] = m at *
        obtain ⟨bq, hbq⟩ : ∃ bq, decide (n = m) = bq := ⟨_, rfl⟩
        have HBQ := Lib.hid hbq
        clear hib hbq
        go_upto_region 6 with fail
        refine wp_region_held_drew (S := fun w' : World => (w'.cell? ⟨ga, 0, none⟩ = some (.slice (some ⟨g, o1, none⟩) N.length ca) ∧ w'.cell? ⟨gb, 0, none⟩ = some (.slice (some ⟨g', o2, none⟩) M.length cb)) ∧ (w'.cell? ⟨g, o1 + i * 5, none⟩ = some (.int .i64 n.1) ∧ w'.cell? ⟨g, o1 + i * 5 + 1, none⟩ = some (.int .i64 n.2.1) ∧ w'.cell? ⟨g, o1 + i * 5 + 2, none⟩ = some (.int .i64 n.2.2.1) ∧ w'.cell? ⟨g, o1 + i * 5 + 3, none⟩ = some (.int .i64 n.2.2.2.1) ∧ w'.cell? ⟨g, o1 + i * 5 + 4, none⟩ = some (.int .i64 n.2.2.2.2)) ∧ w'.cell? ⟨g', o2 + i * 5, none⟩ = some (.int .i64 m.1) ∧ w'.cell? ⟨g', o2 + i * 5 + 1, none⟩ = some (.int .i64 m.2.1) ∧ w'.cell? ⟨g', o2 + i * 5 + 2, none⟩ = some (.int .i64 m.2.2.1) ∧ w'.cell? ⟨g', o2 + i * 5 + 3, none⟩ = some (.int .i64 m.2.2.2.1) ∧ w'.cell? ⟨g', o2 + i * 5 + 4, none⟩ = some (.int .i64 m.2.2.2.2)) (by kernel_rfl) ⟨⟨q0, q1⟩, p1, p2⟩ (fun hHeld => ?_)
        refine tk 0 (oi := ⟨some 20, _, _, _, _, none⟩) rfl ?_
        try go_frame
        refine tk 1 (oi := ⟨some 21, _, _, _, _, none⟩) rfl ?_
        try go_frame
        refine tk 2 (oi := ⟨some 22, _, _, _, _, none⟩) rfl ?_
        try go_frame
        refine tk 3 (oi := ⟨some 23, _, _, _, _, none⟩) rfl ?_
        try go_frame
        refine tk 4 (oi := ⟨some 24, _, _, _, _, none⟩) rfl ?_
        try go_frame
        refine tk 5 (oi := ⟨some 25, _, _, _, _, none⟩) rfl ?_
        try go_frame
        refine tk 6 (oi := ⟨some 26, _, _, _, _, none⟩) rfl ?_
        try go_frame
        refine tk 7 (oi := ⟨some 27, _, _, _, _, none⟩) rfl ?_
        try go_frame
        refine tk 8 (oi := ⟨some 28, _, _, _, _, none⟩) rfl ?_
        try go_frame
        refine tk 9 (oi := ⟨some 29, _, _, _, _, none⟩) rfl ?_
        try go_frame
        refine tk 10 (oi := ⟨some 30, _, _, _, _, none⟩) (v := .bool (!bq)) rfl ?_ (hy := fun wx hSx => by
          go_simp
          rw [five_eq HBQ.out]
          by_cases h1 : n.1 = m.1 <;> by_cases h2 : n.2.1 = m.2.1 <;> by_cases h3 : n.2.2.1 = m.2.2.1 <;> by_cases h4 : n.2.2.2.1 = m.2.2.2.1 <;> by_cases h5 : n.2.2.2.2 = m.2.2.2.2 <;> simp [h1, h2, h3, h4, h5])
        try go_frame
        refine wpAnyH_done (by kernel_rfl) ?_ _
        have HI2 := Lib.hid (HI.out.under (show Below wr.heap.size wr wr.drew from ⟨rfl, rfl, rfl, Nat.le_refl _, fun _ _ => rfl⟩))
        clear hHeld p1 p2 q0 q1 HI
        cases bq with
        | true =>
          have HS2 := Lib.hid (HST.out (of_decide_eq_true HBQ.out))
          clear HST HNO
          go_wp2_with fail
          go_roundw
          case rel => exact ⟨i + 1, by omega, by go_num, HS2, HI2⟩
          case measure => simp [intOf]; omega
        | false =>
          have HN2 := Lib.hid (HNO.out (of_decide_eq_false HBQ.out))
          clear HST HNO
          go_wp2_with fail
          go_ret
          exact ⟨ret_bool (by rw [← HZ.out, decide_eq_false HN2.out]), HI2.out.below⟩
      · have k0 : ¬ (i : Int) < (N.length : Int) := by omega
        have HY := Lib.hid (show N = M from eqToN_all HN.out (fun j hj => HT.out j (by omega)))
        go_wp2_with fail
        go_ret
        exact ⟨ret_bool (by rw [← HZ.out, decide_eq_true HY.out]), HI.out.below⟩
  · have k9 : ((N.length : Int) != (M.length : Int)) = true := by rw [bne_iff_ne]; omega
    have HN := Lib.hid (show ¬ N = M from fun h => hn (by rw [h])); clear hn
    go_wp2_with fail
    go_ret
    exact ⟨ret_bool (by rw [← HZ.out, decide_eq_false HN.out]), HI.out.below⟩
end Go.Proofs.YtcheadbhkbbegaaDoor
