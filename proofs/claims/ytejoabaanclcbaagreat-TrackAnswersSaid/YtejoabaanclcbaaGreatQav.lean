/- Texts of this proof. -/
import Derived.Test.YtejoabaanclcbaaGreatTkJ
namespace Go.Proofs.YtejoabaanclcbaaGreat.Tk
open Go.RowKit

/-- The first times ascend. -/
def ascRTo (R : List Rq) (n : Nat) : Prop := ∀ i, i + 1 < n → ∀ h : i + 1 < R.length, R[i].t < R[i + 1].t
def okTo (R : List Rq) (n : Nat) : Prop := ∀ i, i < n → ∀ h : i < R.length, okr R[i] = true
theorem okTo_all {R : List Rq} (h : okTo R R.length) : ∀ r ∈ R, okr r = true := fun r hr => by
  obtain ⟨i, hi, rfl⟩ := List.getElem_of_mem hr
  exact h i hi hi
set_option maxRecDepth 100000 in
set_option maxHeartbeats 8000000 in
theorem chainR_any (v : Value) (R : List Rq) (h : Int) (w : World) (hR : RqIn w v R) (hl : R.length ≤ 100000) :
    Calls Tryz.prog 15 #[v, .int .i64 h] w (CAns h R w) := by
  have hRR := hR
  obtain ⟨A, cap, rfl, hc1, hc2, hat⟩ := hR
  have HR := Lib.hid hRR; clear hRR
  have HA := Lib.hid hat; clear hat
  by_cases h30 : 30 < R.length
  · have k0 : (30 : Int) < (R.length : Int) := by omega
    go_enter Tryz.func15, Tryz.ntmps15
    go_wp2_with fail
    go_ret2
    exact ⟨[], 2, _, .inl ⟨h30, rfl, rfl⟩, rfl, il_nil _, Below.refl _ _⟩
  have k30 : ¬ (30 : Int) < (R.length : Int) := by omega
  have H30 := Lib.hid (Nat.not_lt.1 h30); clear h30
  by_cases n0 : h < 0
  · have HN := Lib.hid (show ¬ ((0 ≤ h ∧ h ≤ 1000) ∧ oks (fun _ => true) R) from fun x => by have := x.1.1; omega)
    go_enter Tryz.func15, Tryz.ntmps15
    go_wp2_with fail
    go_ret2
    exact ⟨[], 1, _, .inr (.inl ⟨H30.out, HN.out, rfl, rfl⟩), rfl, il_nil _, Below.refl _ _⟩
  by_cases n1 : (1000 : Int) < h
  · have HN := Lib.hid (show ¬ ((0 ≤ h ∧ h ≤ 1000) ∧ oks (fun _ => true) R) from fun x => by have := x.1.2; omega)
    go_enter Tryz.func15, Tryz.ntmps15
    go_wp2_with fail
    go_ret2
    exact ⟨[], 1, _, .inr (.inl ⟨H30.out, HN.out, rfl, rfl⟩), rfl, il_nil _, Below.refl _ _⟩
  have HH := Lib.hid (show 0 ≤ h ∧ h ≤ 1000 from ⟨by omega, by omega⟩)
  go_enter Tryz.func15, Tryz.ntmps15
  go_wp2_with fail
  go_loopw [6] (fun t wr => ∃ i : Nat, i ≤ R.length ∧ t = .int .i64 (i : Int) ∧ Hid (okTo R i) ∧ Hid (Below w.heap.size w wr)) (fun t _ => R.length - (intOf t).toNat)
  case atStart => exact ⟨0, by omega, rfl, Lib.hid (fun i hi => by omega), Lib.hid (Below.refl _ _)⟩
  case round =>
    obtain ⟨i, hi, rfl, HT, HB⟩ := hrel
    by_cases hlt : i < R.length
    · obtain ⟨g, off, rfl, hg, h8⟩ := HA.out i hlt
      replace h8 := h8.under hg HB.out
      have k0 : (i : Int) < (R.length : Int) := by omega
      have k1 : (0 : Int) ≤ (i : Int) := by omega
      have HST := Lib.hid (show okr R[i] = true → okTo R (i + 1) from fun h j hj hl' => by
        rcases (by omega : j < i ∨ j = i) with hj' | rfl
        · exact HT.out j hj' hl'
        · exact h)
      have HNO := Lib.hid (show okr R[i] = false → ¬ oks (fun _ => true) R from fun h1 h => by rw [h _ (List.getElem_mem hlt) rfl] at h1; cases h1)
      generalize R[i] = r at *
      obtain ⟨rk, rn, rt, rF, rA, rB, rC, ra, ru, rc⟩ := r
      obtain ⟨q0, q1, q2, q3, q4, q5, q6, q7⟩ := h8
      simp only at q0 q1 q2 q3 q4 q5 q6 q7
      go_wp2_with fail
      refine (refValid12_any rk rn rt rF rA rB rC ra ru rc _).mono ?_
      rintro e w1 ⟨rfl, hb1⟩
      have HB1 := Lib.hid (HB.out.trans (hb1.mono HB.out.size))
      clear q0 q1 q2 q3 q4 q5 q6 q7 hb1
      cases hv : okr ⟨rk, rn, rt, rF, rA, rB, rC, ra, ru, rc⟩
      · have HN := Lib.hid (HNO.out hv)
        clear HST HNO
        go_wp2_with fail
        go_ret2
        exact ⟨[], 1, _, .inr (.inl ⟨H30.out, fun x => HN.out x.2, rfl, rfl⟩), rfl, il_nil _, HB1.out⟩
      · have HS2 := Lib.hid (HST.out hv)
        clear HST HNO
        go_wp2_with fail
        go_roundw
        case rel => exact ⟨i + 1, by omega, by go_num, HS2, HB1⟩
        case measure => simp [intOf]; omega
    · have k0 : ¬ (i : Int) < (R.length : Int) := by omega
      have HOK := Lib.hid (show ∀ r ∈ R, okr r = true from okTo_all (by have : i = R.length := by omega
                                                                        rw [this] at HT; exact HT.out))
      clear HT hlt
      go_wp2_with fail
      go_loopw [7] (fun t wr => ∃ m : Nat, (m = 0 ∨ m + 1 ≤ R.length) ∧ t = .int .i64 ((m : Int) + 1) ∧ Hid (ascRTo R (m + 1)) ∧ Hid (Below w.heap.size w wr)) (fun t _ => R.length + 1 - (intOf t).toNat)
      case atStart => exact ⟨0, .inl rfl, rfl, Lib.hid (fun i hi => by omega), HB⟩
      case round =>
        obtain ⟨m, hm, rfl, HT, HB⟩ := hrel
        by_cases hlt : m + 1 < R.length
        · obtain ⟨g, off, rfl, hg, h0⟩ := HA.out m (by omega)
          obtain ⟨g', off', e', hg', h1⟩ := HA.out (m + 1) hlt
          obtain ⟨rfl, rfl⟩ : g = g' ∧ off = off' := by injection e' with e'; injection e' with e1 e2; exact ⟨e1, e2⟩
          clear e' hg'
          replace h0 := h0.under hg HB.out
          replace h1 := h1.under hg HB.out
          have HST := Lib.hid (show R[m].t < R[m + 1].t → ascRTo R (m + 1 + 1) from fun h i hi hl' => by
            rcases (by omega : i + 1 < m + 1 ∨ i = m) with hi' | rfl
            · exact HT.out i hi' hl'
            · exact h)
          have HNO := Lib.hid (show ¬ R[m].t < R[m + 1].t → ¬ ascR R from fun h h' => h (h' m hlt))
          obtain ⟨-, -, p1, -, -, -, -, -⟩ := h0
          obtain ⟨-, -, q1, -, -, -, -, -⟩ := h1
          generalize R[m].t = x at *
          generalize R[m + 1].t = y at *
          have k0 : (m : Int) + 1 < (R.length : Int) := by omega
          have k2 : (0 : Int) ≤ (m : Int) := by omega
          have k3 : (m : Int) < (R.length : Int) := by omega
          have k4 : (0 : Int) ≤ (m : Int) + 1 := by omega
          have kw : IntKind.i64.wrap (m : Int) = m := IntWalk.i64_in _ (by omega)
          go_upto_region 13 with fail
          refine wp_region_held_drew (S := fun w' : World => w'.cell? ⟨g, off + m * 8 + 2, none⟩ = some (.int .i64 x) ∧ w'.cell? ⟨g, off + (m + 1) * 8 + 2, none⟩ = some (.int .i64 y)) (by kernel_rfl) ⟨p1, q1⟩ (fun hHeld => ?_)
          have hx1 : ((m : Int) + 1 - 1) = (m : Int) := by omega
          refine tk 0 (oi := ⟨some 35, _, _, _, _, none⟩) rfl ?_
          try go_frame
          refine tk 1 (oi := ⟨some 36, _, _, _, _, none⟩) rfl ?_
          try go_frame
          refine tk 2 (oi := ⟨some 37, _, _, _, _, none⟩) rfl ?_
          try go_frame
          refine tk 3 (oi := ⟨some 38, _, _, _, _, none⟩) rfl ?_
          try go_frame
          refine tk 4 (oi := ⟨some 39, _, _, _, _, none⟩) rfl ?_
          try go_frame
          refine tk 5 (oi := ⟨some 40, _, _, _, _, none⟩) rfl ?_
          try go_frame
          refine tk 6 (oi := ⟨some 41, _, _, _, _, none⟩) rfl ?_
          try go_frame
          refine tk 7 (oi := ⟨some 42, _, _, _, _, none⟩) rfl ?_
          try go_frame
          refine tk 8 (oi := ⟨some 43, _, _, _, _, none⟩) rfl ?_
          try go_frame
          refine tk 9 (oi := ⟨some 44, _, _, _, _, none⟩) rfl ?_
          try go_frame
          refine tk 10 (oi := ⟨some 45, _, _, _, _, none⟩) rfl ?_
          try go_frame
          refine tk 11 (oi := ⟨some 46, _, _, _, _, none⟩) rfl ?_
          try go_frame
          refine wpAnyH_done (by kernel_rfl) ?_ _
          have HB2 := Lib.hid (HB.out.trans (show Below w.heap.size wr wr.drew from ⟨rfl, rfl, rfl, Nat.le_refl _, fun _ _ => rfl⟩))
          clear hHeld p1 q1
          by_cases hxy : x < y
          · have hc : ¬ y ≤ x := by omega
            have HS2 := Lib.hid (HST.out hxy)
            clear HST HNO
            go_wp2_with fail
            go_roundw
            case rel => exact ⟨m + 1, .inr (by omega), by go_num, HS2, HB2⟩
            case measure => simp [intOf]; omega
          · have hc : y ≤ x := by omega
            have HN := Lib.hid (HNO.out hxy)
            clear HST HNO
            go_wp2_with fail
            go_ret2
            exact ⟨[], 8, _, .inr (.inr (.inl ⟨H30.out, ⟨HH.out, fun r hr _ => HOK.out r hr⟩, HN.out, rfl, rfl⟩)), rfl, il_nil _, HB2.out⟩
        · have k0 : ¬ (m : Int) + 1 < (R.length : Int) := by omega
          have HY := Lib.hid (show ascR R from fun i hi => HT.out i (by omega) hi)
          have HR2 := Lib.hid (HR.out.under HB.out)
          go_wp2_with fail
          refine (refChain_any _ R h wr HR2.out hl HH.out HOK.out).mono ?_
          rintro e w3 ⟨l, v3, hB, rfl, hil, hb3⟩
          have HB3 := Lib.hid (HB.out.trans (hb3.mono HB.out.size)); clear hb3
          have HBE := Lib.hid hB
          have HIL := Lib.hid hil
          clear hil hB
          go_wp2_with fail
          go_ret2
          exact ⟨l, 0, v3, .inr (.inr (.inr ⟨H30.out, ⟨HH.out, fun r hr _ => HOK.out r hr⟩, HY.out, HBE.out, rfl⟩)), rfl, HIL.out, HB3.out⟩
end Go.Proofs.YtejoabaanclcbaaGreat.Tk


namespace Go.Proofs.YtejoabaanclcbaaGreat.Tk
open Go.RowKit

theorem il_len {W : World} {v : Value} {l : List Nat} (h : IlIn W v l) : l.length ≤ 9223372036854775807 := by
  rcases h.2 with ⟨-, h0⟩ | ⟨g, cap, cur, rfl, h1, h2, h3, h4, h5⟩
  · omega
  · unfold maxLen at h4; omega
theorem il_form {W : World} {v : Value} {l : List Nat} (h : IlIn W v l) : ∃ A c, v = .slice A l.length c := own_form h
theorem il_at {W : World} {v : Value} {l : List Nat} (h : IlIn W v l) {i : Nat} (hi : i < l.length) : ∃ g c, v = .slice (some ⟨g, 0, none⟩) l.length c ∧ l.length ≤ c ∧ c ≤ 9223372036854775807 ∧ W.cell? ⟨g, i, none⟩ = some (.int .i64 (l[i] : Int)) := by
  rcases h.2 with ⟨-, h0⟩ | ⟨g, cap, cur, rfl, h1, h2, h3, h4, h5, h6⟩
  · omega
  · refine ⟨g, cap, rfl, h3, by unfold maxLen at h4; omega, ?_⟩
    have h7 : W.cell? ⟨g, i, none⟩ = cur[i]? := by simp [World.cell?, h2]
    have h8 : (ic l)[i]? = some (.int .i64 (l[i] : Int)) := by simp [ic, List.getElem?_eq_getElem hi]
    rw [h7, ← h8, ← h6, ← Array.getElem?_toList, List.getElem?_take, if_pos (by omega)]
/-- The first numbers agree. -/
def eqTo (a b : List Nat) (i : Nat) : Prop := ∀ j, j < i → a[j]? = b[j]?
theorem eqTo_all {a b : List Nat} (hl : a.length = b.length) (h : eqTo a b a.length) : a = b := by
  refine List.ext_getElem? fun i => ?_
  by_cases hi : i < a.length
  · exact h i hi
  · rw [List.getElem?_eq_none (by omega), List.getElem?_eq_none (by omega)]
set_option maxHeartbeats 4000000 in
theorem ints_any (u v : Value) (a b : List Nat) (w : World) (ha : IlIn w u a) (hb : IlIn w v b) (hl : a.length ≤ 100000) :
    Calls Tryz.prog 18 #[u, v] w fun e w' => e = .returned (.bool (decide (a = b))) ∧ Below w.heap.size w w' := by
  obtain ⟨A, c1, rfl⟩ := il_form ha
  obtain ⟨B, c2, rfl⟩ := il_form hb
  have HA := Lib.hid ha; clear ha
  have HB := Lib.hid hb; clear hb
  obtain ⟨z, hz⟩ : ∃ z, decide (a = b) = z := ⟨_, rfl⟩
  have HZ := Lib.hid hz
  rw [hz]; clear hz
  by_cases hn : a.length = b.length
  · have HN := Lib.hid hn
    have k9 : ((a.length : Int) == (b.length : Int)) = true := by rw [beq_iff_eq]; omega
    rw [← hn] at HB k9 ⊢
    clear hn k9
    go_enter Tryz.func18, Tryz.ntmps18
    go_wp2_with fail
    go_loopw [5] (fun t wr => ∃ i : Nat, i ≤ a.length ∧ t = .int .i64 (i : Int) ∧ Hid (eqTo a b i) ∧ Hid (Below w.heap.size w wr)) (fun t _ => a.length - (intOf t).toNat)
    case atStart => exact ⟨0, by omega, rfl, Lib.hid (fun i hi => by omega), Lib.hid (Below.refl _ _)⟩
    case round =>
      obtain ⟨i, hi, rfl, HT, HW⟩ := hrel
      by_cases hlt : i < a.length
      · have k0 : (i : Int) < (a.length : Int) := by omega
        have k1 : (0 : Int) ≤ (i : Int) := by omega
        have hib : i < b.length := by have := HN.out; omega
        have HBn : b.length = a.length := HN.out.symm
        obtain ⟨g, c, e1, m1, m2, p1⟩ := il_at (HA.out.under HW.out) hlt
        obtain ⟨g', c', e2, m3, m4, q1⟩ := il_at (by have h9 := HB.out; exact h9.under HW.out) hib
        obtain ⟨rfl, rfl⟩ : A = some ⟨g, 0, none⟩ ∧ c1 = c := by injection e1 with x1 x2 x3; exact ⟨x1, x3⟩
        obtain ⟨rfl, rfl⟩ : B = some ⟨g', 0, none⟩ ∧ c2 = c' := by injection e2 with x1 x2 x3; exact ⟨x1, x3⟩
        rw [HBn] at m3
        clear e1 e2
        have HST := Lib.hid (show a[i] = b[i] → eqTo a b (i + 1) from fun h j hj => by
          rcases (by omega : j < i ∨ j = i) with hj' | rfl
          · exact HT.out j hj'
          · rw [List.getElem?_eq_getElem hlt, List.getElem?_eq_getElem hib, h])
        have HNO := Lib.hid (show a[i] ≠ b[i] → ¬ a = b from fun h h' => by subst h'; exact h rfl)
        clear HBn
        generalize a[i] = x at *
        generalize b[i] = y at *
        clear hib
        go_upto_region 6 with fail
        refine wp_region_held_drew (S := fun w' : World => w'.cell? ⟨g, i, none⟩ = some (.int .i64 (x : Int)) ∧ w'.cell? ⟨g', i, none⟩ = some (.int .i64 (y : Int))) (by kernel_rfl) ⟨p1, q1⟩ (fun hHeld => ?_)
        refine tk 0 (oi := ⟨some 17, _, _, _, _, none⟩) rfl ?_
        try go_frame
        refine tk 1 (oi := ⟨some 18, _, _, _, _, none⟩) rfl ?_
        try go_frame
        refine tk 2 (oi := ⟨some 19, _, _, _, _, none⟩) rfl ?_
        try go_frame
        refine tk 3 (oi := ⟨some 20, _, _, _, _, none⟩) rfl ?_
        try go_frame
        refine tk 4 (oi := ⟨some 21, _, _, _, _, none⟩) rfl ?_
        try go_frame
        refine tk 5 (oi := ⟨some 22, _, _, _, _, none⟩) rfl ?_
        try go_frame
        refine tk 6 (oi := ⟨some 23, _, _, _, _, none⟩) rfl ?_
        try go_frame
        refine tk 7 (oi := ⟨some 24, _, _, _, _, none⟩) rfl ?_
        try go_frame
        refine tk 8 (oi := ⟨some 25, _, _, _, _, none⟩) rfl ?_
        try go_frame
        refine wpAnyH_done (by kernel_rfl) ?_ _
        have HB2 := Lib.hid (HW.out.trans (show Below w.heap.size wr wr.drew from ⟨rfl, rfl, rfl, Nat.le_refl _, fun _ _ => rfl⟩))
        clear hHeld p1 q1
        by_cases hxy : x = y
        · have HS2 := Lib.hid (HST.out hxy)
          subst hxy
          clear HST HNO
          go_wp2_with fail
          go_roundw
          case rel => exact ⟨i + 1, by omega, by go_num, HS2, HB2⟩
          case measure => simp [intOf]; omega
        · have hc : ((x : Int) == (y : Int)) = false := by rw [beq_eq_false_iff_ne]; omega
          have HN2 := Lib.hid (HNO.out hxy)
          clear HST HNO
          go_wp2_with fail
          go_ret
          exact ⟨by rw [← HZ.out, decide_eq_false HN2.out]; rfl, HB2.out⟩
      · have k0 : ¬ (i : Int) < (a.length : Int) := by omega
        have HY := Lib.hid (show a = b from eqTo_all HN.out (fun j hj => HT.out j (by omega)))
        go_wp2_with fail
        go_ret
        exact ⟨by rw [← HZ.out, decide_eq_true HY.out]; rfl, HW.out⟩
  · have k9 : ((a.length : Int) == (b.length : Int)) = false := by rw [beq_eq_false_iff_ne]; omega
    have HN := Lib.hid (show ¬ a = b from fun h => hn (by rw [h])); clear hn
    go_enter Tryz.func18, Tryz.ntmps18
    go_wp2_with fail
    go_ret
    exact ⟨by rw [← HZ.out, decide_eq_false HN.out]; rfl, Below.refl _ _⟩
end Go.Proofs.YtejoabaanclcbaaGreat.Tk

