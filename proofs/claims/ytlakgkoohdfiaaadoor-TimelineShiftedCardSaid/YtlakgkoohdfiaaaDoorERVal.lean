/- The contract of the reference's Validate. -/
import Derived.Test.YtlakgkoohdfiaaaDoorQaj
import Derived.Test.YtlakgkoohdfiaaaDoorQai
namespace Go.Proofs.YtlakgkoohdfiaaaDoor.El
open Go.RowKit

set_option maxHeartbeats 1000000 in
theorem refIn_any (c v : Int) (w : World) (h : Elt.Ex c) :
    Calls Tryd.prog 88 #[rdV c v] w fun e w' => e = .returned (.bool (decide (Elt.lo c ≤ v ∧ v ≤ Elt.hi c))) ∧ Below w.heap.size w w' := by
  have b0 : Below w.heap.size w (w.alloc (.cells #[.int .i64 c, .int .i64 v] 81)) := (Below.refl _ _).alloc (Nat.le_refl _) _
  have r0 := Row.new w #[.int .i64 c, .int .i64 v] 81
  go_enter Tryd.func88, Tryd.ntmps88
  go_wp2_with fail
  generalize w.alloc (.cells #[.int .i64 c, .int .i64 v] 81) = W0 at *
  refine (refDescribe_yes c _ h).mono ?_
  rintro e w1 ⟨rfl, g1⟩
  go_upto_region 2 with fail
  refine forget (fun Y => Below w.heap.size w Y ∧ Row Y w.heap.size 81 #[.int .i64 c, .int .i64 v] ∧ Row Y w1.heap.size 102 #[.string (S [Elt.lt c]), .int .i64 (Elt.lo c), .int .i64 (Elt.hi c), .int .i64 (Elt.dg c)]) ⟨(b0.trans (g1.mono b0.size)).alloc (Nat.le_trans b0.size g1.size) _, (r0.under g1).alloc _, Row.new _ _ _⟩ ?_
  clear g1 b0 r0
  rintro Y ⟨bY, r2, r4⟩
  obtain ⟨p0, p1⟩ := row2 r2
  obtain ⟨q0, q1, q2, q3⟩ := row4 r4
  have BY := Lib.hid bY; clear bY r2 r4
  by_cases h1 : Elt.lo c ≤ v
  · by_cases h2 : v ≤ Elt.hi c
    · have HD := Lib.hid (show decide (Elt.lo c ≤ v ∧ v ≤ Elt.hi c) = true from decide_eq_true ⟨h1, h2⟩)
      go_wp2_with fail
      go_ret
      exact ⟨ret_bool HD.out.symm, BY.out⟩
    · have HD := Lib.hid (show decide (Elt.lo c ≤ v ∧ v ≤ Elt.hi c) = false from decide_eq_false (fun h => h2 h.2))
      go_wp2_with fail
      go_ret
      exact ⟨ret_bool (decide_eq_false (by omega)).symm, BY.out⟩
  · have HD := Lib.hid (show decide (Elt.lo c ≤ v ∧ v ≤ Elt.hi c) = false from decide_eq_false (fun h => h1 h.1))
    go_wp2_with fail
    go_ret
    exact ⟨ret_bool (by rw [decide_eq_false (show ¬ Elt.lo c ≤ v by omega)]; rfl), BY.out⟩

set_option maxRecDepth 100000 in
set_option maxHeartbeats 4000000 in
theorem refValidate_any (v : Value) (L : List Elt.R) (w : World) (hL : RdIn w v L) :
    Calls Tryd.prog 48 #[v] w fun e w' => e = .returned (.int .i64 (Elt.vld L)) ∧ Below w.heap.size w w' := by
  obtain ⟨z, hz⟩ : ∃ z, Elt.vld L = z := ⟨_, rfl⟩
  rw [hz]
  have HZ := Lib.hid hz; clear hz
  have HL := Lib.hid hL
  obtain ⟨A, cap, rfl, h1, h2, -⟩ := hL
  have HI := Lib.hid (fun c v W (h : Elt.Ex c) => refIn_any c v W h)
  go_enter Tryd.func48, Tryd.ntmps48
  go_wp2_with fail
  go_loopw [3] (fun t wr => ∃ k : Nat, k ≤ L.length ∧ t = .int .i64 k ∧ Below w.heap.size w wr ∧ Hid (∀ j (h : j < L.length), j < k → Elt.Ex (L[j]).1)) (fun t _ => L.length - (intOf t).toNat)
  case atStart => exact ⟨0, Nat.zero_le _, rfl, Below.refl _ _, Lib.hid (fun j h h' => by omega)⟩
  case round =>
    obtain ⟨k, hk, rfl, hb, hn⟩ := hrel
    by_cases hlt : k < L.length
    · obtain ⟨A', cap', e, -, -, hR⟩ := HL.out.under hb
      injection e with e1 e2 e3
      subst e1
      obtain ⟨g, off, rfl, -, c0, c1⟩ := hR k hlt
      have k0 : (0 : Int) ≤ (k : Int) := by omega
      have k1 : (k : Int) < (L.length : Int) := by omega
      have HB := Lib.hid hb
      clear hb hR e3
      by_cases hx : Elt.Ex (L[k]).1
      · have HN : Hid (∀ j (h : j < L.length), j < k + 1 → Elt.Ex (L[j]).1) := Lib.hid (fun j h h' => by
          rcases Nat.lt_or_ge j k with q | q
          · exact hn.out j h q
          · obtain rfl : j = k := by omega
            exact hx)
        clear hn
        generalize L[k] = y at *
        obtain ⟨a, b⟩ := y
        have HD := Lib.hid (refDescribe_yes a wr hx)
        simp only [infoV] at HD
        clear hx
        simp only at c0 c1
        go_wp2_with fail
        refine HD.out.mono ?_
        rintro e w2 ⟨rfl, g2⟩
        have B2 := Lib.hid (HB.out.trans (g2.mono HB.out.size)); clear g2 HD
        go_wp2_with fail
        go_roundw
        case rel => exact ⟨k + 1, by omega, by go_num, B2.out.alloc B2.out.size _, HN⟩
        case measure => simp [intOf]; omega
      · have HV : Hid (z = 4) := Lib.hid (by
          rw [← HZ.out]
          refine Elt.vld_kind ⟨L[k], List.getElem_mem _, ?_⟩
          unfold Elt.chk
          rw [if_neg hx])
        clear hn
        generalize L[k] = y at *
        obtain ⟨a, b⟩ := y
        have HD := Lib.hid (refDescribe_no a wr hx)
        clear hx
        simp only at c0 c1
        go_wp2_with fail
        refine HD.out.mono ?_
        rintro e w2 ⟨rfl, g2⟩
        have B2 := Lib.hid (HB.out.trans (g2.mono HB.out.size)); clear g2 HD
        go_wp2_with fail
        go_ret
        exact ⟨ret_i64 HV.out.symm, B2.out.alloc B2.out.size _⟩
    · have k1 : ¬ (k : Int) < (L.length : Int) := by omega
      have H4 : Hid (∀ j (h : j < L.length), Elt.Ex (L[j]).1) := Lib.hid (fun j h => hn.out j h (by omega))
      have HB := Lib.hid hb
      clear hb hn hk
      go_wp2_with fail
      go_loopw [6] (fun t wr => ∃ k : Nat, k ≤ L.length ∧ t = .int .i64 k ∧ Below w.heap.size w wr ∧ Hid (∀ j (h : j < L.length), j < k → Elt.Val (L[j]).1 (L[j]).2)) (fun t _ => L.length - (intOf t).toNat)
      case atStart => exact ⟨0, Nat.zero_le _, rfl, HB.out, Lib.hid (fun j h h' => by omega)⟩
      case round =>
        clear HB k1
        obtain ⟨k, hk, rfl, hb, hn⟩ := hrel
        by_cases hlt : k < L.length
        · obtain ⟨A', cap', e, -, -, hR⟩ := HL.out.under hb
          injection e with e1 e2 e3
          subst e1
          obtain ⟨g, off, rfl, -, c0, c1⟩ := hR k hlt
          have k0 : (0 : Int) ≤ (k : Int) := by omega
          have k1 : (k : Int) < (L.length : Int) := by omega
          have HB := Lib.hid hb
          have hx := H4.out k hlt
          have HS := Lib.hid (HI.out (L[k]).1 (L[k]).2 wr hx)
          clear hb hR e3
          by_cases hv : Elt.lo (L[k]).1 ≤ (L[k]).2 ∧ (L[k]).2 ≤ Elt.hi (L[k]).1
          · have HN : Hid (∀ j (h : j < L.length), j < k + 1 → Elt.Val (L[j]).1 (L[j]).2) := Lib.hid (fun j h h' => by
              rcases Nat.lt_or_ge j k with q | q
              · exact hn.out j h q
              · obtain rfl : j = k := by omega
                exact ⟨hx, hv⟩)
            rw [decide_eq_true hv] at HS
            clear hn hv hx
            generalize L[k] = y at *
            obtain ⟨a, b⟩ := y
            simp only at c0 c1
            go_wp2_with fail
            refine HS.out.mono ?_
            rintro e w2 ⟨rfl, g2⟩
            have B2 := Lib.hid (HB.out.trans (g2.mono HB.out.size)); clear g2 HS
            go_wp2_with fail
            go_roundw
            case rel => exact ⟨k + 1, by omega, by go_num, B2.out, HN⟩
            case measure => simp [intOf]; omega
          · have HV : Hid (z = 1) := Lib.hid (by
              rw [← HZ.out]
              refine Elt.vld_range (fun ⟨r, hr, he⟩ => ?_) ⟨L[k], List.getElem_mem _, ?_⟩
              · obtain ⟨j, hj, rfl⟩ := List.getElem_of_mem hr
                have := H4.out j hj
                unfold Elt.chk at he
                rw [if_pos this] at he
                split at he <;> omega
              · unfold Elt.chk
                rw [if_pos hx, if_neg hv])
            rw [decide_eq_false hv] at HS
            clear hn hv hx
            generalize L[k] = y at *
            obtain ⟨a, b⟩ := y
            simp only at c0 c1
            go_wp2_with fail
            refine HS.out.mono ?_
            rintro e w2 ⟨rfl, g2⟩
            have B2 := Lib.hid (HB.out.trans (g2.mono HB.out.size)); clear g2 HS
            go_wp2_with fail
            go_ret
            exact ⟨ret_i64 HV.out.symm, B2.out⟩
        · have k1 : ¬ (k : Int) < (L.length : Int) := by omega
          have HV := Lib.hid (Elt.vld_good (L := L) (fun r hr => by
            obtain ⟨j, hj, rfl⟩ := List.getElem_of_mem hr
            exact hn.out j hj (by omega)))
          have HB := Lib.hid hb
          clear hb hn hk H4 HI
          go_wp2_with fail
          go_loopw [7] (fun t w' => ∃ m : Nat, t = .int .i64 ((m : Int) + 1) ∧ m ≤ L.length ∧ Below w.heap.size w w' ∧ Hid (∀ j, ∀ h : j + 1 < L.length, j < m → (L[j]).1 < (L[j + 1]).1)) (fun t _ => L.length + 2 - (intOf t).toNat)
          case atStart => exact ⟨0, rfl, Nat.zero_le _, HB.out, Lib.hid (fun j h h' => by omega)⟩
          case round =>
            clear HB k1
            obtain ⟨m, rfl, hml, hb, ha⟩ := hrel
            by_cases hlt : m + 1 < L.length
            · have hR := HL.out.under hb
              obtain ⟨A', cap', e, -, -, hR⟩ := hR
              injection e with e1 e2 e3
              subst e1
              obtain ⟨g, off, rfl, -, c0, c1⟩ := hR m (by omega)
              obtain ⟨g', off', e, -, d0, d1⟩ := hR (m + 1) hlt
              injection e with e
              injection e with e1 e2
              subst e1; subst e2
              have HB := Lib.hid hb; clear hb hR e3
              have k0 : (0 : Int) ≤ (m : Int) := by omega
              have k1 : (m : Int) < (L.length : Int) := by omega
              have k2 : (m : Int) + 1 < (L.length : Int) := by omega
              have k3 : (0 : Int) ≤ (m : Int) + 1 := by omega
              have x1 : IntKind.i64.wrap (m : Int) = (m : Int) := IntWalk.i64_in _ (by omega)
              by_cases hc : (L[m]).1 < (L[m + 1]).1
              · have HA : Hid (∀ j, ∀ h : j + 1 < L.length, j < m + 1 → (L[j]).1 < (L[j + 1]).1) := Lib.hid (fun j h h' => by
                  rcases Nat.lt_or_ge j m with q | q
                  · exact ha.out j h q
                  · obtain rfl : j = m := by omega
                    exact hc)
                clear ha
                generalize L[m] = x at *
                generalize L[m + 1] = y at *
                have hc' : ¬ y.1 ≤ x.1 := by omega
                clear hc
                go_wp2_with fail
                go_quiet (fail)
                go_wp2_with fail
                go_roundw
                case rel => exact ⟨m + 1, by go_num, by omega, by first | exact HB.out | exact below_drewN HB.out _, HA⟩
                case measure => simp [intOf]; omega
              · have HV8 : Hid (z = 8) := Lib.hid (by rw [← HZ.out]; exact HV.out.2 (fun h => hc (h m hlt)))
                clear ha
                generalize L[m] = x at *
                generalize L[m + 1] = y at *
                have hc' : y.1 ≤ x.1 := by omega
                clear hc
                go_wp2_with fail
                go_quiet (fail)
                go_wp2_with fail
                go_ret
                exact ⟨ret_i64 HV8.out.symm, by first | exact HB.out | exact below_drewN HB.out _⟩
            · have HV0 : Hid (z = 0) := Lib.hid (by rw [← HZ.out]; exact HV.out.1 (fun j h => ha.out j h (by omega)))
              have k2 : ¬ (m : Int) + 1 < (L.length : Int) := by omega
              have HB := Lib.hid hb; clear hb ha
              go_wp2_with fail
              go_ret
              exact ⟨ret_i64 HV0.out.symm, HB.out⟩
end Go.Proofs.YtlakgkoohdfiaaaDoor.El

