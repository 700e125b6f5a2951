/- Texts of this proof. -/
import Derived.Test.YtlakgkoohdfiaaaDoorQai
import Derived.Test.YtlakgkoohdfiaaaDoorQah
import Derived.Test.YtlakgkoohdfiaaaDoorQak
import Derived.Test.YtlakgkoohdfiaaaDoorQaf
import Derived.Test.YtlakgkoohdfiaaaDoorQan
namespace Go.Proofs.YtlakgkoohdfiaaaDoor.El
open Go.RowKit

set_option maxHeartbeats 1000000 in
theorem refIn_any (c v : Int) (w : World) (h : Elt.Ex c) :
    Calls Tryd.prog 88 #[rdV c v] w fun e w' => e = .returned (.bool (decide (Elt.lo c ≤ v ∧ v ≤ Elt.hi c))) ∧ Below w.heap.size w w' := by
  have b0 : Below w.heap.size w (w.alloc (.cells #[.int .i64 c, .int .i64 v] 81)) := (Below.refl _ _).alloc (Nat.le_refl _) _
  have r0 := Row.new w #[.int .i64 c, .int .i64 v] 81
  go_enter Tryd.func88, Tryd.ntmps88
  go_wp2_with fail
  generalize w.alloc (.cells #[.int .i64 c, .int .i64 v] 81) = W0 at *
  refine (refDescribe_yes c _ h).mono ?_
  rintro e w1 ⟨rfl, g1⟩
  go_upto_region 2 with fail
  refine forget (fun Y => Below w.heap.size w Y ∧ Row Y w.heap.size 81 #[.int .i64 c, .int .i64 v] ∧ Row Y w1.heap.size 102 #[.string (S [Elt.lt c]), .int .i64 (Elt.lo c), .int .i64 (Elt.hi c), .int .i64 (Elt.dg c)]) ⟨(b0.trans (g1.mono b0.size)).alloc (Nat.le_trans b0.size g1.size) _, (r0.under g1).alloc _, Row.new _ _ _⟩ ?_
  clear g1 b0 r0
  rintro Y ⟨bY, r2, r4⟩
  obtain ⟨p0, p1⟩ := row2 r2
  obtain ⟨q0, q1, q2, q3⟩ := row4 r4
  have BY := Lib.hid bY; clear bY r2 r4
  by_cases h1 : Elt.lo c ≤ v
  · by_cases h2 : v ≤ Elt.hi c
    · have HD := Lib.hid (show decide (Elt.lo c ≤ v ∧ v ≤ Elt.hi c) = true from decide_eq_true ⟨h1, h2⟩)
      go_wp2_with fail
      go_ret
      exact ⟨ret_bool HD.out.symm, BY.out⟩
    · have HD := Lib.hid (show decide (Elt.lo c ≤ v ∧ v ≤ Elt.hi c) = false from decide_eq_false (fun h => h2 h.2))
      go_wp2_with fail
      go_ret
      exact ⟨ret_bool (decide_eq_false (by omega)).symm, BY.out⟩
  · have HD := Lib.hid (show decide (Elt.lo c ≤ v ∧ v ≤ Elt.hi c) = false from decide_eq_false (fun h => h1 h.1))
    go_wp2_with fail
    go_ret
    exact ⟨ret_bool (by rw [decide_eq_false (show ¬ Elt.lo c ≤ v by omega)]; rfl), BY.out⟩

set_option maxRecDepth 100000 in
set_option maxHeartbeats 4000000 in
theorem refValidate_any (v : Value) (L : List Elt.R) (w : World) (hL : RdIn w v L) :
    Calls Tryd.prog 48 #[v] w fun e w' => e = .returned (.int .i64 (Elt.vld L)) ∧ Below w.heap.size w w' := by
  obtain ⟨z, hz⟩ : ∃ z, Elt.vld L = z := ⟨_, rfl⟩
  rw [hz]
  have HZ := Lib.hid hz; clear hz
  have HL := Lib.hid hL
  obtain ⟨A, cap, rfl, h1, h2, -⟩ := hL
  have HI := Lib.hid (fun c v W (h : Elt.Ex c) => refIn_any c v W h)
  go_enter Tryd.func48, Tryd.ntmps48
  go_wp2_with fail
  go_loopw [3] (fun t wr => ∃ k : Nat, k ≤ L.length ∧ t = .int .i64 k ∧ Below w.heap.size w wr ∧ Hid (∀ j (h : j < L.length), j < k → Elt.Ex (L[j]).1)) (fun t _ => L.length - (intOf t).toNat)
  case atStart => exact ⟨0, Nat.zero_le _, rfl, Below.refl _ _, Lib.hid (fun j h h' => by omega)⟩
  case round =>
    obtain ⟨k, hk, rfl, hb, hn⟩ := hrel
    by_cases hlt : k < L.length
    · obtain ⟨A', cap', e, -, -, hR⟩ := HL.out.under hb
      injection e with e1 e2 e3
      subst e1
      obtain ⟨g, off, rfl, -, c0, c1⟩ := hR k hlt
      have k0 : (0 : Int) ≤ (k : Int) := by omega
      have k1 : (k : Int) < (L.length : Int) := by omega
      have HB := Lib.hid hb
      clear hb hR e3
      by_cases hx : Elt.Ex (L[k]).1
      · have HN : Hid (∀ j (h : j < L.length), j < k + 1 → Elt.Ex (L[j]).1) := Lib.hid (fun j h h' => by
          rcases Nat.lt_or_ge j k with q | q
          · exact hn.out j h q
          · obtain rfl : j = k := by omega
            exact hx)
        clear hn
        generalize L[k] = y at *
        obtain ⟨a, b⟩ := y
        have HD := Lib.hid (refDescribe_yes a wr hx)
        simp only [infoV] at HD
        clear hx
        simp only at c0 c1
        go_wp2_with fail
        refine HD.out.mono ?_
        rintro e w2 ⟨rfl, g2⟩
        have B2 := Lib.hid (HB.out.trans (g2.mono HB.out.size)); clear g2 HD
        go_wp2_with fail
        go_roundw
        case rel => exact ⟨k + 1, by omega, by go_num, B2.out.alloc B2.out.size _, HN⟩
        case measure => simp [intOf]; omega
      · have HV : Hid (z = 4) := Lib.hid (by
          rw [← HZ.out]
          refine Elt.vld_kind ⟨L[k], List.getElem_mem _, ?_⟩
          unfold Elt.chk
          rw [if_neg hx])
        clear hn
        generalize L[k] = y at *
        obtain ⟨a, b⟩ := y
        have HD := Lib.hid (refDescribe_no a wr hx)
        clear hx
        simp only at c0 c1
        go_wp2_with fail
        refine HD.out.mono ?_
        rintro e w2 ⟨rfl, g2⟩
        have B2 := Lib.hid (HB.out.trans (g2.mono HB.out.size)); clear g2 HD
        go_wp2_with fail
        go_ret
        exact ⟨ret_i64 HV.out.symm, B2.out.alloc B2.out.size _⟩
    · have k1 : ¬ (k : Int) < (L.length : Int) := by omega
      have H4 : Hid (∀ j (h : j < L.length), Elt.Ex (L[j]).1) := Lib.hid (fun j h => hn.out j h (by omega))
      have HB := Lib.hid hb
      clear hb hn hk
      go_wp2_with fail
      go_loopw [6] (fun t wr => ∃ k : Nat, k ≤ L.length ∧ t = .int .i64 k ∧ Below w.heap.size w wr ∧ Hid (∀ j (h : j < L.length), j < k → Elt.Val (L[j]).1 (L[j]).2)) (fun t _ => L.length - (intOf t).toNat)
      case atStart => exact ⟨0, Nat.zero_le _, rfl, HB.out, Lib.hid (fun j h h' => by omega)⟩
      case round =>
        clear HB k1
        obtain ⟨k, hk, rfl, hb, hn⟩ := hrel
        by_cases hlt : k < L.length
        · obtain ⟨A', cap', e, -, -, hR⟩ := HL.out.under hb
          injection e with e1 e2 e3
          subst e1
          obtain ⟨g, off, rfl, -, c0, c1⟩ := hR k hlt
          have k0 : (0 : Int) ≤ (k : Int) := by omega
          have k1 : (k : Int) < (L.length : Int) := by omega
          have HB := Lib.hid hb
          have hx := H4.out k hlt
          have HS := Lib.hid (HI.out (L[k]).1 (L[k]).2 wr hx)
          clear hb hR e3
          by_cases hv : Elt.lo (L[k]).1 ≤ (L[k]).2 ∧ (L[k]).2 ≤ Elt.hi (L[k]).1
          · have HN : Hid (∀ j (h : j < L.length), j < k + 1 → Elt.Val (L[j]).1 (L[j]).2) := Lib.hid (fun j h h' => by
              rcases Nat.lt_or_ge j k with q | q
              · exact hn.out j h q
              · obtain rfl : j = k := by omega
                exact ⟨hx, hv⟩)
            rw [decide_eq_true hv] at HS
            clear hn hv hx
            generalize L[k] = y at *
            obtain ⟨a, b⟩ := y
            simp only at c0 c1
            go_wp2_with fail
            refine HS.out.mono ?_
            rintro e w2 ⟨rfl, g2⟩
            have B2 := Lib.hid (HB.out.trans (g2.mono HB.out.size)); clear g2 HS
            go_wp2_with fail
            go_roundw
            case rel => exact ⟨k + 1, by omega, by go_num, B2.out, HN⟩
            case measure => simp [intOf]; omega
          · have HV : Hid (z = 1) := Lib.hid (by
              rw [← HZ.out]
              refine Elt.vld_range (fun ⟨r, hr, he⟩ => ?_) ⟨L[k], List.getElem_mem _, ?_⟩
              · obtain ⟨j, hj, rfl⟩ := List.getElem_of_mem hr
                have := H4.out j hj
                unfold Elt.chk at he
                rw [if_pos this] at he
                split at he <;> omega
              · unfold Elt.chk
                rw [if_pos hx, if_neg hv])
            rw [decide_eq_false hv] at HS
            clear hn hv hx
            generalize L[k] = y at *
            obtain ⟨a, b⟩ := y
            simp only at c0 c1
            go_wp2_with fail
            refine HS.out.mono ?_
            rintro e w2 ⟨rfl, g2⟩
            have B2 := Lib.hid (HB.out.trans (g2.mono HB.out.size)); clear g2 HS
            go_wp2_with fail
            go_ret
            exact ⟨ret_i64 HV.out.symm, B2.out⟩
        · have k1 : ¬ (k : Int) < (L.length : Int) := by omega
          have HV := Lib.hid (Elt.vld_good (L := L) (fun r hr => by
            obtain ⟨j, hj, rfl⟩ := List.getElem_of_mem hr
            exact hn.out j hj (by omega)))
          have HB := Lib.hid hb
          clear hb hn hk H4 HI
          go_wp2_with fail
          go_loopw [7] (fun t w' => ∃ m : Nat, t = .int .i64 ((m : Int) + 1) ∧ m ≤ L.length ∧ Below w.heap.size w w' ∧ Hid (∀ j, ∀ h : j + 1 < L.length, j < m → (L[j]).1 < (L[j + 1]).1)) (fun t _ => L.length + 2 - (intOf t).toNat)
          case atStart => exact ⟨0, rfl, Nat.zero_le _, HB.out, Lib.hid (fun j h h' => by omega)⟩
          case round =>
            clear HB k1
            obtain ⟨m, rfl, hml, hb, ha⟩ := hrel
            by_cases hlt : m + 1 < L.length
            · have hR := HL.out.under hb
              obtain ⟨A', cap', e, -, -, hR⟩ := hR
              injection e with e1 e2 e3
              subst e1
              obtain ⟨g, off, rfl, -, c0, c1⟩ := hR m (by omega)
              obtain ⟨g', off', e, -, d0, d1⟩ := hR (m + 1) hlt
              injection e with e
              injection e with e1 e2
              subst e1; subst e2
              have HB := Lib.hid hb; clear hb hR e3
              have k0 : (0 : Int) ≤ (m : Int) := by omega
              have k1 : (m : Int) < (L.length : Int) := by omega
              have k2 : (m : Int) + 1 < (L.length : Int) := by omega
              have k3 : (0 : Int) ≤ (m : Int) + 1 := by omega
              have x1 : IntKind.i64.wrap (m : Int) = (m : Int) := IntWalk.i64_in _ (by omega)
              by_cases hc : (L[m]).1 < (L[m + 1]).1
              · have HA : Hid (∀ j, ∀ h : j + 1 < L.length, j < m + 1 → (L[j]).1 < (L[j + 1]).1) := Lib.hid (fun j h h' => by
                  rcases Nat.lt_or_ge j m with q | q
                  · exact ha.out j h q
                  · obtain rfl : j = m := by omega
                    exact hc)
                clear ha
                generalize L[m] = x at *
                generalize L[m + 1] = y at *
                have hc' : ¬ y.1 ≤ x.1 := by omega
                clear hc
                go_wp2_with fail
                go_quiet (fail)
                go_wp2_with fail
                go_roundw
                case rel => exact ⟨m + 1, by go_num, by omega, by first | exact HB.out | exact below_drewN HB.out _, HA⟩
                case measure => simp [intOf]; omega
              · have HV8 : Hid (z = 8) := Lib.hid (by rw [← HZ.out]; exact HV.out.2 (fun h => hc (h m hlt)))
                clear ha
                generalize L[m] = x at *
                generalize L[m + 1] = y at *
                have hc' : y.1 ≤ x.1 := by omega
                clear hc
                go_wp2_with fail
                go_quiet (fail)
                go_wp2_with fail
                go_ret
                exact ⟨ret_i64 HV8.out.symm, by first | exact HB.out | exact below_drewN HB.out _⟩
            · have HV0 : Hid (z = 0) := Lib.hid (by rw [← HZ.out]; exact HV.out.1 (fun j h => ha.out j h (by omega)))
              have k2 : ¬ (m : Int) + 1 < (L.length : Int) := by omega
              have HB := Lib.hid hb; clear hb ha
              go_wp2_with fail
              go_ret
              exact ⟨ret_i64 HV0.out.symm, HB.out⟩
end Go.Proofs.YtlakgkoohdfiaaaDoor.El


namespace Go.Proofs.YtlakgkoohdfiaaaDoor.El
open Go.RowKit
theorem fnd_here {L : List Elt.R} {c : Int} {k : Nat} (h : k < L.length) (hn : ∀ j (h : j < L.length), j < k → (L[j]).1 ≠ c) (he : (L[k]).1 = c) : Elt.fnd L c = some (L[k]).2 := by
  have q : L.find? (fun r => r.1 == c) = some L[k] := List.find?_eq_some_iff_getElem.2 ⟨beq_iff_eq.2 he, k, h, rfl, fun j hj => by
    have := hn j (by omega) hj
    simpa using this⟩
  unfold Elt.fnd
  rw [q]
  rfl
theorem fnd_none {L : List Elt.R} {c : Int} (hn : ∀ j (h : j < L.length), (L[j]).1 ≠ c) : Elt.fnd L c = none := by
  have q : L.find? (fun r => r.1 == c) = none := List.find?_eq_none.2 (fun r hr => by
    obtain ⟨j, hj, rfl⟩ := List.getElem_of_mem hr
    simpa using hn j hj)
  unfold Elt.fnd
  rw [q]
  rfl
set_option maxHeartbeats 1000000 in
theorem refFind_any (v : Value) (L : List Elt.R) (c : Int) (w : World) (hL : RdIn w v L) :
    Calls Tryd.prog 47 #[v, .int .i64 c] w (FndR w L c) := by
  obtain ⟨A, cap, rfl, h1, h2, h3⟩ := hL
  have H := Lib.hid h3; clear h3
  go_enter Tryd.func47, Tryd.ntmps47
  go_wp2_with fail
  go_loop [6] (fun t => ∃ k : Nat, k ≤ L.length ∧ t = .int .i64 k ∧ Hid (∀ j (h : j < L.length), j < k → (L[j]).1 ≠ c)) (fun t => L.length - (intOf t).toNat)
  case atStart => exact ⟨0, Nat.zero_le _, rfl, Lib.hid (fun j h h' => by omega)⟩
  case round =>
    obtain ⟨k, hk, rfl, hn⟩ := hrel
    by_cases hlt : k < L.length
    · obtain ⟨g, off, rfl, -, c0, c1⟩ := H.out k hlt
      have k0 : (0 : Int) ≤ (k : Int) := by omega
      have k1 : (k : Int) < (L.length : Int) := by omega
      by_cases he : (L[k]).1 = c
      · have HF := Lib.hid (fnd_here hlt hn.out he)
        have e1 : ((L[k]).1 == c) = true := beq_iff_eq.2 he
        clear he hn
        generalize L[k] = y at *
        go_wp2_with fail
        go_ret2
        exact ⟨by rw [HF.out]; rfl, Below.refl _ _⟩
      · have e1 : ((L[k]).1 == c) = false := beq_eq_false_iff_ne.2 he
        have HN : Hid (∀ j (h : j < L.length), j < k + 1 → (L[j]).1 ≠ c) := Lib.hid (fun j h h' => by
          rcases Nat.lt_or_ge j k with q | q
          · exact hn.out j h q
          · obtain rfl : j = k := by omega
            exact he)
        clear he hn
        generalize L[k] = y at *
        go_wp2_with fail
        go_round
        case rel => exact ⟨k + 1, by omega, by go_num, HN⟩
        case measure => simp [intOf]; omega
    · have k1 : ¬ (k : Int) < (L.length : Int) := by omega
      have HF := Lib.hid (fnd_none (fun j h => hn.out j h (by omega)))
      go_wp2_with fail
      go_ret2
      exact ⟨by rw [HF.out]; rfl, Below.refl _ _⟩
end Go.Proofs.YtlakgkoohdfiaaaDoor.El


namespace Go.Proofs.YtlakgkoohdfiaaaDoor
open Go.RowKit

set_option maxHeartbeats 1000000 in
theorem refIsNormal_any (F A B C : Int) (w : World) :
    Calls Tryd.prog 69 #[.agg #[.int .i64 F, .int .i64 A, .int .i64 B, .int .i64 C]] w fun e w' => e = .returned (.bool (nrm F A B C)) ∧ Below w.heap.size w w' := by
  go_enter Tryd.func69, Tryd.ntmps69
  go_wp2_with fail
  have b1 := (Below.refl w.heap.size w).alloc (Nat.le_refl _) (.cells #[.int .i64 F, .int .i64 A, .int .i64 B, .int .i64 C] 27)
  have r1 := Row.new w #[.int .i64 F, .int .i64 A, .int .i64 B, .int .i64 C] 27
  generalize hW1 : w.alloc (.cells #[.int .i64 F, .int .i64 A, .int .i64 B, .int .i64 C] 27) = W1 at *
  cases hv : Pl.vb F A B C
  · refine (Pl.refNormal_no F A B C _ hv).mono ?_
    rintro e w2 ⟨rfl, g2⟩
    have N := Lib.hid (show nrm F A B C = false by unfold nrm; rw [hv]; rfl)
    have b2 := b1.trans (g2.mono b1.size)
    have r2 := r1.under g2
    clear g2 b1 r1 hW1
    go_wp2_with fail
    go_ret
    exact ⟨ret_bool (by rw [N.out]), b2.alloc b2.size _⟩
  · obtain ⟨f, rfl, hf⟩ := Pl.vb_to hv
    refine (Pl.refNormal_yes f A B C _ hf).mono ?_
    rintro e w2 ⟨rfl, g2⟩
    have N := Lib.hid (show nrm f A B C = (((Pl.Ico.nf f A B C : Nat) : Int) == (f : Int) && Pl.nw f A B C 0 == A && Pl.nw f A B C 1 == B && Pl.nw f A B C 2 == C) by unfold nrm; rw [hv, Bool.true_and]; rfl)
    have b2 := b1.trans (g2.mono b1.size)
    have r2 := r1.under g2
    clear g2 b1 r1 hW1 hv hf
    have bc : ∀ x y : Int, (x == y) = (y == x) := fun x y => by rw [Bool.eq_iff_iff, beq_iff_eq, beq_iff_eq]; exact ⟨Eq.symm, Eq.symm⟩
    rw [bc _ (f : Int), bc _ A, bc _ B, bc _ C] at N
    generalize ((Pl.Ico.nf f A B C : Nat) : Int) = n0 at *
    generalize Pl.nw f A B C 0 = n1 at *
    generalize Pl.nw f A B C 1 = n2 at *
    generalize Pl.nw f A B C 2 = n3 at *
    obtain ⟨c0, c1, c2, c3⟩ := row4 r2
    have r3 := Row.new w2 #[.int .i64 n0, .int .i64 n1, .int .i64 n2, .int .i64 n3] 27
    have hlt := r2.lt
    go_wp2_with fail
    all_goals (go_ret; exact ⟨ret_bool (by rw [N.out]; simp [*]), b2.alloc b2.size _⟩)
/-- The values of an element on a face in a month. -/
noncomputable def valsC (R : List Rp) (c f mo : Int) : List Int := R.filterMap fun r => if (El.Elt.fnd r.L c).isSome && (r.F == f) && (mth r.t == mo) then some ((El.Elt.fnd r.L c).getD 0) else none
theorem valsC_snoc (R : List Rp) (c f mo : Int) (k : Nat) (h : k < R.length) : valsC (R.take (k + 1)) c f mo = valsC (R.take k) c f mo ++ (if (El.Elt.fnd (R[k]).L c).isSome && ((R[k]).F == f) && (mth (R[k]).t == mo) then [(El.Elt.fnd (R[k]).L c).getD 0] else []) := by
  unfold valsC
  rw [List.take_add_one, List.getElem?_eq_getElem h, Option.toList_some, List.filterMap_append]
  congr 1
  rw [List.filterMap_cons]
  split <;> split <;> simp_all
theorem valsC_len (R : List Rp) (c f mo : Int) (k : Nat) : (valsC (R.take k) c f mo).length ≤ R.length := Nat.le_trans (List.length_filterMap_le _ _) (by rw [List.length_take]; omega)
/-- The greatest difference from a mean. -/
def spr (l : List Int) (a : Int) : Int := l.foldl (fun s v => max (max s (v - a)) (a - v)) 0
theorem spr_snoc (l : List Int) (v a : Int) : spr (l ++ [v]) a = max (max (spr l a) (v - a)) (a - v) := by unfold spr; rw [List.foldl_append]; rfl
/-- The normal of an element on a face in a month, if there are values. -/
noncomputable def entC (R : List Rp) (c f mo : Int) : List Cm.N5 := if valsC R c f mo = [] then [] else [(c, f, mo, (valsC R c f mo).sum / ((valsC R c f mo).length : Int), spr (valsC R c f mo) ((valsC R c f mo).sum / ((valsC R c f mo).length : Int)))]
theorem entC_len (R : List Rp) (c f mo : Int) : (entC R c f mo).length ≤ 1 := by unfold entC; split <;> simp
noncomputable def entI (R : List Rp) (i : Nat) : List Cm.N5 := entC R ((i / 240 : Nat) + 1) ((i / 12 % 20 : Nat)) ((i % 12 : Nat) + 1)
noncomputable def outC (R : List Rp) (k : Nat) : List Cm.N5 := (List.range k).flatMap (entI R)
theorem outC_succ (R : List Rp) (k : Nat) : outC R (k + 1) = outC R k ++ entI R k := by unfold outC; rw [List.range_succ, List.flatMap_append]; simp
theorem outC_len (R : List Rp) : ∀ k, (outC R k).length ≤ k
  | 0 => by simp [outC]
  | k + 1 => by
    rw [outC_succ, List.length_append]
    have h1 := outC_len R k
    have h2 : (entI R k).length ≤ 1 := entC_len _ _ _ _
    omega
theorem entI_at (R : List Rp) (c f mo : Nat) (hf : f < 20) (hm : mo < 12) : entI R (c * 240 + f * 12 + mo) = entC R ((c : Int) + 1) (f : Int) ((mo : Int) + 1) := by
  unfold entI
  rw [show (c * 240 + f * 12 + mo) / 240 = c by omega, show (c * 240 + f * 12 + mo) / 12 % 20 = f by omega, show (c * 240 + f * 12 + mo) % 12 = mo by omega]
/-- The error of a report that climates are learned from. -/
noncomputable def erC (r : Rp) : Int := if nrm r.F r.A r.B r.C = true ∧ Ck.Cal.rng r.t = true then El.Elt.vld r.L else 1
/-- The first error. -/
noncomputable def errC : List Rp → Int
  | [] => 0
  | r :: R => if erC r = 0 then errC R else erC r
theorem errC_first : ∀ (R : List Rp) (k : Nat) (h : k < R.length), (∀ j (hj : j < R.length), j < k → erC R[j] = 0) → erC R[k] ≠ 0 → errC R = erC R[k]
  | r :: R, 0, _, _, hn => by
    have hn' : erC r ≠ 0 := hn
    show (if erC r = 0 then errC R else erC r) = erC r
    rw [if_neg hn']
  | r :: R, k + 1, h, h0, hn => by
    have e0 : erC r = 0 := h0 0 (by simp) (by omega)
    show (if erC r = 0 then errC R else erC r) = _
    rw [if_pos e0]
    exact errC_first R k (by simpa using h) (fun j hj hjk => h0 (j + 1) (by simpa using hj) (by omega)) hn
theorem errC_zero : ∀ (R : List Rp), (∀ j (hj : j < R.length), erC R[j] = 0) → errC R = 0
  | [], _ => rfl
  | r :: R, h => by
    show (if erC r = 0 then errC R else erC r) = 0
    have h0 : erC r = 0 := h 0 (by simp)
    rw [if_pos h0]
    exact errC_zero R fun j hj => h (j + 1) (by simpa using hj)
set_option maxHeartbeats 400000 in
theorem floor_any (a n : Int) (w : World) (hn : 1 ≤ n) (hn2 : n ≤ 1000) (h1 : -100000000 ≤ a) (h2 : a ≤ 100000000) :
    Calls Tryd.prog 71 #[.int .i64 a, .int .i64 n] w fun e w' => e = .returned (.int .i64 (a / n)) ∧ w = w' := by
  have key : (a.tmod n < 0 → a.tdiv n - 1 = a / n) ∧ (¬ a.tmod n < 0 → a.tdiv n = a / n) := by
    have e := Int.mul_tdiv_add_tmod a n
    have e2 := Int.mul_ediv_add_emod a n
    by_cases h0 : 0 ≤ a
    · have q := Int.tmod_nonneg n h0
      exact ⟨fun h => by omega, fun _ => Int.tdiv_eq_ediv_of_nonneg h0⟩
    · obtain ⟨q1, q2, q3, q4⟩ := tmod_neg h0 hn
      refine ⟨fun h => ?_, fun h => ?_⟩
      · have := q3 h
        refine Int.eq_of_mul_eq_mul_left (a := n) (by omega) ?_
        rw [Int.mul_sub]
        omega
      · have := q4 h
        refine Int.eq_of_mul_eq_mul_left (a := n) (by omega) ?_
        omega
  have bd : -100000000 ≤ a.tdiv n ∧ a.tdiv n ≤ 100000000 := by
    have h3 : (a.tdiv n).natAbs = a.natAbs / n.natAbs := Int.natAbs_tdiv a n
    have h4 : a.natAbs / n.natAbs ≤ a.natAbs := Nat.div_le_self _ _
    omega
  have HK := Lib.hid key
  have z0 : ¬ n = 0 := by omega
  have z1 : ¬ n = -1 := by omega
  have y1 : IntKind.i64.wrap (a.tdiv n) = a.tdiv n := IntWalk.i64_in _ (by omega)
  have y2 : IntKind.i64.wrap (a.tdiv n - 1) = a.tdiv n - 1 := IntWalk.i64_in _ (by omega)
  clear key
  by_cases hneg : a.tmod n < 0
  · have H := Lib.hid (HK.out.1 hneg)
    have bm : -1000 ≤ a.tmod n := by
      by_cases h0 : 0 ≤ a
      · have q := Int.tmod_nonneg n h0; omega
      · obtain ⟨q1, -⟩ := tmod_neg h0 hn; omega
    have y3 : IntKind.i64.wrap (a.tmod n) = a.tmod n := IntWalk.i64_in _ (by omega)
    go_enter Tryd.func71, Tryd.ntmps71
    go_wp2_with fail
    go_ret
    exact ⟨ret_i64 H.out, rfl⟩
  · have H := Lib.hid (HK.out.2 hneg)
    have bm : a.tmod n ≤ 1000 := by
      have q := Int.tmod_lt_of_pos a (show 0 < n by omega)
      omega
    have y3 : IntKind.i64.wrap (a.tmod n) = a.tmod n := IntWalk.i64_in _ (by omega)
    go_enter Tryd.func71, Tryd.ntmps71
    go_wp2_with fail
    go_ret
    exact ⟨ret_i64 H.out, rfl⟩
end Go.Proofs.YtlakgkoohdfiaaaDoor

namespace Go.Proofs.YtlakgkoohdfiaaaDoor
open Go.RowKit

def nrc (N : List Cm.N5) : List Value := N.flatMap encN
theorem nrc_app (N : List Cm.N5) (n : Cm.N5) : nrc (N ++ [n]) = nrc N ++ encN n := by simp [nrc]
theorem nrc_at : ∀ (N : List Cm.N5) (i : Nat) (h : i < N.length), ∀ j : Nat, j < 5 → (nrc N)[i * 5 + j]? = (encN N[i])[j]?
  | x :: r, 0, _, j, hj => by
    show (encN x ++ nrc r)[0 * 5 + j]? = _
    rw [Nat.zero_mul, Nat.zero_add, List.getElem?_append_left (by exact hj)]
    rfl
  | x :: r, i + 1, h, j, hj => by
    have := nrc_at r i (by simpa using h) j hj
    show (encN x ++ nrc r)[(i + 1) * 5 + j]? = _
    rw [List.getElem?_append_right (by show 5 ≤ _; omega), show (i + 1) * 5 + j - (encN x).length = i * 5 + j by show (i + 1) * 5 + j - 5 = _; omega]
    exact this
theorem NrIn.own {W : World} {base : Nat} {v : Value} {N : List Cm.N5} (h : W.ownsRow base 50 5 v N.length (nrc N)) : NrIn W v N := by
  rcases h.2 with ⟨rfl, h0⟩ | ⟨g, cap, cur, rfl, hb, hg, hc, hm, hs, hx⟩
  · exact ⟨none, 0, by rw [h0], by omega, by omega, fun i hi => by omega⟩
  · refine ⟨some ⟨g, 0, none⟩, cap, rfl, hc, by unfold maxLen at hm; omega, fun i hi => ⟨g, 0, rfl, (Array.getElem?_eq_some_iff.1 hg).1, ?_⟩⟩
    have k : ∀ j < 5, W.cell? ⟨g, 0 + i * 5 + j, none⟩ = (encN N[i])[j]? := fun j hj => by
      have h1 : W.cell? ⟨g, 0 + i * 5 + j, none⟩ = cur[0 + i * 5 + j]? := by simp [World.cell?, hg]
      rw [h1, ← nrc_at N i hi j hj, ← hx, Nat.zero_add, ← Array.getElem?_toList, List.getElem?_take, if_pos (by omega)]
    have k0 := k 0 (by omega)
    rw [Nat.add_zero] at k0
    exact ⟨k0, k 1 (by omega), k 2 (by omega), k 3 (by omega), k 4 (by omega)⟩
theorem infoNormal : (Tryd.prog.info? 50).map (fun i => (i.zero, i.size, i.bytes)) = some (some (nV (0, 0, 0, 0, 0)), 5, 40) := by kernel_rfl
theorem infoIntC : (Tryd.prog.info? 3).map (fun i => (i.zero, i.size, i.bytes)) = some (some (.int .i64 0), 1, 8) := by kernel_rfl
def nmc (C : List Int) : List Value := C.map (Value.int .i64)
theorem nmc_at {C : List Int} {i : Nat} (h : i < C.length) : (nmc C)[i]? = some (.int .i64 C[i]) := by unfold nmc; rw [List.getElem?_map, List.getElem?_eq_getElem h]; rfl
/-- A number of an own list. -/
theorem own_num {W : World} {base : Nat} {A : Option Addr} {n c : Nat} {C : List Int} (h : W.ownsRow base 3 1 (.slice A n c) C.length (nmc C)) {i : Nat} (hi : i < C.length) : ∃ g, A = some ⟨g, 0, none⟩ ∧ W.cell? ⟨g, i, none⟩ = some (.int .i64 C[i]) := by
  have h' := h
  rcases h.2 with ⟨e, h0⟩ | ⟨g, cap, cur, e, hb, hg, hc, hm, hs, hx⟩
  · omega
  · injection e with e1 e2 e3
    subst e1
    refine ⟨g, rfl, ?_⟩
    have e2' : n = C.length := e2
    subst e2'
    subst e3
    rw [h'.cellAt i (by omega)]
    exact nmc_at hi
theorem vld_vals {L : List El.Elt.R} (h : El.Elt.vld L = 0) : ∀ r ∈ L, El.Elt.Val r.1 r.2 := by
  intro r hr
  unfold El.Elt.vld at h
  by_cases h1 : ∃ r ∈ L, El.Elt.chk r.1 r.2 = 4
  · rw [if_pos h1] at h; omega
  · by_cases h2 : ∃ r ∈ L, El.Elt.chk r.1 r.2 = 1
    · rw [if_neg h1, if_pos h2] at h; omega
    · rcases El.Elt.chk_cases r.1 r.2 with q | q | q
      · exact q.1
      · exact absurd ⟨r, hr, q.2.2⟩ h2
      · exact absurd ⟨r, hr, q.2⟩ h1
theorem fnd_small {L : List El.Elt.R} (h : El.Elt.vld L = 0) (c : Int) : -11000 ≤ (El.Elt.fnd L c).getD 0 ∧ (El.Elt.fnd L c).getD 0 ≤ 11000 := by
  cases hf : El.Elt.fnd L c with
  | none => exact ⟨by decide, by decide⟩
  | some v =>
    unfold El.Elt.fnd at hf
    obtain ⟨r, hr, rfl⟩ := Option.map_eq_some_iff.1 hf
    have := El.Elt.val_bd (vld_vals h r (List.mem_of_find?_eq_some hr))
    simp only [Option.getD_some]
    omega
/-- Bounds of values, their sum and the differences from a mean. -/
theorem sum_small : ∀ (l : List Int), (∀ v ∈ l, -11000 ≤ v ∧ v ≤ 11000) → -(11000 * (l.length : Int)) ≤ l.sum ∧ l.sum ≤ 11000 * (l.length : Int)
  | [], _ => by simp
  | x :: l, h => by
    have h1 := h x (by simp)
    have h2 := sum_small l fun v hv => h v (by simp [hv])
    rw [List.sum_cons, List.length_cons]
    push_cast
    omega
theorem spr_small : ∀ (l : List Int) (a s : Int), 0 ≤ s → s ≤ 30000000 → -10000000 ≤ a → a ≤ 10000000 → (∀ v ∈ l, -11000 ≤ v ∧ v ≤ 11000) → 0 ≤ l.foldl (fun s v => max (max s (v - a)) (a - v)) s ∧ l.foldl (fun s v => max (max s (v - a)) (a - v)) s ≤ 30000000
  | [], _, s, h0, h1, _, _, _ => ⟨h0, h1⟩
  | x :: l, a, s, h0, h1, h2, h3, h => by
    have hx := h x (by simp)
    exact spr_small l a _ (by show 0 ≤ max (max s (x - a)) (a - x); omega) (by show max (max s (x - a)) (a - x) ≤ 30000000; omega) h2 h3 fun v hv => h v (by simp [hv])
theorem valsC_small {R : List Rp} (h : ∀ r ∈ R, El.Elt.vld r.L = 0) (c f mo : Int) : ∀ v ∈ valsC R c f mo, -11000 ≤ v ∧ v ≤ 11000 := by
  intro v hv
  unfold valsC at hv
  obtain ⟨r, hr, he⟩ := List.mem_filterMap.1 hv
  split at he
  · obtain rfl := Option.some.inj he
    exact fnd_small (h r hr) c
  · cases he
/-- What is known in the first loop. -/
structure L1 (W : World) (uv : Value) (R : List Rp) (gr : Nat) (w : World) : Prop where
  below : Below W.heap.size W w
  rin : RpsIn w uv R
  res : Row w gr 24 #[.slice none 0 0]
  hgr : W.heap.size ≤ gr
theorem L1.under {W w w' : World} {uv : Value} {R : List Rp} {gr : Nat} (h : L1 W uv R gr w) (hb : Below w.heap.size w w') : L1 W uv R gr w' := ⟨h.below.trans (hb.mono h.below.size), h.rin.under hb, h.res.under hb, h.hgr⟩
/-- What is known while normals are appended. -/
structure L2 (W : World) (uv : Value) (R : List Rp) (gr go : Nat) (N : List Cm.N5) (u : Value) (w : World) : Prop where
  l1 : L1 W uv R gr w
  box : Row w go 24 #[u]
  own : w.ownsRow W.heap.size 50 5 u N.length (nrc N)
  hgo : W.heap.size ≤ go
  ne : go ≠ gr
theorem L2.under {W w w' : World} {uv : Value} {R : List Rp} {gr go : Nat} {N : List Cm.N5} {u : Value} (h : L2 W uv R gr go N u w) (hb : Below w.heap.size w w') : L2 W uv R gr go N u w' := ⟨h.l1.under hb, h.box.under hb, El.own_under h.own hb, h.hgo, h.ne⟩
theorem L2.cast {W w : World} {uv : Value} {R : List Rp} {gr go : Nat} {N N' : List Cm.N5} {u : Value} (h : L2 W uv R gr go N u w) (e : N = N') : L2 W uv R gr go N' u w := e ▸ h
/-- .. and while values are gathered. -/
structure L3 (W : World) (uv : Value) (R : List Rp) (gr go : Nat) (N : List Cm.N5) (u : Value) (V : List Int) (vs : Value) (w : World) : Prop where
  l2 : L2 W uv R gr go N u w
  own : w.ownsRow W.heap.size 3 1 vs V.length (nmc V)
theorem L3.under {W w w' : World} {uv : Value} {R : List Rp} {gr go : Nat} {N : List Cm.N5} {u vs : Value} {V : List Int} (h : L3 W uv R gr go N u V vs w) (hb : Below w.heap.size w w') : L3 W uv R gr go N u V vs w' := ⟨h.l2.under hb, El.own_under h.own hb⟩
/-- What Learn answers. -/
noncomputable def lrn (R : List Rp) : List Cm.N5 × Int := if errC R = 0 then if 200 < (outC R 2640).length then ([], 2) else (outC R 2640, 0) else ([], errC R)
def LrnR (W : World) (R : List Rp) (e : Ending) (w : World) : Prop := ∃ v, e = .returned (.tuple #[clV v, .int .i64 (lrn R).2]) ∧ Below W.heap.size W w ∧ w.ownsRow W.heap.size 50 5 v (lrn R).1.length (nrc (lrn R).1)
end Go.Proofs.YtlakgkoohdfiaaaDoor
