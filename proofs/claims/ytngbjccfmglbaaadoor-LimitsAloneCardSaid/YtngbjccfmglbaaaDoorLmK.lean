/- The walk of LimitsClean: for every list of numbers the law returns true, and what lay in memory is as it was. -/
import Derived.Test.YtngbjccfmglbaaaDoorLmF
import Derived.Test.YtngbjccfmglbaaaDoorLmJ
import Derived.Test.YtngbjccfmglbaaaDoorRList
import Derived.Test.YtngbjccfmglbaaaDoorRWth
import Derived.Test.YtngbjccfmglbaaaDoorRFnd
namespace Go.Proofs.YtngbjccfmglbaaaDoor
open Go.RowKit

theorem Good.smalls {k : Int} {M : List Elt.R} (h : Good k M) (hk : k ≤ 12) : Smalls M := ⟨by have := h.len; omega, fun r hr => by have := Elt.val_bd (h.val r hr); omega⟩
theorem Smalls.wout {M : List Elt.R} (h : Smalls M) (C : List Int) : Smalls (Elt.wout M C) := ⟨Nat.le_trans (List.length_filter_le _ _) h.1, fun r hr => h.2 r (List.mem_filter.1 hr).1⟩
/-- What is known in the loops. -/
structure Cl (W : World) (x bad : Value) (M : List Elt.R) (C : List Int) (w : World) : Prop where
  below : Below W.heap.size W w
  xs : RdIn w x M
  nm : NmIn w bad C
theorem Cl.under {W w w' : World} {x bad : Value} {M : List Elt.R} {C : List Int} (h : Cl W x bad M C w) (hb : Below w.heap.size w w') : Cl W x bad M C w' := ⟨h.below.trans (hb.mono h.below.size), h.xs.under hb, h.nm.under hb⟩
/-- One comparison of two readings, as the law tells it. -/
def half (g oa ob lt e1 e2 : Bool) : Bool := g || (oa && ob && lt) && (e1 || e2)
theorem sq_small {z : Int} (h : -100000 ≤ z ∧ z ≤ 100000) : 0 ≤ z * z ∧ z * z ≤ 10000000000 := by
  have h1 : z.natAbs ≤ 100000 := by omega
  have h2 : z.natAbs * z.natAbs ≤ 100000 * 100000 := Nat.mul_le_mul h1 h1
  have h3 : ((z.natAbs * z.natAbs : Nat) : Int) = z * z := Int.natAbs_mul_self
  omega
set_option maxRecDepth 100000 in
set_option maxHeartbeats 4000000 in
theorem limitsClean_any (v : Value) (w : World) (hE : Env w) (hl : ListIn w v) :
    Calls Tryd.prog 3 #[v] w fun e w' => e = .returned (.bool true) ∧ Below w.heap.size w w' := by
  have HE := Lib.hid hE; clear hE
  go_enter Tryd.func3, Tryd.ntmps3
  go_wp2_with fail
  refine (new_any _ _ hl).mono ?_
  rintro e w1 ⟨rfl, s1, -⟩
  go_wp2_with fail
  refine (list_any _ _ _ s1).mono ?_
  rintro e w2 ⟨x, M, rfl, hG, hS⟩
  have HG := Lib.hid hG
  have B2 := Lib.hid hS.src.below
  have X2 := Lib.hid (RdIn.own hS.own)
  have HM := Lib.hid (hG.smalls (by omega))
  have hM := hG.len
  have HP := Lib.hid (asc_pw hG.asc)
  clear hG s1 hl hS
  go_wp2_with fail
  refine (check_any x M _ X2.out HM.out (HE.out.under B2.out)).mono ?_
  rintro e w3 ⟨bad, C, rfl, ck, g3, n3⟩
  have CK := Lib.hid ck
  have C3 := Lib.hid (Cl.mk (B2.out.trans (g3.mono B2.out.size)) (X2.out.under g3) n3)
  clear ck g3 n3 B2 X2
  go_wp2_with fail
  refine (refWithout_any x bad M C _ C3.out.xs C3.out.nm (by omega)).mono ?_
  rintro e w4 ⟨y, rfl, g4, y4⟩
  have C4 := Lib.hid (C3.out.under g4)
  have K4 := Lib.hid (check_any y (Elt.wout M C) _ y4 (HM.out.wout C) (HE.out.under C4.out.below))
  clear g4 y4 C3
  go_wp2_with fail
  refine K4.out.mono ?_
  rintro e w5 ⟨u5, D, rfl, ck, g5, n5⟩
  obtain rfl := ck.len.1 (Lm.clean CK.out.mem)
  obtain ⟨A5, c5, rfl, -⟩ := n5
  have C5 := Lib.hid (C4.out.under g5)
  clear ck g5 C4 K4
  obtain ⟨A, cb, e5, l1, l2, -⟩ := C5.out.nm
  subst e5
  go_wp2_with fail
  go_loopw [7] (fun t wr => ∃ m : Nat, m ≤ C.length ∧ t = .int .i64 ((m : Int) + 1) ∧ Cl w x (.slice A C.length cb) M C wr) (fun t _ => C.length + 2 - (intOf t).toNat)
  case atStart => exact ⟨0, by omega, rfl, C5.out⟩
  case round =>
    obtain ⟨m, hm, rfl, hC⟩ := hrel
    clear C5
    by_cases hlt : m + 1 < C.length
    · obtain ⟨g, off, rfl, p0⟩ := hC.nm.at (i := m) (by omega)
      obtain ⟨g', off', e, p1⟩ := hC.nm.at hlt
      injection e with e
      injection e with e1 e2
      subst e1; subst e2
      have hup := List.pairwise_iff_getElem.1 CK.out.asc m (m + 1) (by omega) hlt (by omega)
      have k0 : (0 : Int) ≤ (m : Int) := by omega
      have k1 : (m : Int) < (C.length : Int) := by omega
      have k2 : (m : Int) + 1 < (C.length : Int) := by omega
      have k3 : (0 : Int) ≤ (m : Int) + 1 := by omega
      have x1 : IntKind.i64.wrap (m : Int) = (m : Int) := IntWalk.i64_in _ (by omega)
      generalize C[m] = a at *
      generalize C[m + 1] = b at *
      have hc : ¬ b ≤ a := by omega
      have HC := Lib.hid hC
      clear hC hup
      go_wp2_with fail
      go_quiet (fail)
      go_wp2_with fail
      go_roundw
      case rel => exact ⟨m + 1, by omega, by go_num, by first | exact HC.out | exact HC.out.under (below_drewN (Below.refl _ _) _)⟩
      case measure => simp [intOf]; omega
    · have k2 : ¬ (m : Int) + 1 < (C.length : Int) := by omega
      have C6 := Lib.hid hC
      obtain ⟨B, cx, ex, l3, l4, -⟩ := hC.xs
      subst ex
      clear hC hlt
      go_wp2_with fail
      go_loopw [48] (fun t wr => ∃ k : Nat, k ≤ M.length ∧ t = .int .i64 k ∧ Cl w (.slice B M.length cx) (.slice A C.length cb) M C wr) (fun t _ => M.length - (intOf t).toNat)
      case atStart => exact ⟨0, by omega, rfl, C6.out⟩
      case round =>
        obtain ⟨k, hk, rfl, hC⟩ := hrel
        clear C6
        by_cases hlt : k < M.length
        · obtain ⟨B', cap', e, -, -, hR⟩ := hC.xs
          injection e with e1 e2 e3
          subst e1
          obtain ⟨g, off, rfl, hgl, c0, c1⟩ := hR k hlt
          have k0 : (0 : Int) ≤ (k : Int) := by omega
          have k1 : (k : Int) < (M.length : Int) := by omega
          have HRs : Hid (C.contains (M[k]).1 = Lm.reason M M[k]) := Lib.hid (Lm.reason_in CK.out HP.out (List.getElem_mem hlt))
          clear hR e3
          generalize M[k] = r at *
          obtain ⟨a, b⟩ := r
          have HC := Lib.hid hC; clear hC
          simp only at c0 c1
          go_upto_region 15 with fail
          refine forget (fun Y => Cl w (.slice (some ⟨g, off, none⟩) M.length cx) (.slice A C.length cb) M C Y ∧ Row Y wr.heap.size 30 #[.int .i64 a, .int .i64 b]) ⟨HC.out.under ((Below.refl _ _).alloc (Nat.le_refl _) _), Row.new _ _ _⟩ ?_
          clear c0 c1 HC
          generalize wr.heap.size = gr at *
          rintro Y ⟨hC, rY⟩
          obtain ⟨p0, p1⟩ := row2 rY
          have HW := Lib.hid (refGross_any a b Y)
          have HC := Lib.hid hC
          have RY := Lib.hid rY
          clear hC rY
          go_wp2_with fail
          refine HW.out.mono ?_
          rintro e w6 ⟨rfl, g6⟩
          have D6 := Lib.hid (HC.out.under g6)
          have R6 := Lib.hid (RY.out.under g6)
          clear g6 HW HC RY p0 p1
          go_wp2_with fail
          obtain ⟨g0, hg0⟩ : ∃ q, (!Lm.gr a b) = q := ⟨_, rfl⟩
          have HF : Hid (C.contains a = half (half g0 (Elt.fnd M 2).isSome (Elt.fnd M 3).isSome (decide ((Elt.fnd M 2).getD 0 < (Elt.fnd M 3).getD 0)) (a == 2) (a == 3)) (Elt.fnd M 4).isSome (Elt.fnd M 5).isSome (decide (810000 < (Elt.fnd M 4).getD 0 * (Elt.fnd M 4).getD 0 + (Elt.fnd M 5).getD 0 * (Elt.fnd M 5).getD 0)) (a == 4) (a == 5)) := Lib.hid (by rw [HRs.out, ← hg0]; rfl)
          rw [hg0]
          clear hg0
          refine (refFind_any _ M 2 _ D6.out.xs).mono ?_
          rintro e w7 ⟨rfl, g7⟩
          have D7 := Lib.hid (D6.out.under g7)
          have R7 := Lib.hid (R6.out.under g7)
          clear g7 D6 R6
          obtain ⟨oa, hoa⟩ : ∃ q, (Elt.fnd M 2).isSome = q := ⟨_, rfl⟩
          obtain ⟨va, hva⟩ : ∃ q, (Elt.fnd M 2).getD 0 = q := ⟨_, rfl⟩
          rw [hoa, hva] at HF
          rw [hoa, hva]
          clear hoa hva
          go_wp2_with fail
          refine (refFind_any _ M 3 _ D7.out.xs).mono ?_
          rintro e w8 ⟨rfl, g8⟩
          have D8 := Lib.hid (D7.out.under g8)
          have R8 := Lib.hid (R7.out.under g8)
          clear g8 D7 R7
          obtain ⟨ob, hob⟩ : ∃ q, (Elt.fnd M 3).isSome = q := ⟨_, rfl⟩
          obtain ⟨vb, hvb⟩ : ∃ q, (Elt.fnd M 3).getD 0 = q := ⟨_, rfl⟩
          rw [hob, hvb] at HF
          rw [hob, hvb]
          clear hob hvb
          obtain ⟨p0, p1⟩ := row2 R8.out
          obtain ⟨lt1, hlt1⟩ : ∃ q, decide (va < vb) = q := ⟨_, rfl⟩
          have HT := Lib.hid hlt1
          rw [hlt1] at HF
          clear hlt1
          obtain ⟨q1, hq1⟩ : ∃ q, half g0 oa ob lt1 (a == 2) (a == 3) = q := ⟨_, rfl⟩
          rw [hq1] at HF
          have HQ := Lib.hid hq1
          clear hq1
          go_upto_region 18 with fail
          go_cut [10] from 65 to 86 (fun c wx => c = .bool q1 ∧ wx = w8)
          case first =>
            clear HF
            cases g0 with
            | true =>
              go_wp2_with fail
              go_meet
              exact ⟨congrArg Value.bool (by rw [← HQ.out]; simp [half, *]), rfl⟩
            | false =>
              cases oa with
              | false =>
                go_wp2_with fail
                go_meet
                exact ⟨congrArg Value.bool (by rw [← HQ.out]; simp [half, *]), rfl⟩
              | true =>
                cases ob with
                | false =>
                  go_wp2_with fail
                  go_meet
                  exact ⟨congrArg Value.bool (by rw [← HQ.out]; simp [half, *]), rfl⟩
                | true =>
                  by_cases hlt2 : va < vb
                  · have HL : Hid (lt1 = true) := Lib.hid (by rw [← HT.out]; exact decide_eq_true hlt2)
                    by_cases h1 : a = 2
                    · subst h1
                      go_wp2_with fail
                      go_meet
                      exact ⟨congrArg Value.bool (by rw [← HQ.out, HL.out]; simp [half, *]), rfl⟩
                    · have e1 : (a == 2) = false := beq_eq_false_iff_ne.2 h1
                      by_cases h2 : a = 3
                      · subst h2
                        go_wp2_with fail
                        go_meet
                        exact ⟨congrArg Value.bool (by rw [← HQ.out, HL.out]; simp [half, *]), rfl⟩
                      · have e2 : (a == 3) = false := beq_eq_false_iff_ne.2 h2
                        go_wp2_with fail
                        go_meet
                        exact ⟨congrArg Value.bool (by rw [← HQ.out, HL.out]; simp [half, *]), rfl⟩
                  · have HL : Hid (lt1 = false) := Lib.hid (by rw [← HT.out]; exact decide_eq_false hlt2)
                    go_wp2_with fail
                    go_meet
                    exact ⟨congrArg Value.bool (by rw [← HQ.out, HL.out]; simp [half, *]), rfl⟩
          case rest =>
            obtain ⟨rfl, rfl⟩ := hcut
            clear HQ HT
            have s4 := HM.out.fnd 4
            have s5 := HM.out.fnd 5
            go_wp2_with fail
            refine (refFind_any _ M 4 _ D8.out.xs).mono ?_
            rintro e w9 ⟨rfl, g9⟩
            have D9 := Lib.hid (D8.out.under g9)
            have R9 := Lib.hid (R8.out.under g9)
            clear g9 D8 R8 p0 p1
            obtain ⟨oc, hoa⟩ : ∃ q, (Elt.fnd M 4).isSome = q := ⟨_, rfl⟩
            obtain ⟨vc, hva⟩ : ∃ q, (Elt.fnd M 4).getD 0 = q := ⟨_, rfl⟩
            rw [hoa, hva] at HF
            rw [hva] at s4
            rw [hoa, hva]
            clear hoa hva
            go_wp2_with fail
            refine (refFind_any _ M 5 _ D9.out.xs).mono ?_
            rintro e w10 ⟨rfl, g10⟩
            have D10 := Lib.hid (D9.out.under g10)
            have R10 := Lib.hid (R9.out.under g10)
            clear g10 D9 R9
            obtain ⟨od, hob⟩ : ∃ q, (Elt.fnd M 5).isSome = q := ⟨_, rfl⟩
            obtain ⟨vd, hvb⟩ : ∃ q, (Elt.fnd M 5).getD 0 = q := ⟨_, rfl⟩
            rw [hob, hvb] at HF
            rw [hvb] at s5
            rw [hob, hvb]
            clear hob hvb
            have q4 := sq_small s4
            have q5 := sq_small s5
            have x4 : IntKind.i64.wrap (vc * vc) = vc * vc := IntWalk.i64_in _ (by omega)
            have x5 : IntKind.i64.wrap (vd * vd) = vd * vd := IntWalk.i64_in _ (by omega)
            have x6 : IntKind.i64.wrap (vc * vc + vd * vd) = vc * vc + vd * vd := IntWalk.i64_in _ (by omega)
            clear s4 s5 q4 q5
            obtain ⟨p0, p1⟩ := row2 R10.out
            obtain ⟨lt2, hlt1⟩ : ∃ q, decide (810000 < vc * vc + vd * vd) = q := ⟨_, rfl⟩
            have HT := Lib.hid hlt1
            rw [hlt1] at HF
            clear hlt1
            obtain ⟨q2, hq1⟩ : ∃ q, half q1 oc od lt2 (a == 4) (a == 5) = q := ⟨_, rfl⟩
            rw [hq1] at HF
            have HQ := Lib.hid hq1
            clear hq1
            go_upto_region 21 with fail
            go_cut [10] from 97 to 123 (fun c wx => c = .bool q2 ∧ wx = w10)
            case first =>
              clear HF
              cases q1 with
              | true =>
                go_wp2_with fail
                go_meet
                exact ⟨congrArg Value.bool (by rw [← HQ.out]; simp [half, *]), rfl⟩
              | false =>
                cases oc with
                | false =>
                  go_wp2_with fail
                  go_meet
                  exact ⟨congrArg Value.bool (by rw [← HQ.out]; simp [half, *]), rfl⟩
                | true =>
                  cases od with
                  | false =>
                    go_wp2_with fail
                    go_meet
                    exact ⟨congrArg Value.bool (by rw [← HQ.out]; simp [half, *]), rfl⟩
                  | true =>
                    by_cases hlt2 : 810000 < vc * vc + vd * vd
                    · have HL : Hid (lt2 = true) := Lib.hid (by rw [← HT.out]; exact decide_eq_true hlt2)
                      by_cases h1 : a = 4
                      · subst h1
                        go_wp2_with fail
                        go_meet
                        exact ⟨congrArg Value.bool (by rw [← HQ.out, HL.out]; simp [half, *]), rfl⟩
                      · have e1 : (a == 4) = false := beq_eq_false_iff_ne.2 h1
                        by_cases h2 : a = 5
                        · subst h2
                          go_wp2_with fail
                          go_meet
                          exact ⟨congrArg Value.bool (by rw [← HQ.out, HL.out]; simp [half, *]), rfl⟩
                        · have e2 : (a == 5) = false := beq_eq_false_iff_ne.2 h2
                          go_wp2_with fail
                          go_meet
                          exact ⟨congrArg Value.bool (by rw [← HQ.out, HL.out]; simp [half, *]), rfl⟩
                    · have HL : Hid (lt2 = false) := Lib.hid (by rw [← HT.out]; exact decide_eq_false hlt2)
                      go_wp2_with fail
                      go_meet
                      exact ⟨congrArg Value.bool (by rw [← HQ.out, HL.out]; simp [half, *]), rfl⟩
            case rest =>
              obtain ⟨rfl, rfl⟩ := hcut
              clear HQ HT x4 x5 x6
              go_wp2_with fail
              refine (in_any _ C a _ D10.out.nm).mono ?_
              rintro e w11 ⟨rfl, rfl⟩
              rw [HF.out]
              have D11 := Lib.hid D10.out
              clear HF D10 R10 p0 p1
              cases q2 with
              | true =>
                go_wp2_with fail
                go_roundw
                case rel => exact ⟨k + 1, by omega, by go_num, D11.out⟩
                case measure => simp [intOf]; omega
              | false =>
                go_wp2_with fail
                go_roundw
                case rel => exact ⟨k + 1, by omega, by go_num, D11.out⟩
                case measure => simp [intOf]; omega
        · have k1 : ¬ (k : Int) < (M.length : Int) := by omega
          have HA := Lib.hid (awake_from wr (HE.out.under hC.below) hC.below)
          clear hC
          go_wp2_with fail
          refine HA.out.mono ?_
          rintro e w11 ⟨rfl, g11⟩
          have D11 := Lib.hid g11
          clear g11 HA
          go_wp2_with fail
          go_ret
          exact ⟨rfl, D11.out⟩
end Go.Proofs.YtngbjccfmglbaaaDoor
