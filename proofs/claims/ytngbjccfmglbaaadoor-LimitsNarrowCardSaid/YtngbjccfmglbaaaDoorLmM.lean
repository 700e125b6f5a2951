/- The walk of LimitsNarrow: for every two numbers the law returns true, and what lay in memory is as it was. -/
import Derived.Test.YtngbjccfmglbaaaDoorLmK
namespace Go.Proofs.YtngbjccfmglbaaaDoor
open Go.RowKit

/-- What the loop knows behind the values below v. -/
structure Nr (c v lo hi : Int) : Prop where
  v0 : Elt.lo c - 1 ≤ v
  v1 : v ≤ Elt.hi c + 2
  a : v ≤ Lm.gl c → lo = Elt.hi c + 1 ∧ hi = Elt.lo c - 1
  b : Lm.gl c < v → lo = Lm.gl c ∧ (v - 1 ≤ Lm.gm c → hi = v - 1) ∧ (Lm.gm c < v - 1 → hi = Lm.gm c)
/-- What lies in memory. -/
structure Nw (W : World) (gi : Nat) (c : Int) (w : World) : Prop where
  below : Below W.heap.size W w
  row : Row w gi 39 #[.string (S [Elt.lt c]), .int .i64 (Elt.lo c), .int .i64 (Elt.hi c), .int .i64 (Elt.dg c)]
theorem Nw.under {W w w' : World} {gi : Nat} {c : Int} (h : Nw W gi c w) (hb : Below w.heap.size w w') : Nw W gi c w' := ⟨h.below.trans (hb.mono h.below.size), h.row.under hb⟩
set_option maxRecDepth 100000 in
set_option maxHeartbeats 4000000 in
theorem limitsNarrow_any (x v : Int) (w : World) (hE : Env w) (hx : I64 x) (_hv : I64 v) :
    Calls Tryd.prog 4 #[.int .i64 x, .int .i64 v] w fun e w' => e = .returned (.bool true) ∧ Below w.heap.size w w' := by
  have HE := Lib.hid hE; clear hE
  go_enter Tryd.func4, Tryd.ntmps4
  go_wp2_with fail
  refine (mod_any x 11 _ hx (by omega) (by omega)).mono ?_
  rintro e w1 ⟨rfl, rfl⟩
  have m0 := Int.emod_nonneg x (show (11 : Int) ≠ 0 by omega)
  have m1 := Int.emod_lt_of_pos x (show (0 : Int) < 11 by omega)
  generalize x % 11 = q at *
  have hc : Elt.Ex (1 + q) := ⟨by omega, by omega⟩
  have x1 : IntKind.i64.wrap (1 + q) = 1 + q := IntWalk.i64_in _ (by omega)
  clear hx
  go_wp2_with fail
  clear x1
  generalize 1 + q = c at *
  have HX := Lib.hid hc
  obtain ⟨i1, i2, i3, i4, i5⟩ := Lm.inside hc
  obtain ⟨⟨f1, f2, -⟩, -⟩ := Elt.facts hc
  refine (refDescribe_yes c _ hc).mono ?_
  rintro e w2 ⟨rfl, g2⟩
  clear hc
  go_upto_region 3 with fail
  refine forget (fun Y => Nw w w2.heap.size c Y) ⟨g2.alloc g2.size _, Row.new _ _ _⟩ ?_
  generalize w2.heap.size = gi
  clear g2
  intro Y hN
  obtain ⟨p0, p1, p2, p3⟩ := row4 hN.row
  have HN := Lib.hid hN; clear hN
  have HL : Hid (Lm.gl c = Lm.gl c) := Lib.hid rfl
  have y1 : IntKind.i64.wrap (Elt.hi c + 1) = Elt.hi c + 1 := IntWalk.i64_in _ (by omega)
  have y2 : IntKind.i64.wrap (Elt.lo c - 1) = Elt.lo c - 1 := IntWalk.i64_in _ (by omega)
  have HNr : Hid (Nr c (Elt.lo c - 1) (Elt.hi c + 1) (Elt.lo c - 1)) := Lib.hid ⟨by omega, by omega, fun _ => ⟨rfl, rfl⟩, fun h => by omega⟩
  have HF : Hid (Elt.lo c ≤ Lm.gl c ∧ Lm.gl c ≤ Lm.gm c ∧ Lm.gm c ≤ Elt.hi c ∧ -1000 ≤ Elt.lo c ∧ Elt.hi c ≤ 11000) := Lib.hid ⟨i1, i2, i3, f1, f2⟩
  clear HL
  go_quiet (fail)
  go_wp2_with fail
  have HN1 : Hid (Nw w gi c (Y.drewN nq)) := Lib.hid (HN.out.under (below_drewN (Below.refl _ _) _))
  clear HN p0 p1 p2 p3 y1 y2 i1 i2 i3 i4 i5
  go_loopw [8, 9, 10] (fun a b t wr => ∃ lo hi z : Int, a = .int .i64 lo ∧ b = .int .i64 hi ∧ t = .int .i64 z ∧ Hid (Nr c z lo hi) ∧ Hid (Nw w gi c wr)) (fun _ _ t _ => (Elt.hi c + 2 - intOf t).toNat)
  case atStart => exact ⟨_, _, _, rfl, rfl, rfl, HNr, HN1⟩
  case round =>
    obtain ⟨lo, hi, z, rfl, rfl, rfl, hR, hN⟩ := hrel
    clear HNr HN1
    have v0 := hR.out.v0
    have v1 := hR.out.v1
    obtain ⟨p0, p1, p2, p3⟩ := row4 hN.out.row
    have y1 : IntKind.i64.wrap (Elt.hi c + 1) = Elt.hi c + 1 := IntWalk.i64_in _ (by omega)
    have y3 : IntKind.i64.wrap (z + 1) = z + 1 := IntWalk.i64_in _ (by omega)
    by_cases hz : z ≤ Elt.hi c + 1
    · have HW := Lib.hid (gross_any c z wr (HE.out.under hN.out.below))
      by_cases ha : Lm.gl c ≤ z
      · by_cases hb : z ≤ Lm.gm c
        · have HG : Hid (Lm.gr c z = true) := Lib.hid (Lm.gr_yes HX.out ha hb)
          have HS : Hid (Nr c (z + 1) (Lm.gl c) z ∧ ((z = Lm.gl c ∧ lo = Elt.hi c + 1 ∧ hi = Elt.lo c - 1) ∨ (Lm.gl c < z ∧ lo = Lm.gl c ∧ hi = z - 1))) := Lib.hid (by
            obtain ⟨q1, q2, q3, q4⟩ := hR.out
            obtain ⟨r1, r2, r3, r4, r5⟩ := HF.out
            refine ⟨⟨by omega, by omega, fun h => by omega, fun h => ⟨rfl, fun _ => by omega, fun h => by omega⟩⟩, ?_⟩
            rcases (by omega : z = Lm.gl c ∨ Lm.gl c < z) with h | h
            · exact .inl ⟨h, q3 (by omega)⟩
            · exact .inr ⟨h, (q4 h).1, (q4 h).2.1 (by omega)⟩)
          clear hR ha hb
          go_wp2_with fail
          refine HW.out.mono ?_
          rintro e w4 ⟨rfl, g4⟩
          rw [HG.out]
          have N4 := Lib.hid (hN.out.under g4)
          clear g4 HW hN p0 p1 p2 p3 HG
          obtain ⟨HS1, HS2⟩ := HS.out
          clear HS
          rcases HS2 with ⟨e1, rfl, rfl⟩ | ⟨e1, rfl, rfl⟩
          · have HS3 : Hid (Nr c (z + 1) z z) := Lib.hid (by have h := HS1; rw [← e1] at h; exact h)
            have m1 : min (Elt.hi c + 1) z = z := by omega
            have m2 : max (Elt.lo c - 1) z = z := by omega
            clear HS1 e1
            go_wp2_with fail
            all_goals (go_roundw)
            case rel => exact ⟨_, _, _, rfl, rfl, rfl, HS3, N4⟩
            case measure => simp [intOf]; omega
          · have HS3 : Hid (Nr c (z + 1) (Lm.gl c) z) := Lib.hid HS1
            have m1 : min (Lm.gl c) z = Lm.gl c := by omega
            have m2 : max (z - 1) z = z := by omega
            generalize Lm.gl c = a at *
            clear HS1
            go_wp2_with fail
            all_goals (go_roundw)
            case rel => exact ⟨_, _, _, rfl, rfl, rfl, HS3, N4⟩
            case measure => simp [intOf]; omega
        · have HG : Hid (Lm.gr c z = false) := Lib.hid (Lm.gr_no fun h => hb h.2.2)
          have HS : Hid (Nr c (z + 1) lo hi) := Lib.hid (by
            obtain ⟨q1, q2, q3, q4⟩ := hR.out
            obtain ⟨r1, r2, r3, r4, r5⟩ := HF.out
            refine ⟨by omega, by omega, fun h => by omega, fun h => ⟨(q4 (by omega)).1, fun h2 => by omega, fun h2 => ?_⟩⟩
            rcases (by omega : z - 1 = Lm.gm c ∨ Lm.gm c < z - 1) with h3 | h3
            · rw [← h3]; exact (q4 (by omega)).2.1 (by omega)
            · exact (q4 (by omega)).2.2 h3)
          clear hR ha hb
          go_wp2_with fail
          refine HW.out.mono ?_
          rintro e w4 ⟨rfl, g4⟩
          rw [HG.out]
          have N4 := Lib.hid (hN.out.under g4)
          clear g4 HW hN p0 p1 p2 p3 HG
          go_wp2_with fail
          go_roundw
          case rel => exact ⟨_, _, _, rfl, rfl, rfl, HS, N4⟩
          case measure => simp [intOf]; omega
      · have HG : Hid (Lm.gr c z = false) := Lib.hid (Lm.gr_no fun h => ha h.2.1)
        have HS : Hid (Nr c (z + 1) lo hi) := Lib.hid (by
          obtain ⟨q1, q2, q3, q4⟩ := hR.out
          exact ⟨by omega, by omega, fun h => q3 (by omega), fun h => by omega⟩)
        clear hR ha
        go_wp2_with fail
        refine HW.out.mono ?_
        rintro e w4 ⟨rfl, g4⟩
        rw [HG.out]
        have N4 := Lib.hid (hN.out.under g4)
        clear g4 HW hN p0 p1 p2 p3 HG
        go_wp2_with fail
        go_roundw
        case rel => exact ⟨_, _, _, rfl, rfl, rfl, HS, N4⟩
        case measure => simp [intOf]; omega
    · obtain ⟨q1, q2, q3, q4⟩ := hR.out
      obtain ⟨r1, r2, r3, r4, r5⟩ := HF.out
      obtain ⟨rfl, -, h3⟩ := q4 (by omega)
      obtain rfl := h3 (by omega)
      have HW := Lib.hid (gross_any c v wr (HE.out.under hN.out.below))
      have HD : Hid (Lm.gr c v = decide (Lm.gl c ≤ v ∧ v ≤ Lm.gm c)) := Lib.hid (by
        unfold Lm.gr
        exact decide_eq_decide.2 ⟨fun h => h.2, fun h => ⟨HX.out, h⟩⟩)
      clear q1 q2 q3 q4 h3 hR
      generalize Lm.gl c = a at *
      generalize Lm.gm c = b at *
      go_upto_region 11 with fail
      by_cases ha : a ≤ v
      · by_cases hb : v ≤ b
        · have HV : Hid (Lm.gr c v = true) := Lib.hid (by rw [HD.out]; exact decide_eq_true ⟨ha, hb⟩)
          clear HD
          go_wp2_with fail
          refine HW.out.mono ?_
          rintro e w4 ⟨rfl, g4⟩
          rw [HV.out]
          have N4 := hN.out.under g4
          have HA := Lib.hid (awake_from w4 (HE.out.under N4.below) N4.below)
          clear g4 HW N4 HV p0 p1 p2 p3
          go_wp2_with fail
          refine HA.out.mono ?_
          rintro e w5 ⟨rfl, g5⟩
          have D5 := Lib.hid g5
          clear g5 HA
          go_wp2_with fail
          go_ret
          exact ⟨rfl, D5.out⟩
        · have HV : Hid (Lm.gr c v = false) := Lib.hid (by rw [HD.out]; exact decide_eq_false fun h => hb h.2)
          clear HD
          go_wp2_with fail
          refine HW.out.mono ?_
          rintro e w4 ⟨rfl, g4⟩
          rw [HV.out]
          have N4 := hN.out.under g4
          have HA := Lib.hid (awake_from w4 (HE.out.under N4.below) N4.below)
          clear g4 HW N4 HV p0 p1 p2 p3
          go_wp2_with fail
          refine HA.out.mono ?_
          rintro e w5 ⟨rfl, g5⟩
          have D5 := Lib.hid g5
          clear g5 HA
          go_wp2_with fail
          go_ret
          refine ⟨?_, D5.out⟩
          first | rfl | (show Ending.returned (.bool (!decide (v ≤ b))) = _; rw [decide_eq_false (by omega)]; rfl)
      · have HV : Hid (Lm.gr c v = false) := Lib.hid (by rw [HD.out]; exact decide_eq_false fun h => ha h.1)
        clear HD
        go_wp2_with fail
        refine HW.out.mono ?_
        rintro e w4 ⟨rfl, g4⟩
        rw [HV.out]
        have N4 := hN.out.under g4
        have HA := Lib.hid (awake_from w4 (HE.out.under N4.below) N4.below)
        clear g4 HW N4 HV p0 p1 p2 p3
        go_wp2_with fail
        refine HA.out.mono ?_
        rintro e w5 ⟨rfl, g5⟩
        have D5 := Lib.hid g5
        clear g5 HA
        go_wp2_with fail
        go_ret
        exact ⟨rfl, D5.out⟩
end Go.Proofs.YtngbjccfmglbaaaDoor
