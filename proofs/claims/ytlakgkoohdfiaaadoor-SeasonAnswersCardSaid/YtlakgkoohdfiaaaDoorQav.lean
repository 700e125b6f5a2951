/- Texts of this proof. -/
import Derived.Test.YtlakgkoohdfiaaaDoorQat
import Derived.Test.YtlakgkoohdfiaaaDoorQas
import Derived.Test.YtlakgkoohdfiaaaDoorQau
import Derived.Test.YtlakgkoohdfiaaaDoorQaw
namespace Go.Proofs.YtlakgkoohdfiaaaDoor
open Go.RowKit

/-- The reference's normal place, whatever the place. -/
theorem refNrm (F A B C : Int) : ∃ nF nA nB nC en : Int, ((en = 0 ∧ Pl.vb F A B C = true ∧ nF = ((Pl.Ico.nf F.toNat A B C : Nat) : Int)) ∨ (en = 1 ∧ ¬ Pl.vb F A B C = true)) ∧
    ∀ w, Calls Tryd.prog 62 #[.agg #[.int .i64 F, .int .i64 A, .int .i64 B, .int .i64 C]] w fun e w' => e = .returned (.tuple #[.agg #[.int .i64 nF, .int .i64 nA, .int .i64 nB, .int .i64 nC], .int .i64 en]) ∧ Below w.heap.size w w' := by
  cases hv : Pl.vb F A B C with
  | false => exact ⟨0, 0, 0, 0, 1, .inr ⟨rfl, by simp⟩, fun w => Pl.refNormal_no F A B C w hv⟩
  | true =>
    obtain ⟨f, rfl, hV⟩ := Pl.vb_to hv
    exact ⟨_, _, _, _, 0, .inl ⟨rfl, rfl, rfl⟩, fun w => Pl.refNormal_yes f A B C w hV⟩
/-- The reference's date, whatever the minute. -/
theorem refDt (t : Int) : ∃ cy mo cd ch ci et : Int, ((et = 0 ∧ Ck.Cal.rng t = true ∧ mo = mth t) ∨ (et = 1 ∧ ¬ Ck.Cal.rng t = true)) ∧
    ∀ w, Calls Tryd.prog 65 #[.int .i64 t] w fun e w' => e = .returned (.tuple #[.agg #[.int .i64 cy, .int .i64 mo, .int .i64 cd, .int .i64 ch, .int .i64 ci], .int .i64 et]) ∧ Below w.heap.size w w' := by
  cases hr : Ck.Cal.rng t with
  | false => exact ⟨0, 0, 0, 0, 0, 1, .inr ⟨rfl, by simp⟩, fun w => Ck.refDate_no t w hr⟩
  | true =>
    have hr' : 0 ≤ t ∧ t ≤ 52595999 := by unfold Ck.Cal.rng at hr; simpa using hr
    obtain ⟨y, m, d, hh, i, hc, hn, -⟩ := Ck.Cal.num_of t hr'.1 hr'.2
    exact ⟨y, m, d, hh, i, 0, .inl ⟨rfl, rfl, (mth_eq hc hn).symm⟩, fun w => Ck.refDate_yes t y m d hh i w hn hc⟩
theorem key_cases (n0 n1 n2 c F m : Int) : (n0 = c ∧ n1 = F ∧ n2 = m) ∨ (¬ n0 = c) ∨ (n0 = c ∧ ¬ n1 = F) ∨ (n0 = c ∧ n1 = F ∧ ¬ n2 = m) := by
  by_cases h0 : n0 = c <;> by_cases h1 : n1 = F <;> by_cases h2 : n2 = m <;> simp [h0, h1, h2]
set_option maxRecDepth 100000 in
set_option maxHeartbeats 4000000 in
theorem refLookup_any (v : Value) (N : List Cm.N5) (code F A B C t : Int) (w : World) (hN : NrIn w v N) (hE : Env w) :
    Calls Tryd.prog 27 #[clV v, .int .i64 code, .agg #[.int .i64 F, .int .i64 A, .int .i64 B, .int .i64 C], .int .i64 t] w fun e w' => e = .returned (.tuple #[nV (lkpR N code (fam F A B C t)).1, .int .i64 (lkpR N code (fam F A B C t)).2]) ∧ Below w.heap.size w w' := by
  obtain ⟨r, hr⟩ : ∃ r, lkpR N code (fam F A B C t) = r := ⟨_, rfl⟩
  have HR := Lib.hid hr
  rw [hr]
  clear hr
  have I0 : Lu w w.heap.size (w.heap.size + 1) (w.heap.size + 1 + 1) v N F A B C (((w.alloc (.cells #[v] 24)).alloc (.cells #[.int .i64 F, .int .i64 A, .int .i64 B, .int .i64 C] 27)).alloc (.cells #[.int .i64 0, .int .i64 0, .int .i64 0, .int .i64 0, .int .i64 0] 50)) := by
    have b1 := (Below.refl w.heap.size w).alloc (Nat.le_refl _) (.cells #[v] 24)
    have b2 := b1.alloc b1.size (.cells #[.int .i64 F, .int .i64 A, .int .i64 B, .int .i64 C] 27)
    have b3 := b2.alloc b2.size (.cells #[.int .i64 0, .int .i64 0, .int .i64 0, .int .i64 0, .int .i64 0] 50)
    exact ⟨b3, ((Row.new _ _ _).alloc _).alloc _, (Row.newAt (by simp)).alloc _, Row.newAt (by simp), hN.under b3, hE.under b3, by omega⟩
  obtain ⟨V, cap, rfl, h1, h2, -⟩ := id hN
  clear hN hE
  go_enter Tryd.func27, Tryd.ntmps27
  go_upto_region 1 with fail
  refine forget (Lu w w.heap.size (w.heap.size + 1) (w.heap.size + 1 + 1) (.slice V N.length cap) N F A B C) I0 ?_
  clear I0
  obtain ⟨gb, hgb⟩ : ∃ g, w.heap.size = g := ⟨_, rfl⟩
  obtain ⟨gp, hgp⟩ : ∃ g, w.heap.size + 1 = g := ⟨_, rfl⟩
  obtain ⟨gr, hgr⟩ : ∃ g, w.heap.size + 1 + 1 = g := ⟨_, rfl⟩
  rw [hgr, hgp]
  intro Y hI
  have HI : Hid (Lu w gb gp gr (.slice V N.length cap) N F A B C Y) := Lib.hid (by rw [← hgb]; exact hI)
  rw [hgb]
  clear hI hgp hgr hgb
  have q0 := (HI.out.cl.cell 0).trans rfl
  have HV := Lib.hid (refValidateN_any _ N Y HI.out.nr)
  obtain ⟨z, hz⟩ : ∃ z, Cm.vldN N = z := ⟨_, rfl⟩
  have HZ := Lib.hid hz
  rw [hz] at HV
  clear hz
  go_wp2_with fail
  refine HV.out.mono ?_
  rintro e w1 ⟨rfl, g1⟩
  have I1 := Lib.hid (HI.out.under g1)
  clear g1 HI HV q0
  by_cases h0 : z = 0
  · subst h0
    obtain ⟨nF, nA, nB, nC, en, hen, hNm⟩ := refNrm F A B C
    obtain ⟨cy, mo, cd, ch, ci, et, het, hDt⟩ := refDt t
    have HNm := Lib.hid hNm
    have HDt := Lib.hid hDt
    have HEn := Lib.hid hen
    have HEt := Lib.hid het
    clear hNm hDt hen het
    go_upto_region 4 with fail
    obtain ⟨p0, p1, p2, p3⟩ := row4 I1.out.pl
    go_wp2_with fail
    refine (HNm.out _).mono ?_
    rintro e w2 ⟨rfl, g2⟩
    have b3 := (Below.refl w2.heap.size w2).alloc (Nat.le_refl _) (.cells #[.int .i64 nF, .int .i64 nA, .int .i64 nB, .int .i64 nC] 27)
    have I2 : Hid (Lu w gb gp gr (.slice V N.length cap) N F A B C (w2.alloc (.cells #[.int .i64 nF, .int .i64 nA, .int .i64 nB, .int .i64 nC] 27)) ∧ Row (w2.alloc (.cells #[.int .i64 nF, .int .i64 nA, .int .i64 nB, .int .i64 nC] 27)) w2.heap.size 27 #[.int .i64 nF, .int .i64 nA, .int .i64 nB, .int .i64 nC]) := Lib.hid ⟨(I1.out.under g2).under b3, Row.new _ _ _⟩
    clear g2 b3 I1 p0 p1 p2 p3 HNm
    go_upto_region 5 with fail
    refine forget (fun Y => Hid (Lu w gb gp gr (.slice V N.length cap) N F A B C Y ∧ Row Y w2.heap.size 27 #[.int .i64 nF, .int .i64 nA, .int .i64 nB, .int .i64 nC])) I2 ?_
    clear I2
    generalize w2.heap.size = gq at *
    rintro Y2 I2
    go_wp2_with fail
    refine (HDt.out _).mono ?_
    rintro e w3 ⟨rfl, g3⟩
    have b3 := (Below.refl w3.heap.size w3).alloc (Nat.le_refl _) (.cells #[.int .i64 cy, .int .i64 mo, .int .i64 cd, .int .i64 ch, .int .i64 ci] 113)
    have I3 : Hid (Lu w gb gp gr (.slice V N.length cap) N F A B C (w3.alloc (.cells #[.int .i64 cy, .int .i64 mo, .int .i64 cd, .int .i64 ch, .int .i64 ci] 113)) ∧ Row (w3.alloc (.cells #[.int .i64 cy, .int .i64 mo, .int .i64 cd, .int .i64 ch, .int .i64 ci] 113)) gq 27 #[.int .i64 nF, .int .i64 nA, .int .i64 nB, .int .i64 nC] ∧ Row (w3.alloc (.cells #[.int .i64 cy, .int .i64 mo, .int .i64 cd, .int .i64 ch, .int .i64 ci] 113)) w3.heap.size 113 #[.int .i64 cy, .int .i64 mo, .int .i64 cd, .int .i64 ch, .int .i64 ci]) := Lib.hid ⟨(I2.out.1.under g3).under b3, (I2.out.2.under g3).under b3, Row.new _ _ _⟩
    clear g3 b3 I2 HDt
    go_upto_region 6 with fail
    refine forget (fun Y => Hid (Lu w gb gp gr (.slice V N.length cap) N F A B C Y ∧ Row Y gq 27 #[.int .i64 nF, .int .i64 nA, .int .i64 nB, .int .i64 nC] ∧ Row Y w3.heap.size 113 #[.int .i64 cy, .int .i64 mo, .int .i64 cd, .int .i64 ch, .int .i64 ci])) I3 ?_
    clear I3
    generalize w3.heap.size = gd at *
    rintro Y3 I3
    have hcase : (en = 0 ∧ et = 0 ∧ fam F A B C t = (nF, mo, 0)) ∨ (¬ en = 0 ∧ fam F A B C t = (0, 0, 1)) ∨ (en = 0 ∧ ¬ et = 0 ∧ fam F A B C t = (0, 0, 1)) := by
      rcases HEn.out with ⟨e1, hv, e2⟩ | ⟨e1, hv⟩
      · rcases HEt.out with ⟨e3, hr, e4⟩ | ⟨e3, hr⟩
        · exact .inl ⟨e1, e3, by unfold fam; rw [if_pos ⟨hv, hr⟩, e2, e4]⟩
        · exact .inr (.inr ⟨e1, by omega, by unfold fam; rw [if_neg (fun h => hr h.2)]⟩)
      · exact .inr (.inl ⟨by omega, by unfold fam; rw [if_neg (fun h => hv h.1)]⟩)
    clear HEn HEt
    rcases hcase with ⟨rfl, rfl, hfm⟩ | ⟨he, hfm⟩ | ⟨rfl, he, hfm⟩
    · rw [hfm] at HR
      have HRz : Hid (r = ((Cm.fndN N (code, nF, mo)).getD (0, 0, 0, 0, 0), if (Cm.fndN N (code, nF, mo)).isSome then 0 else 9)) := Lib.hid (by rw [← HR.out]; unfold lkpR; rw [HZ.out, if_pos rfl]; rfl)
      obtain ⟨hlen, -, hasc⟩ := Cm.vldN_ok HZ.out
      have HA := Lib.hid hasc
      have q0 := (I3.out.1.cl.cell 0).trans rfl
      clear hasc hfm
      go_wp2_with fail
      clear q0
      go_loopw [43] (fun t' wr => ∃ i : Nat, i ≤ N.length ∧ t' = .int .i64 (i : Int) ∧ Hid (∀ j, ∀ h : j < N.length, j < i → Cm.key N[j] ≠ (code, nF, mo)) ∧ Hid (Lu w gb gp gr (.slice V N.length cap) N F A B C wr ∧ Row wr gq 27 #[.int .i64 nF, .int .i64 nA, .int .i64 nB, .int .i64 nC] ∧ Row wr gd 113 #[.int .i64 cy, .int .i64 mo, .int .i64 cd, .int .i64 ch, .int .i64 ci])) (fun t' _ => N.length - (intOf t').toNat)
      case atStart => exact ⟨0, Nat.zero_le _, rfl, Lib.hid (fun j _ h => by omega), I3⟩
      case round =>
        clear I3
        obtain ⟨i, hi, rfl, HT, I3⟩ := hrel
        by_cases hlt : i < N.length
        · obtain ⟨g, off, hV, hgl, a0, a1, a2, a3, a4⟩ := I3.out.1.nr.at hlt
          subst hV
          have k1 : (0 : Int) ≤ (i : Int) := by omega
          have k2 : (i : Int) < (N.length : Int) := by omega
          have HHit := Lib.hid (fun (h : Cm.key N[i] = (code, nF, mo)) => Cm.fndN_at HA.out hlt h)
          have HMis := Lib.hid (show Cm.key N[i] ≠ (code, nF, mo) → (∀ j, ∀ h : j < N.length, j < i + 1 → Cm.key N[j] ≠ (code, nF, mo)) from fun hne j hj hji => by
            rcases (by omega : j < i ∨ j = i) with q | rfl
            · exact HT.out j hj q
            · exact hne)
          clear HT
          generalize N[i] = n at *
          obtain ⟨n0, n1, n2, n3, n4⟩ := n
          simp only at a0 a1 a2 a3 a4
          have b3 := (Below.refl wr.heap.size wr).alloc (Nat.le_refl _) (.cells #[.int .i64 n0, .int .i64 n1, .int .i64 n2, .int .i64 n3, .int .i64 n4] 50)
          have I4 : Hid ((Lu w gb gp gr (.slice (some ⟨g, off, none⟩) N.length cap) N F A B C (wr.alloc (.cells #[.int .i64 n0, .int .i64 n1, .int .i64 n2, .int .i64 n3, .int .i64 n4] 50)) ∧ Row (wr.alloc (.cells #[.int .i64 n0, .int .i64 n1, .int .i64 n2, .int .i64 n3, .int .i64 n4] 50)) gq 27 #[.int .i64 nF, .int .i64 nA, .int .i64 nB, .int .i64 nC] ∧ Row (wr.alloc (.cells #[.int .i64 n0, .int .i64 n1, .int .i64 n2, .int .i64 n3, .int .i64 n4] 50)) gd 113 #[.int .i64 cy, .int .i64 mo, .int .i64 cd, .int .i64 ch, .int .i64 ci]) ∧ Row (wr.alloc (.cells #[.int .i64 n0, .int .i64 n1, .int .i64 n2, .int .i64 n3, .int .i64 n4] 50)) wr.heap.size 50 #[.int .i64 n0, .int .i64 n1, .int .i64 n2, .int .i64 n3, .int .i64 n4]) := Lib.hid ⟨⟨I3.out.1.under b3, I3.out.2.1.under b3, I3.out.2.2.under b3⟩, Row.new _ _ _⟩
          clear b3 I3
          go_upto_region 11 with fail
          refine forget (fun Y => Hid ((Lu w gb gp gr (.slice (some ⟨g, off, none⟩) N.length cap) N F A B C  Y ∧ Row Y gq 27 #[.int .i64 nF, .int .i64 nA, .int .i64 nB, .int .i64 nC] ∧ Row Y gd 113 #[.int .i64 cy, .int .i64 mo, .int .i64 cd, .int .i64 ch, .int .i64 ci]) ∧ Row Y wr.heap.size 50 #[.int .i64 n0, .int .i64 n1, .int .i64 n2, .int .i64 n3, .int .i64 n4])) I4 ?_
          clear I4 a0 a1 a2 a3 a4
          generalize wr.heap.size = gn at *
          rintro Y4 I4
          obtain ⟨a0, a1, a2, a3, a4⟩ := row5 I4.out.2
          have p0 := (I4.out.1.2.1.cell 0).trans rfl
          have p1 := (I4.out.1.2.2.cell 1).trans rfl
          have I5 := Lib.hid I4.out.1
          clear I4
          rcases key_cases n0 n1 n2 code nF mo with ⟨rfl, rfl, rfl⟩ | h | ⟨rfl, h⟩ | ⟨rfl, rfl, h⟩
          · have HRy : Hid (r = ((n0, n1, n2, n3, n4), 0)) := Lib.hid (by rw [HRz.out, HHit.out rfl]; rfl)
            clear HHit HMis HRz
            have f0 := I5.out.1.res.thaw 0
            have f1 := I5.out.1.res.thaw 1
            have f2 := I5.out.1.res.thaw 2
            have f3 := I5.out.1.res.thaw 3
            have f4 := I5.out.1.res.thaw 4
            obtain ⟨y0, y1, y2, y3, y4⟩ := row5 I5.out.1.res
            have HX := Lib.hid (I5.out.1.fin (.int .i64 n0) (.int .i64 n1) (.int .i64 n2) (.int .i64 n3) (.int .i64 n4))
            go_wp2_with fail
            exact bodyPost_ret (v := .tuple #[.agg #[.int .i64 n0, .int .i64 n1, .int .i64 n2, .int .i64 n3, .int .i64 n4], .int .i64 0]) (by obtain ⟨z0, z1, z2, z3, z4⟩ := row5 HX.out.1; simp [results, Tryd.results27, z0, z1, z2, z3, z4, go_sem]) rfl ⟨by rw [HRy.out], HX.out.2⟩
          · have HT2 := Lib.hid (HMis.out (fun e => by unfold Cm.key at e; simp only [Prod.mk.injEq] at e; omega))
            clear HHit HMis
            go_wp2_with fail
            go_roundw
            case rel => exact ⟨i + 1, by omega, by go_num, HT2, I5⟩
            case measure => simp [intOf]; omega
          · have HT2 := Lib.hid (HMis.out (fun e => by unfold Cm.key at e; simp only [Prod.mk.injEq] at e; omega))
            clear HHit HMis
            go_wp2_with fail
            go_roundw
            case rel => exact ⟨i + 1, by omega, by go_num, HT2, I5⟩
            case measure => simp [intOf]; omega
          · have HT2 := Lib.hid (HMis.out (fun e => by unfold Cm.key at e; simp only [Prod.mk.injEq] at e; omega))
            clear HHit HMis
            go_wp2_with fail
            go_roundw
            case rel => exact ⟨i + 1, by omega, by go_num, HT2, I5⟩
            case measure => simp [intOf]; omega
        · obtain rfl : i = N.length := by omega
          have k1 : ¬ (N.length : Int) < (N.length : Int) := by omega
          have HRy : Hid (r = ((0, 0, 0, 0, 0), 9)) := Lib.hid (by rw [HRz.out, show Cm.fndN N (code, nF, mo) = none from Cm.fndN_none (fun j hj => HT.out j hj hj)]; rfl)
          clear HT HRz
          have f0 := I3.out.1.res.thaw 0
          have f1 := I3.out.1.res.thaw 1
          have f2 := I3.out.1.res.thaw 2
          have f3 := I3.out.1.res.thaw 3
          have f4 := I3.out.1.res.thaw 4
          obtain ⟨y0, y1, y2, y3, y4⟩ := row5 I3.out.1.res
          have HX := Lib.hid (I3.out.1.fin (.int .i64 0) (.int .i64 0) (.int .i64 0) (.int .i64 0) (.int .i64 0))
          go_wp2_with fail
          exact bodyPost_ret (v := .tuple #[.agg #[.int .i64 0, .int .i64 0, .int .i64 0, .int .i64 0, .int .i64 0], .int .i64 9]) (by obtain ⟨z0, z1, z2, z3, z4⟩ := row5 HX.out.1; simp [results, Tryd.results27, z0, z1, z2, z3, z4, go_sem]) rfl ⟨by rw [HRy.out], HX.out.2⟩
    · have k0 : (en != 0) = true := by rw [bne_iff_ne]; exact he
      rw [hfm] at HR
      have HRy : Hid (r = ((0, 0, 0, 0, 0), 1)) := Lib.hid (by rw [← HR.out]; unfold lkpR; rw [HZ.out, if_pos rfl]; rfl)
      clear he hfm
      have f0 := I3.out.1.res.thaw 0
      have f1 := I3.out.1.res.thaw 1
      have f2 := I3.out.1.res.thaw 2
      have f3 := I3.out.1.res.thaw 3
      have f4 := I3.out.1.res.thaw 4
      obtain ⟨y0, y1, y2, y3, y4⟩ := row5 I3.out.1.res
      have HX := Lib.hid (I3.out.1.fin (.int .i64 0) (.int .i64 0) (.int .i64 0) (.int .i64 0) (.int .i64 0))
      go_wp2_with fail
      exact bodyPost_ret (v := .tuple #[.agg #[.int .i64 0, .int .i64 0, .int .i64 0, .int .i64 0, .int .i64 0], .int .i64 1]) (by obtain ⟨z0, z1, z2, z3, z4⟩ := row5 HX.out.1; simp [results, Tryd.results27, z0, z1, z2, z3, z4, go_sem]) rfl ⟨by rw [HRy.out], HX.out.2⟩
    · have k0 : (et != 0) = true := by rw [bne_iff_ne]; exact he
      rw [hfm] at HR
      have HRy : Hid (r = ((0, 0, 0, 0, 0), 1)) := Lib.hid (by rw [← HR.out]; unfold lkpR; rw [HZ.out, if_pos rfl]; rfl)
      clear he hfm
      have f0 := I3.out.1.res.thaw 0
      have f1 := I3.out.1.res.thaw 1
      have f2 := I3.out.1.res.thaw 2
      have f3 := I3.out.1.res.thaw 3
      have f4 := I3.out.1.res.thaw 4
      obtain ⟨y0, y1, y2, y3, y4⟩ := row5 I3.out.1.res
      have HX := Lib.hid (I3.out.1.fin (.int .i64 0) (.int .i64 0) (.int .i64 0) (.int .i64 0) (.int .i64 0))
      go_wp2_with fail
      exact bodyPost_ret (v := .tuple #[.agg #[.int .i64 0, .int .i64 0, .int .i64 0, .int .i64 0, .int .i64 0], .int .i64 1]) (by obtain ⟨z0, z1, z2, z3, z4⟩ := row5 HX.out.1; simp [results, Tryd.results27, z0, z1, z2, z3, z4, go_sem]) rfl ⟨by rw [HRy.out], HX.out.2⟩
  · have k0 : (z != 0) = true := by rw [bne_iff_ne]; exact h0
    have HRz : Hid (r = ((0, 0, 0, 0, 0), z)) := Lib.hid (by rw [← HR.out]; unfold lkpR; rw [HZ.out, if_neg h0])
    have f0 := I1.out.res.thaw 0
    have f1 := I1.out.res.thaw 1
    have f2 := I1.out.res.thaw 2
    have f3 := I1.out.res.thaw 3
    have f4 := I1.out.res.thaw 4
    obtain ⟨q0, q1, q2, q3, q4⟩ := row5 I1.out.res
    have HX := Lib.hid (I1.out.fin (.int .i64 0) (.int .i64 0) (.int .i64 0) (.int .i64 0) (.int .i64 0))
    clear h0
    go_wp2_with fail
    exact bodyPost_ret (v := .tuple #[.agg #[.int .i64 0, .int .i64 0, .int .i64 0, .int .i64 0, .int .i64 0], .int .i64 z]) (by obtain ⟨z0, z1, z2, z3, z4⟩ := row5 HX.out.1; simp [results, Tryd.results27, z0, z1, z2, z3, z4, go_sem]) rfl ⟨by rw [HRz.out], HX.out.2⟩
end Go.Proofs.YtlakgkoohdfiaaaDoor

namespace Go.Proofs.YtlakgkoohdfiaaaDoor
open Go.RowKit

set_option maxRecDepth 100000 in
set_option maxHeartbeats 4000000 in
theorem refCheck_any (v : Value) (N : List Cm.N5) (k : Int) (nm : ByteArray) (t F A B C : Int) (u : Value) (L : List El.Elt.R) (w : World) (hN : NrIn w v N) (hL : El.RdIn w u L) (hE : Env w) :
    Calls Tryd.prog 34 #[clV v, repV k nm t F A B C u] w (ChkS w (valS N L (fam F A B C t)) (chkJ N L (fam F A B C t))) := by
  have I0 : Hid (Sv w w.heap.size (w.heap.size + 1) v N k nm t F A B C u L ((w.alloc (.cells #[v] 24)).alloc (.cells (repC k nm t F A B C u) 38))) := Lib.hid (Sv.start w v u N k t F A B C nm L hN hL hE)
  obtain ⟨i1, hi', hy0, hy1, hy2⟩ := info_parts infoIntC
  have HN0 := Lib.hid hN
  have HL0 := Lib.hid hL
  have HE0 := Lib.hid hE
  obtain ⟨V, cap, rfl, -⟩ := id hN
  obtain ⟨U, cu, rfl, -⟩ := id hL
  obtain ⟨s, hs⟩ : ∃ s, valS N L (fam F A B C t) = s := ⟨_, rfl⟩
  obtain ⟨D, hd⟩ : ∃ s, chkJ N L (fam F A B C t) = s := ⟨_, rfl⟩
  have HS := Lib.hid hs
  have HD := Lib.hid hd
  rw [hs, hd]
  clear hN hL hE hs hd
  go_enter Tryd.func34, Tryd.ntmps34
  go_upto_region 1 with fail
  refine forget (fun Y => Hid (Sv w w.heap.size (w.heap.size + 1) (.slice V N.length cap) N k nm t F A B C (.slice U L.length cu) L Y)) I0 ?_
  clear I0
  obtain ⟨gp, hgp⟩ : ∃ g, w.heap.size + 1 = g := ⟨_, rfl⟩
  obtain ⟨gb, hgb⟩ : ∃ g, w.heap.size = g := ⟨_, rfl⟩
  rw [hgp, hgb]
  clear hgp hgb
  rintro Y HI
  have q8 := (HI.out.cl.cell 0).trans rfl
  obtain ⟨q0, q1, q2, q3, q4, q5, q6, q7⟩ := row8 HI.out.rp
  have HV := Lib.hid (refValidateN_any _ N Y HI.out.nr)
  obtain ⟨z, hz⟩ : ∃ z, Cm.vldN N = z := ⟨_, rfl⟩
  have HZ := Lib.hid hz
  rw [hz] at HV
  clear hz
  go_wp2_with fail
  refine HV.out.mono ?_
  rintro e w1 ⟨rfl, g1⟩
  have I1 := Lib.hid (HI.out.under g1)
  clear g1 HI HV q0 q1 q2 q3 q4 q5 q6 q7 q8
  by_cases hz0 : z = 0
  · subst hz0
    obtain ⟨q0, q1, q2, q3, q4, q5, q6, q7⟩ := row8 I1.out.rp
    have HW := Lib.hid (El.refValidate_any _ L w1 I1.out.rd)
    obtain ⟨y, hy⟩ : ∃ z, El.Elt.vld L = z := ⟨_, rfl⟩
    have HY := Lib.hid hy
    rw [hy] at HW
    clear hy
    go_wp2_with fail
    refine HW.out.mono ?_
    rintro e w2 ⟨rfl, g2⟩
    have I2 := Lib.hid (I1.out.under g2)
    clear g2 I1 HW q0 q1 q2 q3 q4 q5 q6 q7
    by_cases hy0' : y = 0
    · subst hy0'
      obtain ⟨q0, q1, q2, q3, q4, q5, q6, q7⟩ := row8 I2.out.rp
      have hcase : (Pl.vb F A B C = true ∧ Ck.Cal.rng t = true ∧ s = 0) ∨ (Pl.vb F A B C = false ∧ s = 1 ∧ D = []) ∨ (Pl.vb F A B C = true ∧ Ck.Cal.rng t = false ∧ s = 1 ∧ D = []) := by
        have hs : s = (fam F A B C t).2.2 := by rw [← HS.out]; unfold valS; rw [if_pos HZ.out, if_pos HY.out]
        have hd : ¬ s = 0 → D = [] := fun h => by rw [← HD.out]; unfold chkJ; rw [HS.out, if_neg h]
        unfold fam at hs
        cases hv : Pl.vb F A B C <;> cases hr : Ck.Cal.rng t <;> rw [hv, hr] at hs <;> simp at hs <;> subst hs <;> simp_all
      have HPv := Lib.hid (Pl.refValid_any F A B C w2)
      rcases hcase with ⟨hv, hr, rfl⟩ | ⟨hv, rfl, hd⟩ | ⟨hv, hr, rfl, hd⟩
      · rw [hv] at HPv
        have HIn := Lib.hid (fun W => Ck.refIn_any t W)
        rw [hr] at HIn
        clear hv hr
        go_wp2_with fail
        refine HPv.out.mono ?_
        rintro e w3 ⟨rfl, g3⟩
        have I3 := Lib.hid (I2.out.under g3)
        clear g3 I2 HPv q0 q1 q2 q3 q4 q5 q6 q7
        obtain ⟨q0, q1, q2, q3, q4, q5, q6, q7⟩ := row8 I3.out.rp
        go_wp2_with fail
        refine (HIn.out _).mono ?_
        rintro e w4 ⟨rfl, rfl⟩
        have I1 := Lib.hid I3.out
        clear HIn I3 q0 q1 q2 q3 q4 q5 q6 q7 HY HZ
        obtain ⟨hv0, hv1, hv2⟩ := valS_ok HS.out
        obtain ⟨f, mo, er⟩ : Int × Int × Int := fam F A B C t
        have HFM : Hid (fam F A B C t = ((fam F A B C t).1, (fam F A B C t).2.1, 0)) := Lib.hid (by rw [← hv2])
        have HDD : Hid (D = rejL N (fam F A B C t).1 (fam F A B C t).2.1 L) := Lib.hid (by rw [← HD.out]; unfold chkJ; rw [if_pos HS.out])
        clear f mo er hv2 HD HS
        have HLk : Hid (∀ c (W : World), NrIn W (.slice V N.length cap) N → Env W → Calls Tryd.prog 27 #[clV (.slice V N.length cap), .int .i64 c, .agg #[.int .i64 F, .int .i64 A, .int .i64 B, .int .i64 C], .int .i64 t] W fun e w' => e = .returned (.tuple #[nV ((Cm.fndN N (c, (fam F A B C t).1, (fam F A B C t).2.1)).getD (0, 0, 0, 0, 0)), .int .i64 (if (Cm.fndN N (c, (fam F A B C t).1, (fam F A B C t).2.1)).isSome then 0 else 9)]) ∧ Below W.heap.size W w') := Lib.hid (fun c W h1 h2 => by
          have := refLookup_any (.slice V N.length cap) N c F A B C t W h1 h2
          rw [HFM.out, lkpR_yes hv0] at this
          exact this)
        generalize (fam F A B C t).1 = f at *
        generalize (fam F A B C t).2.1 = mo at *
        have hl11 := asc_le hv1 (vld_asc' hv1)
        have HV0 := Lib.hid hv0
        have HVv := Lib.hid (vld_vals hv1)
        clear hv0 hv1 HFM
        obtain ⟨q0, q1, q2, q3, q4, q5, q6, q7⟩ := row8 I1.out.rp
        have J0 : Hid (Sc w gb gp (.slice V N.length cap) N k nm t F A B C (.slice U L.length cu) L (.slice none 0 0) (rejL N f mo (L.take 0)) w3) := Lib.hid ⟨I1.out, own_none _ _⟩
        clear I1
        go_wp2_with fail
        go_loopw [8, 37] (fun o t' wr => ∃ i : Nat, i ≤ L.length ∧ t' = .int .i64 (i : Int) ∧ Hid (Sc w gb gp (.slice V N.length cap) N k nm t F A B C (.slice U L.length cu) L o (rejL N f mo (L.take i)) wr)) (fun _ t' _ => L.length - (intOf t').toNat)
        case atStart => exact ⟨0, Nat.zero_le _, rfl, J0⟩
        case round =>
          clear J0 q0 q1 q2 q3 q4 q5 q6 q7
          obtain ⟨i, hi, rfl, HJ⟩ := hrel
          by_cases hlt : i < L.length
          · obtain ⟨U', cu', e, -, -, hat⟩ := HJ.out.sv.rd
            injection e with e1 e2 e3
            subst e1
            obtain ⟨gu, off, rfl, hgl, c0, c1⟩ := hat i hlt
            have k0 : (0 : Int) ≤ (i : Int) := by omega
            have k1 : (i : Int) < (L.length : Int) := by omega
            have HRs := Lib.hid (rejL_snoc N f mo L i hlt)
            have hJl := rejL_take N f mo L i
            have hvb := El.Elt.val_bd (HVv.out _ (List.getElem_mem hlt))
            clear hat e3
            obtain ⟨J2, hJ2⟩ : ∃ q, rejL N f mo (L.take (i + 1)) = q := ⟨_, rfl⟩
            rw [hJ2] at HRs
            have HJ2 := Lib.hid hJ2
            clear hJ2
            generalize rejL N f mo (L.take i) = J at *
            generalize L[i] = x at *
            obtain ⟨xc, xv⟩ := x
            simp only at c0 c1 hvb
            obtain ⟨-, v1, v2, -⟩ := hvb
            obtain ⟨Ao, co, rfl⟩ := row_form HJ.out.own
            have b1 := (Below.refl wr.heap.size wr).alloc (Nat.le_refl _) (.cells #[.int .i64 xc, .int .i64 xv] 81)
            have I1 : Hid (Sc w gb gp (.slice V N.length cap) N k nm t F A B C (.slice (some ⟨gu, off, none⟩) L.length cu) L (.slice Ao J.length co) J (wr.alloc (.cells #[.int .i64 xc, .int .i64 xv] 81)) ∧ Row (wr.alloc (.cells #[.int .i64 xc, .int .i64 xv] 81)) wr.heap.size 81 #[.int .i64 xc, .int .i64 xv]) := Lib.hid ⟨HJ.out.under b1, Row.new _ _ _⟩
            clear b1 HJ
            go_upto_region 13 with fail
            refine forget (fun Y => Hid (Sc w gb gp (.slice V N.length cap) N k nm t F A B C (.slice (some ⟨gu, off, none⟩) L.length cu) L (.slice Ao J.length co) J Y ∧ Row Y wr.heap.size 81 #[.int .i64 xc, .int .i64 xv])) I1 ?_
            clear I1 c0 c1
            generalize wr.heap.size = gx at *
            rintro Y2 H2
            obtain ⟨x0, x1⟩ := row2 H2.out.2
            have q8 := (H2.out.1.sv.cl.cell 0).trans rfl
            obtain ⟨q0, q1, q2, q3, q4, q5, q6, q7⟩ := row8 H2.out.1.sv.rp
            have hkey : ∃ n er, (Cm.fndN N (xc, f, mo)).getD (0, 0, 0, 0, 0) = n ∧ (if (Cm.fndN N (xc, f, mo)).isSome = true then (0 : Int) else 9) = er ∧ ((er = 9 ∧ rej1 N f mo (xc, xv) = false) ∨ (er = 0 ∧ ((-20000 ≤ n.2.2.2.1 ∧ n.2.2.2.1 ≤ 20000) ∧ 0 ≤ n.2.2.2.2 ∧ n.2.2.2.2 ≤ 20000) ∧ rej1 N f mo (xc, xv) = farN n xv)) := by
              refine ⟨_, _, rfl, rfl, ?_⟩
              unfold rej1
              dsimp only
              cases hf : Cm.fndN N (xc, f, mo) with
              | none => exact .inl ⟨rfl, rfl⟩
              | some n => exact .inr ⟨rfl, fnd_ok HV0.out hf, rfl⟩
            obtain ⟨n, er, hn, her, hcs⟩ := hkey
            have HLx := HLk.out xc _ H2.out.1.sv.nr H2.out.1.sv.env
            rw [hn, her] at HLx
            have HLX := Lib.hid HLx
            clear HLx hn her
            go_wp2_with fail
            refine HLX.out.mono ?_
            rintro e w3 ⟨rfl, g3⟩
            have H3 := Lib.hid (And.intro (H2.out.1.under g3) (H2.out.2.under g3))
            have b4 := (Below.refl w3.heap.size w3).alloc (Nat.le_refl _) (.cells #[.int .i64 n.1, .int .i64 n.2.1, .int .i64 n.2.2.1, .int .i64 n.2.2.2.1, .int .i64 n.2.2.2.2] 50)
            have H4 : Hid ((Sc w gb gp (.slice V N.length cap) N k nm t F A B C (.slice (some ⟨gu, off, none⟩) L.length cu) L (.slice Ao J.length co) J (w3.alloc (.cells #[.int .i64 n.1, .int .i64 n.2.1, .int .i64 n.2.2.1, .int .i64 n.2.2.2.1, .int .i64 n.2.2.2.2] 50)) ∧ Row (w3.alloc (.cells #[.int .i64 n.1, .int .i64 n.2.1, .int .i64 n.2.2.1, .int .i64 n.2.2.2.1, .int .i64 n.2.2.2.2] 50)) gx 81 #[.int .i64 xc, .int .i64 xv]) ∧ Row (w3.alloc (.cells #[.int .i64 n.1, .int .i64 n.2.1, .int .i64 n.2.2.1, .int .i64 n.2.2.2.1, .int .i64 n.2.2.2.2] 50)) w3.heap.size 50 #[.int .i64 n.1, .int .i64 n.2.1, .int .i64 n.2.2.1, .int .i64 n.2.2.2.1, .int .i64 n.2.2.2.2]) := Lib.hid ⟨⟨H3.out.1.under b4, H3.out.2.under b4⟩, Row.new _ _ _⟩
            clear g3 b4 H2 H3 HLX x0 x1 q0 q1 q2 q3 q4 q5 q6 q7 q8
            go_upto_region 14 with fail
            refine forget (fun Y => Hid ((Sc w gb gp (.slice V N.length cap) N k nm t F A B C (.slice (some ⟨gu, off, none⟩) L.length cu) L (.slice Ao J.length co) J Y ∧ Row Y gx 81 #[.int .i64 xc, .int .i64 xv]) ∧ Row Y w3.heap.size 50 #[.int .i64 n.1, .int .i64 n.2.1, .int .i64 n.2.2.1, .int .i64 n.2.2.2.1, .int .i64 n.2.2.2.2])) H4 ?_
            clear H4
            generalize w3.heap.size = gn at *
            rintro Y4 H4
            rcases hcs with ⟨rfl, hr⟩ | ⟨rfl, ⟨hb1, hb2⟩, hr⟩
            · have HR2 : Hid (J2 = J) := Lib.hid (by rw [HRs.out, hr]; simp)
              clear hr
              go_wp2_with fail
              go_roundw
              case rel => exact ⟨i + 1, by omega, by go_num, by rw [HJ2.out, HR2.out]; exact Lib.hid H4.out.1.1⟩
              case measure => simp [intOf]; omega
            · obtain ⟨x0, x1⟩ := row2 H4.out.1.2
              obtain ⟨y0, y1, y2, y3, y4⟩ := row5 H4.out.2
              obtain ⟨n0, n1, n2, mn, sp⟩ := n
              dsimp only at hb1 hb2 hr y0 y1 y2 y3 y4
              obtain ⟨b1, b2⟩ := hb1
              obtain ⟨b3, b4⟩ := hb2
              have H5 := Lib.hid H4.out.1
              clear H4
              have h3c : (sp < xv - mn ∧ rej1 N f mo (xc, xv) = true) ∨ (¬ sp < xv - mn ∧ sp < mn - xv ∧ rej1 N f mo (xc, xv) = true) ∨ (¬ sp < xv - mn ∧ ¬ sp < mn - xv ∧ rej1 N f mo (xc, xv) = false) := by
                rw [hr]
                unfold farN
                dsimp only
                by_cases h1 : sp < xv - mn
                · exact .inl ⟨h1, by simp; omega⟩
                · by_cases h2 : sp < mn - xv
                  · exact .inr (.inl ⟨h1, h2, by simp; omega⟩)
                  · exact .inr (.inr ⟨h1, h2, by simp; omega⟩)
              clear hr
              rcases h3c with ⟨h1, hr⟩ | ⟨h1, h2, hr⟩ | ⟨h1, h2, hr⟩
              · rw [hr] at HRs
                clear hr
                have HR2 : Hid (J2 = J ++ [xc]) := Lib.hid (by rw [HRs.out]; simp)
                clear HRs
                have HRW := Lib.hid (El.own_under H5.out.1.own ((Below.refl Y4.heap.size Y4).alloc (Nat.le_refl _) (.cells #[.int .i64 xc] 3)))
                have HC1 : Hid (∀ j z, [Value.int .i64 xc][j]? = some z → (Y4.alloc (.cells #[.int .i64 xc] 3)).cell? ((⟨Y4.heap.size, 0, none⟩ : Addr).add j) = some z) := Lib.hid (fun j z hz => by
                  have hj : j < 1 := (List.getElem?_eq_some_iff.1 hz).1
                  obtain rfl : j = 0 := by omega
                  rw [Addr.add_lit, Nat.zero_add, (Row.new Y4 #[.int .i64 xc] 3).cell 0, ← hz]; rfl)
                have hsz : w.heap.size ≤ Y4.heap.size := H5.out.1.sv.below.size
                go_wp2_with (at_builtin; refine wpList_append_own' rfl (.tmp 74) (.tmp 77) 28 rfl w.heap.size 3 i1 (.int .i64 0) 1 8 Tryd.underlying28 hi' hy0 hy1 hy2 rfl (by decide) (.slice Ao J.length co) J.length (nmc J) rfl HRW.out ⟨Y4.heap.size, 0, none⟩ 1 1 [.int .i64 xc] rfl rfl HC1.out (fun u hu => by simp only [List.mem_cons, List.not_mem_nil, or_false] at hu; subst hu; rfl) (by unfold maxLen; omega) (by omega) (Nat.le_trans hsz ((Below.refl _ _).alloc (Nat.le_refl _) _ : Below Y4.heap.size Y4 _).size) ?_; intro v' w9 ho' hg'; obtain ⟨A', cap', ev⟩ : ∃ A' cap', v' = .slice A' (J.length + 1) cap' := row_form ho'; subst ev)
                have H9 : Hid (Sc w gb gp (.slice V N.length cap) N k nm t F A B C (.slice (some ⟨gu, off, none⟩) L.length cu) L (.slice A' (J.length + 1) cap') (J ++ [xc]) w9) := Lib.hid (H5.out.1.app HN0.out HL0.out HE0.out hg' ho')
                clear ho' hg' H5 HRW HC1 hsz x0 x1 y0 y1 y2 y3 y4
                go_wp2_with fail
                go_roundw
                case rel => exact ⟨i + 1, by omega, by go_num, by rw [HJ2.out, HR2.out]; exact H9⟩
                case measure => simp [intOf]; omega
              · rw [hr] at HRs
                clear hr
                have HR2 : Hid (J2 = J ++ [xc]) := Lib.hid (by rw [HRs.out]; simp)
                clear HRs
                have HRW := Lib.hid (El.own_under H5.out.1.own ((Below.refl Y4.heap.size Y4).alloc (Nat.le_refl _) (.cells #[.int .i64 xc] 3)))
                have HC1 : Hid (∀ j z, [Value.int .i64 xc][j]? = some z → (Y4.alloc (.cells #[.int .i64 xc] 3)).cell? ((⟨Y4.heap.size, 0, none⟩ : Addr).add j) = some z) := Lib.hid (fun j z hz => by
                  have hj : j < 1 := (List.getElem?_eq_some_iff.1 hz).1
                  obtain rfl : j = 0 := by omega
                  rw [Addr.add_lit, Nat.zero_add, (Row.new Y4 #[.int .i64 xc] 3).cell 0, ← hz]; rfl)
                have hsz : w.heap.size ≤ Y4.heap.size := H5.out.1.sv.below.size
                go_wp2_with (at_builtin; refine wpList_append_own' rfl (.tmp 74) (.tmp 77) 28 rfl w.heap.size 3 i1 (.int .i64 0) 1 8 Tryd.underlying28 hi' hy0 hy1 hy2 rfl (by decide) (.slice Ao J.length co) J.length (nmc J) rfl HRW.out ⟨Y4.heap.size, 0, none⟩ 1 1 [.int .i64 xc] rfl rfl HC1.out (fun u hu => by simp only [List.mem_cons, List.not_mem_nil, or_false] at hu; subst hu; rfl) (by unfold maxLen; omega) (by omega) (Nat.le_trans hsz ((Below.refl _ _).alloc (Nat.le_refl _) _ : Below Y4.heap.size Y4 _).size) ?_; intro v' w9 ho' hg'; obtain ⟨A', cap', ev⟩ : ∃ A' cap', v' = .slice A' (J.length + 1) cap' := row_form ho'; subst ev)
                have H9 : Hid (Sc w gb gp (.slice V N.length cap) N k nm t F A B C (.slice (some ⟨gu, off, none⟩) L.length cu) L (.slice A' (J.length + 1) cap') (J ++ [xc]) w9) := Lib.hid (H5.out.1.app HN0.out HL0.out HE0.out hg' ho')
                clear ho' hg' H5 HRW HC1 hsz x0 x1 y0 y1 y2 y3 y4
                go_wp2_with fail
                go_roundw
                case rel => exact ⟨i + 1, by omega, by go_num, by rw [HJ2.out, HR2.out]; exact H9⟩
                case measure => simp [intOf]; omega
              · have HR2 : Hid (J2 = J) := Lib.hid (by rw [HRs.out, hr]; simp)
                clear hr HRs
                go_wp2_with fail
                go_roundw
                case rel => exact ⟨i + 1, by omega, by go_num, by rw [HJ2.out, HR2.out]; exact Lib.hid H5.out.1⟩
                case measure => simp [intOf]; omega
          · obtain rfl : i = L.length := by omega
            have j1 : ¬ (L.length : Int) < (L.length : Int) := by omega
            have HE : Hid (D = rejL N f mo (L.take L.length)) := Lib.hid (by rw [HDD.out, List.take_length])
            go_wp2_with fail
            go_ret2
            exact ⟨_, rfl, HJ.out.sv.below, by rw [HE.out]; exact HJ.out.own⟩
      · rw [hv] at HPv
        clear hv
        have HDe := Lib.hid hd
        clear hd
        go_wp2_with fail
        refine HPv.out.mono ?_
        rintro e w3 ⟨rfl, g3⟩
        have HB := Lib.hid ((I2.out.under g3).below)
        clear g3 I2 HPv q0 q1 q2 q3 q4 q5 q6 q7
        go_wp2_with fail
        go_ret2
        refine ⟨_, rfl, HB.out, ?_⟩
        rw [HDe.out]
        exact own_none _ _
      · rw [hv] at HPv
        have HIn := Lib.hid (fun W => Ck.refIn_any t W)
        rw [hr] at HIn
        clear hv hr
        have HDe := Lib.hid hd
        clear hd
        go_wp2_with fail
        refine HPv.out.mono ?_
        rintro e w3 ⟨rfl, g3⟩
        have I3 := Lib.hid (I2.out.under g3)
        clear g3 I2 HPv q0 q1 q2 q3 q4 q5 q6 q7
        obtain ⟨q0, q1, q2, q3, q4, q5, q6, q7⟩ := row8 I3.out.rp
        go_wp2_with fail
        refine (HIn.out _).mono ?_
        rintro e w4 ⟨rfl, rfl⟩
        have HB := Lib.hid I3.out.below
        clear HIn I3 q0 q1 q2 q3 q4 q5 q6 q7
        go_wp2_with fail
        go_ret2
        refine ⟨_, rfl, HB.out, ?_⟩
        rw [HDe.out]
        exact own_none _ _
    · have k0 : (y != 0) = true := by rw [bne_iff_ne]; exact hy0'
      have hs : s = y := by rw [← HS.out]; unfold valS; rw [if_pos HZ.out, if_neg (by rw [HY.out]; exact hy0'), HY.out]
      have HR : Hid (D = []) := Lib.hid (by rw [← HD.out]; unfold chkJ; rw [if_neg (by rw [HS.out, hs]; exact hy0')])
      subst hs
      clear hy0'
      go_wp2_with fail
      go_ret2
      refine ⟨_, rfl, I2.out.below, ?_⟩
      rw [HR.out]
      exact own_none _ _
  · have k0 : (z != 0) = true := by rw [bne_iff_ne]; exact hz0
    have hs : s = z := by rw [← HS.out]; unfold valS; rw [if_neg (by rw [HZ.out]; exact hz0), HZ.out]
    have HR : Hid (D = []) := Lib.hid (by rw [← HD.out]; unfold chkJ; rw [if_neg (by rw [HS.out, hs]; exact hz0)])
    subst hs
    clear hz0
    go_wp2_with fail
    go_ret2
    refine ⟨_, rfl, I1.out.below, ?_⟩
    rw [HR.out]
    exact own_none _ _
end Go.Proofs.YtlakgkoohdfiaaaDoor
