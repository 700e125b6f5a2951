/- The walk of TrackAnswers: for every list of reports, every list of numbers and every number of hops the law returns true, and what lay in memory is as it was. -/
import Derived.Test.YtejoabaanclcbaaGreatTkPa
import Derived.Test.YtejoabaanclcbaaGreatTkTa
import Derived.Test.YtejoabaanclcbaaGreatQay
namespace Go.Proofs.YtejoabaanclcbaaGreat.Tk
open Go.RowKit

theorem rq_take {w : World} {A : Option Addr} {cap m : Nat} {R : List Rq} (h : RqIn w (.slice A R.length cap) R) (hm : m ≤ R.length) : RqIn w (.slice A m cap) (R.take m) := by
  obtain ⟨A', cap', e, h1, h2, h3⟩ := h
  injection e with e1 e2 e3
  subst e1
  subst e3
  have hl : (R.take m).length = m := by rw [List.length_take]; omega
  refine ⟨A, cap, by rw [hl], by omega, h2, fun i hi => ?_⟩
  obtain ⟨g, off, e, hg, h8⟩ := h3 i (by omega)
  refine ⟨g, off, e, hg, ?_⟩
  rw [List.getElem_take]
  exact h8
/-- What the law looks at: three lists. -/
def Zs (G : Nat) (X9 : World) : Prop := G < X9.heap.size ∧ ∀ i, i < 3 → ∃ (z : Value) (R : List Rq), X9.cell? ⟨G, i, none⟩ = some z ∧ RqIn X9 z R ∧ R.length ≤ 12 ∧ ∀ r ∈ R, r.nm.size ≤ maxLen
theorem zs_made {W : World} {x y z : Value} {X Y Z : List Rq} {t : TypeId} (hx : RqIn W x X) (hy : RqIn W y Y) (hz : RqIn W z Z) (lx : X.length ≤ 12 ∧ ∀ r ∈ X, r.nm.size ≤ maxLen) (ly : Y.length ≤ 12 ∧ ∀ r ∈ Y, r.nm.size ≤ maxLen) (lz : Z.length ≤ 12 ∧ ∀ r ∈ Z, r.nm.size ≤ maxLen) :
    Below W.heap.size W (W.alloc (.cells #[x, y, z] t)) ∧ Zs W.heap.size (W.alloc (.cells #[x, y, z] t)) := by
  have hb : Below W.heap.size W (W.alloc (.cells #[x, y, z] t)) := (Below.refl _ _).alloc (Nat.le_refl _) _
  have hr := Row.new W #[x, y, z] t
  refine ⟨hb, hr.lt, fun i hi => ?_⟩
  rcases (by omega : i = 0 ∨ i = 1 ∨ i = 2) with rfl | rfl | rfl
  · exact ⟨x, X, (hr.cell 0).trans rfl, hx.under hb, lx⟩
  · exact ⟨y, Y, (hr.cell 1).trans rfl, hy.under hb, ly⟩
  · exact ⟨z, Z, (hr.cell 2).trans rfl, hz.under hb, lz⟩
/-- The numbers of hops that the law looks at. -/
def Ks (G : Nat) (X9 : World) : Prop := G < X9.heap.size ∧ ∀ i, i < 2 → ∃ x : Int, X9.cell? ⟨G, i, none⟩ = some (.int .i64 x)
theorem ks_made {W : World} {x y : Int} {t : TypeId} : Below W.heap.size W (W.alloc (.cells #[.int .i64 x, .int .i64 y] t)) ∧ Ks W.heap.size (W.alloc (.cells #[.int .i64 x, .int .i64 y] t)) := by
  have hb : Below W.heap.size W (W.alloc (.cells #[.int .i64 x, .int .i64 y] t)) := (Below.refl _ _).alloc (Nat.le_refl _) _
  have hr := Row.new W #[.int .i64 x, .int .i64 y] t
  refine ⟨hb, hr.lt, fun i hi => ?_⟩
  rcases (by omega : i = 0 ∨ i = 1) with rfl | rfl
  · exact ⟨x, (hr.cell 0).trans rfl⟩
  · exact ⟨y, (hr.cell 1).trans rfl⟩
theorem ctag_len {h : Int} {R : List Rq} {l : List Nat} {c : Int} (ht : CTag h R l c) (hR : R.length ≤ 12) : l.length ≤ 100000 := by
  rcases ht with ⟨-, rfl, -⟩ | ⟨-, -, rfl, -⟩ | ⟨-, -, -, rfl, -⟩ | ⟨-, -, -, hb, -⟩
  · exact Nat.zero_le _
  · exact Nat.zero_le _
  · exact Nat.zero_le _
  · rcases (best_len hb).2 with ⟨-, e⟩ | ⟨q, hq, e⟩
    · omega
    · have := ln_le (n := R.length) (P := pR h R) R.length q (by omega) hq
      omega
theorem sust_len {h : Int} {R : List Rq} {l : List Nat} {c : Int} (ht : SusT h R l c) (hR : R.length ≤ 12) : l.length ≤ 100000 := by
  rcases ht with ⟨-, rfl, -⟩ | ⟨-, -, rfl, -⟩ | ⟨-, hs, -⟩
  · exact Nat.zero_le _
  · exact Nat.zero_le _
  · have := (susL_len hs).1
    omega
theorem Nw.putT {w Z : World} {X Y : List Rq} {ub : Value} {g n cap : Nat} (h : Nw w X Y (.slice (some ⟨g, 0, none⟩) n cap) ub Z) (hn : n = X.length) (hi : 0 < X.length) (T : Int) :
    Nw w (X.set 0 { X[0] with t := T }) Y (.slice (some ⟨g, 0, none⟩) n cap) ub (Z.setCell ⟨g, 2, none⟩ (.int .i64 T)) := by
  subst hn
  exact ⟨(h.a.put 0 hi 2 (.int .i64 T) { X[0] with t := T } rfl (by omega)).1, h.b.far _ _ (h.a.lt rfl).1 (fun k hk e => h.apart g k rfl hk e.symm), h.apart⟩
set_option maxRecDepth 100000 in
set_option maxHeartbeats 8000000 in
theorem trackAnswers_any (HREF : Hid (∀ (v : Value) (R : List Rq) (x : Int) (w : World), RqIn w v R → R.length ≤ 12 → Calls Tryz.prog 17 #[v, .int .i64 x] w (SusO x R w))) (u v : Value) (h : Int) (R0 : List Rq) (w : World) (hr : RqIn w u R0) (hl : ListIn w v) :
    Calls Tryz.prog 3 #[u, v, .int .i64 h] w fun e w' => e = .returned (.bool true) ∧ Below w.heap.size w w' := by
  have HR0 := Lib.hid hr
  have HL := Lib.hid hl
  clear hr hl
  obtain ⟨A0, cap0, rfl, hc1, hc2, -⟩ := id HR0.out
  go_enter Tryz.func3, Tryz.ntmps3
  go_wp2_with fail
  refine (smallAll_any _ R0 w HR0.out).mono ?_
  rintro e w0 ⟨⟨b, rfl, hb⟩, b0⟩
  have B0 := Lib.hid b0
  have HB := Lib.hid hb
  clear b0 hb
  cases b
  · go_wp2_with fail
    refine (awake_any _).mono ?_
    rintro e wz ⟨rfl, bz⟩
    go_wp2_with fail
    go_ret
    exact ⟨rfl, B0.out.trans (bz.mono B0.out.size)⟩
  · have HS := Lib.hid (HB.out rfl)
    clear HB
    have HR1 := Lib.hid (HR0.out.under B0.out)
    have HL1 := Lib.hid (HL.out.under B0.out)
    clear HR0 HL
    go_wp2_with fail
    refine (new_any _ _ HL1.out).mono ?_
    rintro e w1 ⟨rfl, s1, -⟩
    go_wp2_with fail
    refine (reports_any _ _ _ 5 true s1 (by omega)).mono ?_
    intro e w2 hr
    obtain ⟨X, ua, ma, ⟨hAF, hma⟩, hA5, rfl, la, -, -⟩ := Lw.start2 s1 hr
    have LA := Lib.hid la
    have FA := Lib.hid (And.intro hAF hma)
    clear la hr s1 hAF hma
    go_wp2_with fail
    refine (reports_any _ _ _ 7 false LA.out.src (by omega)).mono ?_
    intro e w3 hr
    obtain ⟨Y, ub, mb, ⟨hBF, hmb⟩, hB5, rfl, lb, gb, nb⟩ := Lw.start2 LA.out.src hr
    have N3 := Lib.hid (show Nw w0 X Y ua ub w3 from ⟨LA.out.step lb.src gb, lb, fun i j hi hj => by have := (LA.out.lt hi).2; have := nb j hj; omega⟩)
    have FB := Lib.hid (And.intro hBF hmb)
    clear lb hr hBF hmb LA gb nb
    obtain ⟨Ab, capb, rfl⟩ : ∃ Ab cap, ub = .slice Ab Y.length cap := by
      obtain ⟨base, h1, h2⟩ := N3.out.b.own
      exact own_form h2
    obtain ⟨Aa, capa, rfl⟩ : ∃ Aa capa, ua = .slice Aa X.length capa := by
      obtain ⟨base, h1, h2⟩ := N3.out.a.own
      exact own_form h2
    have hrow := Row.new w3 #[.int .i64 0, .int .i64 1, .int .i64 4, .int .i64 24, .int .i64 100, .int .i64 1000, .int .i64 1001, .int .i64 (-1)] 3
    have ba := (Below.refl w3.heap.size w3).alloc (Nat.le_refl _) (.cells #[.int .i64 0, .int .i64 1, .int .i64 4, .int .i64 24, .int .i64 100, .int .i64 1000, .int .i64 1001, .int .i64 (-1)] 3)
    have N4 := Lib.hid (N3.out.under ba)
    have HC := Lib.hid (show ∀ i, i < 8 → ∃ x, (w3.alloc (.cells #[.int .i64 0, .int .i64 1, .int .i64 4, .int .i64 24, .int .i64 100, .int .i64 1000, .int .i64 1001, .int .i64 (-1)] 3)).cell? ⟨w3.heap.size, i, none⟩ = some (.int .i64 x) ∧ True from fun i hi => by
      rcases (by omega : i = 0 ∨ i = 1 ∨ i = 2 ∨ i = 3 ∨ i = 4 ∨ i = 5 ∨ i = 6 ∨ i = 7) with rfl | rfl | rfl | rfl | rfl | rfl | rfl | rfl
      all_goals exact ⟨_, (hrow.cell _).trans rfl, trivial⟩)
    have HNE : Hid (w3.heap.size ≠ w0.heap.size) := Lib.hid (by have := src_at N3.out.a.src; omega)
    have HLT := Lib.hid hrow.lt
    have HB4 := Lib.hid ba
    clear N3 hrow ba
    go_wp2_with fail
    refine (pick_any (fun _ => True) _ _ _ _ 8 _ N4.out.a.src (by omega) (by omega) HNE.out HLT.out HC.out).mono ?_
    rintro e w5 ⟨k, -, rfl, s5, g5⟩
    have N5 := Lib.hid (N4.out.step s5 g5)
    clear N4 HNE HLT HC HB4 s5 g5
    have NX := Lib.hid (show ∀ r ∈ X, r.nm.size ≤ 5 from fun r hr => (FA.out.1.2 r hr).2.2.1)
    have NY := Lib.hid (show ∀ r ∈ Y, r.nm.size ≤ 5 from fun r hr => (FB.out.1.2 r hr).2.2.1)
    clear FA FB
    obtain ⟨n, hn⟩ : ∃ n, X.length = n := ⟨_, rfl⟩
    have HNX := Lib.hid hn
    have M5 : Hid (Nw w0 X Y (.slice Aa n capa) (.slice Ab Y.length capb) w5) := Lib.hid (by rw [← hn]; exact N5.out)
    rw [hn] at hA5 ⊢
    clear hn N5
    by_cases hx : 1 < n
    · have x1 : (1 : Int) < (n : Int) := by omega
      go_wp2_with fail
      refine (n_any _ _ _ _ M5.out.a.src (by omega) (by omega)).mono ?_
      rintro e w6 ⟨z, ⟨z1, z2⟩, rfl, s6, g6⟩
      have N6 := Lib.hid (M5.out.step s6 g6)
      clear M5 s6 g6
      by_cases hz : z = 0
      · subst hz
        clear z1 z2 x1
        obtain ⟨gx, rfl⟩ := N6.out.a.some (by rw [HNX.out]; omega)
        obtain ⟨y, rfl⟩ : ∃ y, n = y + 1 := ⟨n - 1, by omega⟩
        have HL1 : Hid (y < X.length) := Lib.hid (by rw [HNX.out]; omega)
        have HL0 : Hid (0 < X.length) := Lib.hid (by rw [HNX.out]; omega)
        obtain ⟨-, -, pT, -⟩ := N6.out.a.at2 HNX.out.symm y HL1.out
        obtain ⟨-, -, pT0, -⟩ := N6.out.a.at2 HNX.out.symm 0 HL0.out
        have ht := N6.out.a.thaw 2
        have HN := Lib.hid (N6.out.putT HNX.out.symm HL0.out (X[y]'HL1.out).t)
        have HX := Lib.hid (show (X.set 0 { (X[0]'HL0.out) with t := (X[y]'HL1.out).t }).length = y + 1 ∧ ∀ r ∈ X.set 0 { (X[0]'HL0.out) with t := (X[y]'HL1.out).t }, r.nm.size ≤ 5 from ⟨by rw [List.length_set]; exact HNX.out, fun r hr => by
          rcases List.mem_or_eq_of_mem_set hr with hr | rfl
          · exact NX.out r hr
          · show (X[0]'HL0.out).nm.size ≤ 5
            exact NX.out _ (List.getElem_mem HL0.out)⟩)
        have k4 : (1 : Int) < ((y + 1 : Nat) : Int) := by omega
        clear N6 hx
        generalize hXX : X.set 0 { (X[0]'HL0.out) with t := (X[y]'HL1.out).t } = X6 at *
        clear hXX
        generalize (X[y]'HL1.out).t = T at *
        have k1 : (0 : Int) ≤ (y : Int) := by omega
        have k2 : (y : Int) < ((y + 1 : Nat) : Int) := by omega
        have k3 : ((y + 1 : Nat) : Int) - 1 = (y : Int) := by omega
        go_upto_region 8 with fail
        clear pT pT0 ht k1 k2 k3 k4 HL1 HL0
        generalize hWW : w6.setCell ⟨gx, 2, none⟩ (.int .i64 T) = WW at *
        clear hWW
        obtain ⟨m, hm⟩ : ∃ m, (min (R0.length : Int) 6).toNat = m := ⟨_, rfl⟩
        have HM := Lib.hid hm
        go_upto_region 9 with fail
        have hm6 : m ≤ 6 ∧ m ≤ R0.length := by omega
        clear hm
        have HDB : Hid (Below w0.heap.size w0 WW) := Lib.hid HN.out.a.src.below
        have HZ := Lib.hid (zs_made (t := 22) (rq_take (HR1.out.under HDB.out) hm6.2) HN.out.a.rq HN.out.b.rq ⟨by rw [List.length_take]; omega, fun r hr => by have := HS.out.2 r (List.mem_of_mem_take hr); unfold maxLen; omega⟩ ⟨by rw [HX.out.1]; omega, fun r hr => by have := HX.out.2 r hr; unfold maxLen; omega⟩ ⟨by omega, fun r hr => by have := NY.out r hr; unfold maxLen; omega⟩)
        generalize WW.alloc _ = X9 at *
        have HB9 := Lib.hid (HDB.out.trans (HZ.out.1.mono HDB.out.size))
        have HR9 := Lib.hid (HR1.out.under HB9.out)
        have HZZ := Lib.hid HZ.out.2
        clear HZ HM hm6 HDB HN
        generalize WW.heap.size = G at *
        go_loopw [65] (fun t wr => ∃ i : Nat, i ≤ 3 ∧ t = .int .i64 i ∧ Hid (Below X9.heap.size X9 wr)) (fun t _ => 3 - (intOf t).toNat)
        case atStart => exact ⟨0, Nat.zero_le _, rfl, Lib.hid (Below.refl _ _)⟩
        case round =>
          obtain ⟨i, hi, rfl, HW⟩ := hrel
          by_cases hi3 : i < 3
          · have i1 : (i : Int) < 3 := by omega
            have i2 : (0 : Int) ≤ (i : Int) := by omega
            obtain ⟨z, R, hc, hr, hl, hnm⟩ := HZZ.out.2 i hi3
            have cz := (HW.out.cell (p := ⟨G, i, none⟩) HZZ.out.1).trans hc
            have HRZ := Lib.hid hr
            have HLZ := Lib.hid hl
            have HNZ := Lib.hid hnm
            clear hc hr hl hnm
            obtain ⟨A3, c3, rfl, hc3, hc4, -⟩ := id HRZ.out
            go_upto_region 12 with fail
            have HK := Lib.hid (ks_made (W := wr) (x := h) (y := k) (t := 3))
            generalize wr.alloc _ = X12 at *
            have HB12 := Lib.hid (HW.out.trans (HK.out.1.mono HW.out.size))
            have HKK := Lib.hid HK.out.2
            clear HK HW cz
            generalize wr.heap.size = G2 at *
            go_loopw [73] (fun t wr => ∃ j : Nat, j ≤ 2 ∧ t = .int .i64 j ∧ Hid (Below X12.heap.size X12 wr)) (fun t _ => 2 - (intOf t).toNat)
            case atStart => exact ⟨0, Nat.zero_le _, rfl, Lib.hid (Below.refl _ _)⟩
            case round =>
              obtain ⟨j, hj, rfl, HV⟩ := hrel
              by_cases hj2 : j < 2
              · have j1 : (j : Int) < 2 := by omega
                have j2 : (0 : Int) ≤ (j : Int) := by omega
                obtain ⟨x, hx⟩ := HKK.out.2 j hj2
                have cx := (HV.out.cell (p := ⟨G2, j, none⟩) HKK.out.1).trans hx
                clear hx
                have HRV := Lib.hid (HRZ.out.under (HB12.out.trans (HV.out.mono HB12.out.size)))
                go_wp2_with fail
                refine (chainP_any _ R x _ HRV.out (by have := HLZ.out; omega)).mono ?_
                rintro e P1 ⟨l1, e1, v1, ht1, rfl, hi1, b1⟩
                have HT1 := Lib.hid ht1
                have HI1 := Lib.hid hi1
                have HR1' := Lib.hid (HRV.out.under b1)
                have HV1 := Lib.hid (HV.out.trans (b1.mono HV.out.size))
                clear ht1 hi1 b1 HRV HV cx
                go_wp2_with fail
                refine (chainR_any _ R x _ HR1'.out (by have := HLZ.out; omega)).mono ?_
                rintro e P2 ⟨l2, e2, v2, ht2, rfl, hi2, b2⟩
                have HLN1 := Lib.hid (ctag_len HT1.out HLZ.out)
                obtain ⟨rfl, rfl⟩ := ctag_one HT1.out ht2
                have HI12 := Lib.hid (HI1.out.under b2)
                have HI22 := Lib.hid hi2
                have HR2 := Lib.hid (HR1'.out.under b2)
                have HV2 := Lib.hid (HV1.out.trans (b2.mono HV1.out.size))
                clear ht2 hi2 b2 HT1 HI1 HR1' HV1
                go_wp2_with fail
                refine (suspectsP_any _ R x _ HR2.out HLZ.out HNZ.out).mono ?_
                rintro e P3 ⟨l3, e3, v3, ht3, rfl, hi3, b3⟩
                have HT3 := Lib.hid ht3
                have HI13 := Lib.hid (HI12.out.under b3)
                have HI23 := Lib.hid (HI22.out.under b3)
                have HI33 := Lib.hid hi3
                have HR3 := Lib.hid (HR2.out.under b3)
                have HV3 := Lib.hid (HV2.out.trans (b3.mono HV2.out.size))
                clear ht3 hi3 b3 HI12 HI22 HR2 HV2
                go_wp2_with fail
                refine (HREF.out _ R x _ HR3.out HLZ.out).mono ?_
                rintro e P4 ⟨l4, e4, v4, ht4, rfl, hi4, b4⟩
                have HLN3 := Lib.hid (sust_len HT3.out HLZ.out)
                obtain ⟨rfl, rfl⟩ := susT_one HT3.out ht4
                have HI14 := Lib.hid (HI13.out.under b4)
                have HI24 := Lib.hid (HI23.out.under b4)
                have HI34 := Lib.hid (HI33.out.under b4)
                have HI44 := Lib.hid hi4
                have HV4 := Lib.hid (HV3.out.trans (b4.mono HV3.out.size))
                clear ht4 hi4 b4 HI13 HI23 HI33 HR3 HV3 HT3
                go_wp2_with fail
                refine (ints_is _ _ l1 _ HI14.out HI24.out HLN1.out).mono ?_
                rintro e P5 ⟨rfl, b5⟩
                have HI35 := Lib.hid (HI34.out.under b5)
                have HI45 := Lib.hid (HI44.out.under b5)
                have HV5 := Lib.hid (HV4.out.trans (b5.mono HV4.out.size))
                clear b5 HI14 HI24 HI34 HI44 HV4
                go_wp2_with fail
                refine (ints_is _ _ l3 _ HI35.out HI45.out HLN3.out).mono ?_
                rintro e P6 ⟨rfl, b6⟩
                have HV6 := Lib.hid (HV5.out.trans (b6.mono HV5.out.size))
                clear b6 HI35 HI45 HV5
                go_wp2_with fail
                go_roundw
                case rel => exact ⟨j + 1, by omega, by go_num, HV6⟩
                case measure => simp [intOf]; omega
              · have j1 : ¬ (j : Int) < 2 := by omega
                have HB13 := Lib.hid (HB12.out.trans (HV.out.mono HB12.out.size))
                clear HB12 HV HKK
                by_cases hR1 : 1 < R.length
                · have r1 : (1 : Int) < (R.length : Int) := by omega
                  have hr0 : 0 < R.length := by omega
                  have HRW := Lib.hid (HRZ.out.under HB13.out)
                  obtain ⟨A', cap', eA0, -, -, hat⟩ := HRW.out
                  injection eA0 with eA0 eA1 eA2
                  subst eA0
                  clear eA1 eA2
                  obtain ⟨g, off, rfl, hgl, h8a⟩ := hat 0 hr0
                  obtain ⟨g', off', e', -, h8b⟩ := hat 1 hR1
                  injection e' with e'
                  injection e' with e' e''
                  subst e' e''
                  have HGL := Lib.hid hgl
                  have h8a' : At8 wr g off R[0] := h8a
                  have h8b' : At8 wr g (off + 8) R[1] := h8b
                  clear hat hgl h8a h8b
                  generalize R[0] = rx at h8a'
                  generalize R[1] = ry at h8b'
                  obtain ⟨xk, xn, xt, xF, xA, xB, xC, xa, xu, xc⟩ := rx
                  obtain ⟨yk, yn, yt, yF, yA, yB, yC, ya, yu, yc⟩ := ry
                  have HX8 := Lib.hid h8a'
                  have HY8 := Lib.hid h8b'
                  clear h8a' h8b'
                  obtain ⟨pb, hpb⟩ : ∃ pb, plB k ⟨xk, xn, xt, xF, xA, xB, xC, xa, xu, xc⟩ ⟨yk, yn, yt, yF, yA, yB, yC, ya, yu, yc⟩ = pb := ⟨_, rfl⟩
                  have HPB := Lib.hid hpb
                  clear hpb
                  go_upto_region 21 with fail
                  have hS0 := Lib.hid (show (wr.cell? ⟨g, off, none⟩ = some (.int .i64 xk) ∧ wr.cell? ⟨g, off + 1, none⟩ = some (.string xn) ∧ wr.cell? ⟨g, off + 2, none⟩ = some (.int .i64 xt) ∧ wr.cell? ⟨g, off + 3, none⟩ = some (.int .i64 xF) ∧ wr.cell? ⟨g, off + 4, none⟩ = some (.int .i64 xA) ∧ wr.cell? ⟨g, off + 5, none⟩ = some (.int .i64 xB) ∧ wr.cell? ⟨g, off + 6, none⟩ = some (.int .i64 xC) ∧ wr.cell? ⟨g, off + 7, none⟩ = some (.slice xa xu xc)) ∧ (wr.cell? ⟨g, off + 8, none⟩ = some (.int .i64 yk) ∧ wr.cell? ⟨g, off + 9, none⟩ = some (.string yn) ∧ wr.cell? ⟨g, off + 10, none⟩ = some (.int .i64 yt) ∧ wr.cell? ⟨g, off + 11, none⟩ = some (.int .i64 yF) ∧ wr.cell? ⟨g, off + 12, none⟩ = some (.int .i64 yA) ∧ wr.cell? ⟨g, off + 13, none⟩ = some (.int .i64 yB) ∧ wr.cell? ⟨g, off + 14, none⟩ = some (.int .i64 yC) ∧ wr.cell? ⟨g, off + 15, none⟩ = some (.slice ya yu yc)) from ⟨HX8.out, HY8.out⟩)
                  refine wp_region_held_drew (S := fun w' : World => (w'.cell? ⟨g, off, none⟩ = some (.int .i64 xk) ∧ w'.cell? ⟨g, off + 1, none⟩ = some (.string xn) ∧ w'.cell? ⟨g, off + 2, none⟩ = some (.int .i64 xt) ∧ w'.cell? ⟨g, off + 3, none⟩ = some (.int .i64 xF) ∧ w'.cell? ⟨g, off + 4, none⟩ = some (.int .i64 xA) ∧ w'.cell? ⟨g, off + 5, none⟩ = some (.int .i64 xB) ∧ w'.cell? ⟨g, off + 6, none⟩ = some (.int .i64 xC) ∧ w'.cell? ⟨g, off + 7, none⟩ = some (.slice xa xu xc)) ∧ (w'.cell? ⟨g, off + 8, none⟩ = some (.int .i64 yk) ∧ w'.cell? ⟨g, off + 9, none⟩ = some (.string yn) ∧ w'.cell? ⟨g, off + 10, none⟩ = some (.int .i64 yt) ∧ w'.cell? ⟨g, off + 11, none⟩ = some (.int .i64 yF) ∧ w'.cell? ⟨g, off + 12, none⟩ = some (.int .i64 yA) ∧ w'.cell? ⟨g, off + 13, none⟩ = some (.int .i64 yB) ∧ w'.cell? ⟨g, off + 14, none⟩ = some (.int .i64 yC) ∧ w'.cell? ⟨g, off + 15, none⟩ = some (.slice ya yu yc))) (by kernel_rfl) hS0.out (fun hHeld => ?_)
                  refine tk 0 (oi := ⟨some 122, _, _, _, _, none⟩) rfl ?_
                  try go_frame
                  refine tk 1 (oi := ⟨some 123, _, _, _, _, none⟩) rfl ?_
                  try go_frame
                  refine tk 2 (oi := ⟨some 124, _, _, _, _, none⟩) rfl ?_
                  try go_frame
                  refine tk 3 (oi := ⟨some 125, _, _, _, _, none⟩) rfl ?_
                  try go_frame
                  refine tk 4 (oi := ⟨some 126, _, _, _, _, some _⟩) rfl ?_
                  try go_frame
                  refine tk 5 (oi := ⟨some 127, _, _, _, _, some _⟩) rfl ?_
                  try go_frame
                  refine tk 6 (oi := ⟨some 128, _, _, _, _, some _⟩) rfl ?_
                  try go_frame
                  refine tk 7 (oi := ⟨some 129, _, _, _, _, some _⟩) rfl ?_
                  try go_frame
                  refine tk 8 (oi := ⟨some 130, _, _, _, _, some _⟩) rfl ?_
                  try go_frame
                  refine tk 9 (oi := ⟨some 131, _, _, _, _, some _⟩) rfl ?_
                  try go_frame
                  refine tk 10 (oi := ⟨some 132, _, _, _, _, some _⟩) rfl ?_
                  try go_frame
                  refine tk 12 (oi := ⟨some 134, _, _, _, _, some _⟩) rfl ?_
                  try go_frame
                  refine tk 13 (oi := ⟨some 135, _, _, _, _, some _⟩) rfl ?_
                  try go_frame
                  refine tk 14 (oi := ⟨some 136, _, _, _, _, some _⟩) rfl ?_
                  try go_frame
                  refine tk 15 (oi := ⟨some 137, _, _, _, _, some _⟩) rfl ?_
                  try go_frame
                  refine tk 16 (oi := ⟨some 138, _, _, _, _, some _⟩) rfl ?_
                  try go_frame
                  refine tk 17 (oi := ⟨some 139, _, _, _, _, some _⟩) rfl ?_
                  try go_frame
                  refine tk 18 (oi := ⟨some 140, _, _, _, _, some _⟩) rfl ?_
                  try go_frame
                  refine wpAnyH_ready (rs := [11]) (by kernel_rfl) (by simp) ?_
                  refine AllReadyH.cons (o := ⟨some 133, _, _, _, _, some _⟩) rfl (fun K hK => ?_) AllReadyH.nil
                  have hd : Below wr.heap.size wr wr.drew := ⟨rfl, rfl, rfl, Nat.le_refl _, fun _ _ => rfl⟩
                  go_simp
                  refine (plausibleP_any xk xn xt xF xA xB xC xa xu xc yk yn yt yF yA yB yC ya yu yc k _).mono ?_
                  rintro e Xa ⟨rfl, hbXa⟩
                  have DXa := Lib.hid (hd.trans (hbXa.mono hd.size))
                  have HXXa := Lib.hid (HX8.out.under HGL.out DXa.out)
                  have HYXa := Lib.hid (HY8.out.under HGL.out DXa.out)
                  rw [HPB.out]
                  clear hbXa hHeld hd hS0
                  go_wp2_with fail
                  have hSXa := Lib.hid (show (Xa.cell? ⟨g, off, none⟩ = some (.int .i64 xk) ∧ Xa.cell? ⟨g, off + 1, none⟩ = some (.string xn) ∧ Xa.cell? ⟨g, off + 2, none⟩ = some (.int .i64 xt) ∧ Xa.cell? ⟨g, off + 3, none⟩ = some (.int .i64 xF) ∧ Xa.cell? ⟨g, off + 4, none⟩ = some (.int .i64 xA) ∧ Xa.cell? ⟨g, off + 5, none⟩ = some (.int .i64 xB) ∧ Xa.cell? ⟨g, off + 6, none⟩ = some (.int .i64 xC) ∧ Xa.cell? ⟨g, off + 7, none⟩ = some (.slice xa xu xc)) ∧ (Xa.cell? ⟨g, off + 8, none⟩ = some (.int .i64 yk) ∧ Xa.cell? ⟨g, off + 9, none⟩ = some (.string yn) ∧ Xa.cell? ⟨g, off + 10, none⟩ = some (.int .i64 yt) ∧ Xa.cell? ⟨g, off + 11, none⟩ = some (.int .i64 yF) ∧ Xa.cell? ⟨g, off + 12, none⟩ = some (.int .i64 yA) ∧ Xa.cell? ⟨g, off + 13, none⟩ = some (.int .i64 yB) ∧ Xa.cell? ⟨g, off + 14, none⟩ = some (.int .i64 yC) ∧ Xa.cell? ⟨g, off + 15, none⟩ = some (.slice ya yu yc)) from ⟨HXXa.out, HYXa.out⟩)
                  refine hK.out _ _ hSXa.out (fun hHeld => ?_)
                  clear hK K hSXa
                  try go_frame
                  refine wpAnyH_ready (rs := [19]) (by kernel_rfl) (by simp) ?_
                  refine AllReadyH.cons (o := ⟨some 141, _, _, _, _, some _⟩) rfl (fun K hK => ?_) AllReadyH.nil
                  go_simp
                  refine (plausibleR_any xk xn xt xF xA xB xC xa xu xc yk yn yt yF yA yB yC ya yu yc k _).mono ?_
                  rintro e Xb ⟨rfl, hbXb⟩
                  have DXb := Lib.hid (DXa.out.trans (hbXb.mono DXa.out.size))
                  have HXXb := Lib.hid (HX8.out.under HGL.out DXb.out)
                  have HYXb := Lib.hid (HY8.out.under HGL.out DXb.out)
                  rw [HPB.out]
                  clear hbXb hHeld
                  go_wp2_with fail
                  have hSXb := Lib.hid (show (Xb.cell? ⟨g, off, none⟩ = some (.int .i64 xk) ∧ Xb.cell? ⟨g, off + 1, none⟩ = some (.string xn) ∧ Xb.cell? ⟨g, off + 2, none⟩ = some (.int .i64 xt) ∧ Xb.cell? ⟨g, off + 3, none⟩ = some (.int .i64 xF) ∧ Xb.cell? ⟨g, off + 4, none⟩ = some (.int .i64 xA) ∧ Xb.cell? ⟨g, off + 5, none⟩ = some (.int .i64 xB) ∧ Xb.cell? ⟨g, off + 6, none⟩ = some (.int .i64 xC) ∧ Xb.cell? ⟨g, off + 7, none⟩ = some (.slice xa xu xc)) ∧ (Xb.cell? ⟨g, off + 8, none⟩ = some (.int .i64 yk) ∧ Xb.cell? ⟨g, off + 9, none⟩ = some (.string yn) ∧ Xb.cell? ⟨g, off + 10, none⟩ = some (.int .i64 yt) ∧ Xb.cell? ⟨g, off + 11, none⟩ = some (.int .i64 yF) ∧ Xb.cell? ⟨g, off + 12, none⟩ = some (.int .i64 yA) ∧ Xb.cell? ⟨g, off + 13, none⟩ = some (.int .i64 yB) ∧ Xb.cell? ⟨g, off + 14, none⟩ = some (.int .i64 yC) ∧ Xb.cell? ⟨g, off + 15, none⟩ = some (.slice ya yu yc)) from ⟨HXXb.out, HYXb.out⟩)
                  refine hK.out _ _ hSXb.out (fun hHeld => ?_)
                  clear hK K hSXb
                  try go_frame
                  refine tk 20 (oi := ⟨some 142, _, _, _, _, some _⟩) rfl ?_
                  try go_frame
                  refine tk 21 (oi := ⟨some 143, _, _, _, _, none⟩) rfl ?_
                  try go_frame
                  refine wpAnyH_done (by kernel_rfl) ?_ _
                  have HBZ := Lib.hid (HB13.out.trans (DXb.out.mono HB13.out.size))
                  clear hHeld
                  have hpp : pb = false ∨ pb = true := by cases pb; exact .inl rfl; exact .inr rfl
                  rcases hpp with rfl | rfl
                  all_goals go_wp2_with fail
                  all_goals go_roundw
                  case rel => exact ⟨i + 1, by omega, by go_num, HBZ⟩
                  case measure => simp [intOf]; omega
                  case rel => exact ⟨i + 1, by omega, by go_num, HBZ⟩
                  case measure => simp [intOf]; omega
                · have r1 : ¬ (1 : Int) < (R.length : Int) := by omega
                  go_upto_region 21 with fail
                  refine wp_region_held_drew (S := fun _ : World => True) (by kernel_rfl) trivial (fun hHeld => ?_)
                  refine tk 0 (oi := ⟨some 122, _, _, _, _, none⟩) rfl ?_
                  try go_frame
                  refine tk 1 (oi := ⟨some 123, _, _, _, _, none⟩) rfl ?_
                  try go_frame
                  refine tk 2 (oi := ⟨some 124, _, _, _, _, none⟩) rfl ?_
                  try go_frame
                  refine tk 3 (oi := ⟨some 125, _, _, _, _, none⟩) rfl ?_
                  try go_frame
                  refine sk 4 (oi := ⟨some 126, _, _, _, _, some _⟩) rfl ?_
                  try go_frame
                  refine sk 5 (oi := ⟨some 127, _, _, _, _, some _⟩) rfl ?_
                  try go_frame
                  refine sk 6 (oi := ⟨some 128, _, _, _, _, some _⟩) rfl ?_
                  try go_frame
                  refine sk 7 (oi := ⟨some 129, _, _, _, _, some _⟩) rfl ?_
                  try go_frame
                  refine sk 8 (oi := ⟨some 130, _, _, _, _, some _⟩) rfl ?_
                  try go_frame
                  refine sk 9 (oi := ⟨some 131, _, _, _, _, some _⟩) rfl ?_
                  try go_frame
                  refine sk 10 (oi := ⟨some 132, _, _, _, _, some _⟩) rfl ?_
                  try go_frame
                  refine sk 11 (oi := ⟨some 133, _, _, _, _, some _⟩) rfl ?_
                  try go_frame
                  refine sk 12 (oi := ⟨some 134, _, _, _, _, some _⟩) rfl ?_
                  try go_frame
                  refine sk 13 (oi := ⟨some 135, _, _, _, _, some _⟩) rfl ?_
                  try go_frame
                  refine sk 14 (oi := ⟨some 136, _, _, _, _, some _⟩) rfl ?_
                  try go_frame
                  refine sk 15 (oi := ⟨some 137, _, _, _, _, some _⟩) rfl ?_
                  try go_frame
                  refine sk 16 (oi := ⟨some 138, _, _, _, _, some _⟩) rfl ?_
                  try go_frame
                  refine sk 17 (oi := ⟨some 139, _, _, _, _, some _⟩) rfl ?_
                  try go_frame
                  refine sk 18 (oi := ⟨some 140, _, _, _, _, some _⟩) rfl ?_
                  try go_frame
                  refine sk 19 (oi := ⟨some 141, _, _, _, _, some _⟩) rfl ?_
                  try go_frame
                  refine sk 20 (oi := ⟨some 142, _, _, _, _, some _⟩) rfl ?_
                  try go_frame
                  refine tk 21 (oi := ⟨some 143, _, _, _, _, none⟩) rfl ?_
                  try go_frame
                  refine wpAnyH_done (by kernel_rfl) ?_ _
                  have hdd : Below wr.heap.size wr wr.drew := ⟨rfl, rfl, rfl, Nat.le_refl _, fun _ _ => rfl⟩
                  have HBZ := Lib.hid (HB13.out.trans (hdd.mono HB13.out.size))
                  clear hHeld hdd
                  go_wp2_with fail
                  go_roundw
                  case rel => exact ⟨i + 1, by omega, by go_num, HBZ⟩
                  case measure => simp [intOf]; omega
          · have i1 : ¬ (i : Int) < 3 := by omega
            by_cases h30 : 30 < R0.length
            · have i3 : (30 : Int) < (R0.length : Int) := by omega
              go_wp2_with fail
              have HRW := Lib.hid (HR9.out.under HW.out)
              refine (chainP_any _ R0 h _ HRW.out (by have := HS.out.1; omega)).mono ?_
              rintro e P1 ⟨l1, e1, v1, ht1, rfl, hi1, b1⟩
              obtain rfl : e1 = 2 := by
                rcases ht1 with ⟨-, -, e⟩ | ⟨a, -⟩ | ⟨a, -⟩ | ⟨a, -⟩
                · exact e
                · omega
                · omega
                · omega
              have HB1 := Lib.hid (HB9.out.trans ((HW.out.trans (b1.mono HW.out.size)).mono HB9.out.size))
              clear ht1 hi1 b1 HRW
              go_wp2_with fail
              refine (awake_any _).mono ?_
              rintro e wz ⟨rfl, bz⟩
              go_wp2_with fail
              go_ret
              have h2 := HB1.out.trans (bz.mono HB1.out.size)
              exact ⟨rfl, B0.out.trans (h2.mono B0.out.size)⟩
            · have i3 : ¬ (30 : Int) < (R0.length : Int) := by omega
              go_wp2_with fail
              refine (awake_any _).mono ?_
              rintro e wz ⟨rfl, bz⟩
              go_wp2_with fail
              go_ret
              have h1 := HB9.out.trans (HW.out.mono HB9.out.size)
              have h2 := h1.trans (bz.mono h1.size)
              exact ⟨rfl, B0.out.trans (h2.mono B0.out.size)⟩
      · have hzi : ¬ z = (0 : Int) := hz
        have hzb : (z == (0 : Int)) = false := beq_eq_false_iff_ne.2 hz
        have hzd : decide (z = (0 : Int)) = false := decide_eq_false hz
        go_upto_region 8 with fail
        (try rw [hzb])
        (try rw [hzd])
        clear hzi hzb hzd hz z1 z2 x1
        have HN := N6
        have HX := Lib.hid (And.intro HNX.out NX.out)
        generalize w6 = WW at *
        obtain ⟨m, hm⟩ : ∃ m, (min (R0.length : Int) 6).toNat = m := ⟨_, rfl⟩
        have HM := Lib.hid hm
        go_upto_region 9 with fail
        have hm6 : m ≤ 6 ∧ m ≤ R0.length := by omega
        clear hm
        have HDB : Hid (Below w0.heap.size w0 WW) := Lib.hid HN.out.a.src.below
        have HZ := Lib.hid (zs_made (t := 22) (rq_take (HR1.out.under HDB.out) hm6.2) HN.out.a.rq HN.out.b.rq ⟨by rw [List.length_take]; omega, fun r hr => by have := HS.out.2 r (List.mem_of_mem_take hr); unfold maxLen; omega⟩ ⟨by rw [HX.out.1]; omega, fun r hr => by have := HX.out.2 r hr; unfold maxLen; omega⟩ ⟨by omega, fun r hr => by have := NY.out r hr; unfold maxLen; omega⟩)
        generalize WW.alloc _ = X9 at *
        have HB9 := Lib.hid (HDB.out.trans (HZ.out.1.mono HDB.out.size))
        have HR9 := Lib.hid (HR1.out.under HB9.out)
        have HZZ := Lib.hid HZ.out.2
        clear HZ HM hm6 HDB HN
        generalize WW.heap.size = G at *
        go_loopw [65] (fun t wr => ∃ i : Nat, i ≤ 3 ∧ t = .int .i64 i ∧ Hid (Below X9.heap.size X9 wr)) (fun t _ => 3 - (intOf t).toNat)
        case atStart => exact ⟨0, Nat.zero_le _, rfl, Lib.hid (Below.refl _ _)⟩
        case round =>
          obtain ⟨i, hi, rfl, HW⟩ := hrel
          by_cases hi3 : i < 3
          · have i1 : (i : Int) < 3 := by omega
            have i2 : (0 : Int) ≤ (i : Int) := by omega
            obtain ⟨z, R, hc, hr, hl, hnm⟩ := HZZ.out.2 i hi3
            have cz := (HW.out.cell (p := ⟨G, i, none⟩) HZZ.out.1).trans hc
            have HRZ := Lib.hid hr
            have HLZ := Lib.hid hl
            have HNZ := Lib.hid hnm
            clear hc hr hl hnm
            obtain ⟨A3, c3, rfl, hc3, hc4, -⟩ := id HRZ.out
            go_upto_region 12 with fail
            have HK := Lib.hid (ks_made (W := wr) (x := h) (y := k) (t := 3))
            generalize wr.alloc _ = X12 at *
            have HB12 := Lib.hid (HW.out.trans (HK.out.1.mono HW.out.size))
            have HKK := Lib.hid HK.out.2
            clear HK HW cz
            generalize wr.heap.size = G2 at *
            go_loopw [73] (fun t wr => ∃ j : Nat, j ≤ 2 ∧ t = .int .i64 j ∧ Hid (Below X12.heap.size X12 wr)) (fun t _ => 2 - (intOf t).toNat)
            case atStart => exact ⟨0, Nat.zero_le _, rfl, Lib.hid (Below.refl _ _)⟩
            case round =>
              obtain ⟨j, hj, rfl, HV⟩ := hrel
              by_cases hj2 : j < 2
              · have j1 : (j : Int) < 2 := by omega
                have j2 : (0 : Int) ≤ (j : Int) := by omega
                obtain ⟨x, hx⟩ := HKK.out.2 j hj2
                have cx := (HV.out.cell (p := ⟨G2, j, none⟩) HKK.out.1).trans hx
                clear hx
                have HRV := Lib.hid (HRZ.out.under (HB12.out.trans (HV.out.mono HB12.out.size)))
                go_wp2_with fail
                refine (chainP_any _ R x _ HRV.out (by have := HLZ.out; omega)).mono ?_
                rintro e P1 ⟨l1, e1, v1, ht1, rfl, hi1, b1⟩
                have HT1 := Lib.hid ht1
                have HI1 := Lib.hid hi1
                have HR1' := Lib.hid (HRV.out.under b1)
                have HV1 := Lib.hid (HV.out.trans (b1.mono HV.out.size))
                clear ht1 hi1 b1 HRV HV cx
                go_wp2_with fail
                refine (chainR_any _ R x _ HR1'.out (by have := HLZ.out; omega)).mono ?_
                rintro e P2 ⟨l2, e2, v2, ht2, rfl, hi2, b2⟩
                have HLN1 := Lib.hid (ctag_len HT1.out HLZ.out)
                obtain ⟨rfl, rfl⟩ := ctag_one HT1.out ht2
                have HI12 := Lib.hid (HI1.out.under b2)
                have HI22 := Lib.hid hi2
                have HR2 := Lib.hid (HR1'.out.under b2)
                have HV2 := Lib.hid (HV1.out.trans (b2.mono HV1.out.size))
                clear ht2 hi2 b2 HT1 HI1 HR1' HV1
                go_wp2_with fail
                refine (suspectsP_any _ R x _ HR2.out HLZ.out HNZ.out).mono ?_
                rintro e P3 ⟨l3, e3, v3, ht3, rfl, hi3, b3⟩
                have HT3 := Lib.hid ht3
                have HI13 := Lib.hid (HI12.out.under b3)
                have HI23 := Lib.hid (HI22.out.under b3)
                have HI33 := Lib.hid hi3
                have HR3 := Lib.hid (HR2.out.under b3)
                have HV3 := Lib.hid (HV2.out.trans (b3.mono HV2.out.size))
                clear ht3 hi3 b3 HI12 HI22 HR2 HV2
                go_wp2_with fail
                refine (HREF.out _ R x _ HR3.out HLZ.out).mono ?_
                rintro e P4 ⟨l4, e4, v4, ht4, rfl, hi4, b4⟩
                have HLN3 := Lib.hid (sust_len HT3.out HLZ.out)
                obtain ⟨rfl, rfl⟩ := susT_one HT3.out ht4
                have HI14 := Lib.hid (HI13.out.under b4)
                have HI24 := Lib.hid (HI23.out.under b4)
                have HI34 := Lib.hid (HI33.out.under b4)
                have HI44 := Lib.hid hi4
                have HV4 := Lib.hid (HV3.out.trans (b4.mono HV3.out.size))
                clear ht4 hi4 b4 HI13 HI23 HI33 HR3 HV3 HT3
                go_wp2_with fail
                refine (ints_is _ _ l1 _ HI14.out HI24.out HLN1.out).mono ?_
                rintro e P5 ⟨rfl, b5⟩
                have HI35 := Lib.hid (HI34.out.under b5)
                have HI45 := Lib.hid (HI44.out.under b5)
                have HV5 := Lib.hid (HV4.out.trans (b5.mono HV4.out.size))
                clear b5 HI14 HI24 HI34 HI44 HV4
                go_wp2_with fail
                refine (ints_is _ _ l3 _ HI35.out HI45.out HLN3.out).mono ?_
                rintro e P6 ⟨rfl, b6⟩
                have HV6 := Lib.hid (HV5.out.trans (b6.mono HV5.out.size))
                clear b6 HI35 HI45 HV5
                go_wp2_with fail
                go_roundw
                case rel => exact ⟨j + 1, by omega, by go_num, HV6⟩
                case measure => simp [intOf]; omega
              · have j1 : ¬ (j : Int) < 2 := by omega
                have HB13 := Lib.hid (HB12.out.trans (HV.out.mono HB12.out.size))
                clear HB12 HV HKK
                by_cases hR1 : 1 < R.length
                · have r1 : (1 : Int) < (R.length : Int) := by omega
                  have hr0 : 0 < R.length := by omega
                  have HRW := Lib.hid (HRZ.out.under HB13.out)
                  obtain ⟨A', cap', eA0, -, -, hat⟩ := HRW.out
                  injection eA0 with eA0 eA1 eA2
                  subst eA0
                  clear eA1 eA2
                  obtain ⟨g, off, rfl, hgl, h8a⟩ := hat 0 hr0
                  obtain ⟨g', off', e', -, h8b⟩ := hat 1 hR1
                  injection e' with e'
                  injection e' with e' e''
                  subst e' e''
                  have HGL := Lib.hid hgl
                  have h8a' : At8 wr g off R[0] := h8a
                  have h8b' : At8 wr g (off + 8) R[1] := h8b
                  clear hat hgl h8a h8b
                  generalize R[0] = rx at h8a'
                  generalize R[1] = ry at h8b'
                  obtain ⟨xk, xn, xt, xF, xA, xB, xC, xa, xu, xc⟩ := rx
                  obtain ⟨yk, yn, yt, yF, yA, yB, yC, ya, yu, yc⟩ := ry
                  have HX8 := Lib.hid h8a'
                  have HY8 := Lib.hid h8b'
                  clear h8a' h8b'
                  obtain ⟨pb, hpb⟩ : ∃ pb, plB k ⟨xk, xn, xt, xF, xA, xB, xC, xa, xu, xc⟩ ⟨yk, yn, yt, yF, yA, yB, yC, ya, yu, yc⟩ = pb := ⟨_, rfl⟩
                  have HPB := Lib.hid hpb
                  clear hpb
                  go_upto_region 21 with fail
                  have hS0 := Lib.hid (show (wr.cell? ⟨g, off, none⟩ = some (.int .i64 xk) ∧ wr.cell? ⟨g, off + 1, none⟩ = some (.string xn) ∧ wr.cell? ⟨g, off + 2, none⟩ = some (.int .i64 xt) ∧ wr.cell? ⟨g, off + 3, none⟩ = some (.int .i64 xF) ∧ wr.cell? ⟨g, off + 4, none⟩ = some (.int .i64 xA) ∧ wr.cell? ⟨g, off + 5, none⟩ = some (.int .i64 xB) ∧ wr.cell? ⟨g, off + 6, none⟩ = some (.int .i64 xC) ∧ wr.cell? ⟨g, off + 7, none⟩ = some (.slice xa xu xc)) ∧ (wr.cell? ⟨g, off + 8, none⟩ = some (.int .i64 yk) ∧ wr.cell? ⟨g, off + 9, none⟩ = some (.string yn) ∧ wr.cell? ⟨g, off + 10, none⟩ = some (.int .i64 yt) ∧ wr.cell? ⟨g, off + 11, none⟩ = some (.int .i64 yF) ∧ wr.cell? ⟨g, off + 12, none⟩ = some (.int .i64 yA) ∧ wr.cell? ⟨g, off + 13, none⟩ = some (.int .i64 yB) ∧ wr.cell? ⟨g, off + 14, none⟩ = some (.int .i64 yC) ∧ wr.cell? ⟨g, off + 15, none⟩ = some (.slice ya yu yc)) from ⟨HX8.out, HY8.out⟩)
                  refine wp_region_held_drew (S := fun w' : World => (w'.cell? ⟨g, off, none⟩ = some (.int .i64 xk) ∧ w'.cell? ⟨g, off + 1, none⟩ = some (.string xn) ∧ w'.cell? ⟨g, off + 2, none⟩ = some (.int .i64 xt) ∧ w'.cell? ⟨g, off + 3, none⟩ = some (.int .i64 xF) ∧ w'.cell? ⟨g, off + 4, none⟩ = some (.int .i64 xA) ∧ w'.cell? ⟨g, off + 5, none⟩ = some (.int .i64 xB) ∧ w'.cell? ⟨g, off + 6, none⟩ = some (.int .i64 xC) ∧ w'.cell? ⟨g, off + 7, none⟩ = some (.slice xa xu xc)) ∧ (w'.cell? ⟨g, off + 8, none⟩ = some (.int .i64 yk) ∧ w'.cell? ⟨g, off + 9, none⟩ = some (.string yn) ∧ w'.cell? ⟨g, off + 10, none⟩ = some (.int .i64 yt) ∧ w'.cell? ⟨g, off + 11, none⟩ = some (.int .i64 yF) ∧ w'.cell? ⟨g, off + 12, none⟩ = some (.int .i64 yA) ∧ w'.cell? ⟨g, off + 13, none⟩ = some (.int .i64 yB) ∧ w'.cell? ⟨g, off + 14, none⟩ = some (.int .i64 yC) ∧ w'.cell? ⟨g, off + 15, none⟩ = some (.slice ya yu yc))) (by kernel_rfl) hS0.out (fun hHeld => ?_)
                  refine tk 0 (oi := ⟨some 122, _, _, _, _, none⟩) rfl ?_
                  try go_frame
                  refine tk 1 (oi := ⟨some 123, _, _, _, _, none⟩) rfl ?_
                  try go_frame
                  refine tk 2 (oi := ⟨some 124, _, _, _, _, none⟩) rfl ?_
                  try go_frame
                  refine tk 3 (oi := ⟨some 125, _, _, _, _, none⟩) rfl ?_
                  try go_frame
                  refine tk 4 (oi := ⟨some 126, _, _, _, _, some _⟩) rfl ?_
                  try go_frame
                  refine tk 5 (oi := ⟨some 127, _, _, _, _, some _⟩) rfl ?_
                  try go_frame
                  refine tk 6 (oi := ⟨some 128, _, _, _, _, some _⟩) rfl ?_
                  try go_frame
                  refine tk 7 (oi := ⟨some 129, _, _, _, _, some _⟩) rfl ?_
                  try go_frame
                  refine tk 8 (oi := ⟨some 130, _, _, _, _, some _⟩) rfl ?_
                  try go_frame
                  refine tk 9 (oi := ⟨some 131, _, _, _, _, some _⟩) rfl ?_
                  try go_frame
                  refine tk 10 (oi := ⟨some 132, _, _, _, _, some _⟩) rfl ?_
                  try go_frame
                  refine tk 12 (oi := ⟨some 134, _, _, _, _, some _⟩) rfl ?_
                  try go_frame
                  refine tk 13 (oi := ⟨some 135, _, _, _, _, some _⟩) rfl ?_
                  try go_frame
                  refine tk 14 (oi := ⟨some 136, _, _, _, _, some _⟩) rfl ?_
                  try go_frame
                  refine tk 15 (oi := ⟨some 137, _, _, _, _, some _⟩) rfl ?_
                  try go_frame
                  refine tk 16 (oi := ⟨some 138, _, _, _, _, some _⟩) rfl ?_
                  try go_frame
                  refine tk 17 (oi := ⟨some 139, _, _, _, _, some _⟩) rfl ?_
                  try go_frame
                  refine tk 18 (oi := ⟨some 140, _, _, _, _, some _⟩) rfl ?_
                  try go_frame
                  refine wpAnyH_ready (rs := [11]) (by kernel_rfl) (by simp) ?_
                  refine AllReadyH.cons (o := ⟨some 133, _, _, _, _, some _⟩) rfl (fun K hK => ?_) AllReadyH.nil
                  have hd : Below wr.heap.size wr wr.drew := ⟨rfl, rfl, rfl, Nat.le_refl _, fun _ _ => rfl⟩
                  go_simp
                  refine (plausibleP_any xk xn xt xF xA xB xC xa xu xc yk yn yt yF yA yB yC ya yu yc k _).mono ?_
                  rintro e Xa ⟨rfl, hbXa⟩
                  have DXa := Lib.hid (hd.trans (hbXa.mono hd.size))
                  have HXXa := Lib.hid (HX8.out.under HGL.out DXa.out)
                  have HYXa := Lib.hid (HY8.out.under HGL.out DXa.out)
                  rw [HPB.out]
                  clear hbXa hHeld hd hS0
                  go_wp2_with fail
                  have hSXa := Lib.hid (show (Xa.cell? ⟨g, off, none⟩ = some (.int .i64 xk) ∧ Xa.cell? ⟨g, off + 1, none⟩ = some (.string xn) ∧ Xa.cell? ⟨g, off + 2, none⟩ = some (.int .i64 xt) ∧ Xa.cell? ⟨g, off + 3, none⟩ = some (.int .i64 xF) ∧ Xa.cell? ⟨g, off + 4, none⟩ = some (.int .i64 xA) ∧ Xa.cell? ⟨g, off + 5, none⟩ = some (.int .i64 xB) ∧ Xa.cell? ⟨g, off + 6, none⟩ = some (.int .i64 xC) ∧ Xa.cell? ⟨g, off + 7, none⟩ = some (.slice xa xu xc)) ∧ (Xa.cell? ⟨g, off + 8, none⟩ = some (.int .i64 yk) ∧ Xa.cell? ⟨g, off + 9, none⟩ = some (.string yn) ∧ Xa.cell? ⟨g, off + 10, none⟩ = some (.int .i64 yt) ∧ Xa.cell? ⟨g, off + 11, none⟩ = some (.int .i64 yF) ∧ Xa.cell? ⟨g, off + 12, none⟩ = some (.int .i64 yA) ∧ Xa.cell? ⟨g, off + 13, none⟩ = some (.int .i64 yB) ∧ Xa.cell? ⟨g, off + 14, none⟩ = some (.int .i64 yC) ∧ Xa.cell? ⟨g, off + 15, none⟩ = some (.slice ya yu yc)) from ⟨HXXa.out, HYXa.out⟩)
                  refine hK.out _ _ hSXa.out (fun hHeld => ?_)
                  clear hK K hSXa
                  try go_frame
                  refine wpAnyH_ready (rs := [19]) (by kernel_rfl) (by simp) ?_
                  refine AllReadyH.cons (o := ⟨some 141, _, _, _, _, some _⟩) rfl (fun K hK => ?_) AllReadyH.nil
                  go_simp
                  refine (plausibleR_any xk xn xt xF xA xB xC xa xu xc yk yn yt yF yA yB yC ya yu yc k _).mono ?_
                  rintro e Xb ⟨rfl, hbXb⟩
                  have DXb := Lib.hid (DXa.out.trans (hbXb.mono DXa.out.size))
                  have HXXb := Lib.hid (HX8.out.under HGL.out DXb.out)
                  have HYXb := Lib.hid (HY8.out.under HGL.out DXb.out)
                  rw [HPB.out]
                  clear hbXb hHeld
                  go_wp2_with fail
                  have hSXb := Lib.hid (show (Xb.cell? ⟨g, off, none⟩ = some (.int .i64 xk) ∧ Xb.cell? ⟨g, off + 1, none⟩ = some (.string xn) ∧ Xb.cell? ⟨g, off + 2, none⟩ = some (.int .i64 xt) ∧ Xb.cell? ⟨g, off + 3, none⟩ = some (.int .i64 xF) ∧ Xb.cell? ⟨g, off + 4, none⟩ = some (.int .i64 xA) ∧ Xb.cell? ⟨g, off + 5, none⟩ = some (.int .i64 xB) ∧ Xb.cell? ⟨g, off + 6, none⟩ = some (.int .i64 xC) ∧ Xb.cell? ⟨g, off + 7, none⟩ = some (.slice xa xu xc)) ∧ (Xb.cell? ⟨g, off + 8, none⟩ = some (.int .i64 yk) ∧ Xb.cell? ⟨g, off + 9, none⟩ = some (.string yn) ∧ Xb.cell? ⟨g, off + 10, none⟩ = some (.int .i64 yt) ∧ Xb.cell? ⟨g, off + 11, none⟩ = some (.int .i64 yF) ∧ Xb.cell? ⟨g, off + 12, none⟩ = some (.int .i64 yA) ∧ Xb.cell? ⟨g, off + 13, none⟩ = some (.int .i64 yB) ∧ Xb.cell? ⟨g, off + 14, none⟩ = some (.int .i64 yC) ∧ Xb.cell? ⟨g, off + 15, none⟩ = some (.slice ya yu yc)) from ⟨HXXb.out, HYXb.out⟩)
                  refine hK.out _ _ hSXb.out (fun hHeld => ?_)
                  clear hK K hSXb
                  try go_frame
                  refine tk 20 (oi := ⟨some 142, _, _, _, _, some _⟩) rfl ?_
                  try go_frame
                  refine tk 21 (oi := ⟨some 143, _, _, _, _, none⟩) rfl ?_
                  try go_frame
                  refine wpAnyH_done (by kernel_rfl) ?_ _
                  have HBZ := Lib.hid (HB13.out.trans (DXb.out.mono HB13.out.size))
                  clear hHeld
                  have hpp : pb = false ∨ pb = true := by cases pb; exact .inl rfl; exact .inr rfl
                  rcases hpp with rfl | rfl
                  all_goals go_wp2_with fail
                  all_goals go_roundw
                  case rel => exact ⟨i + 1, by omega, by go_num, HBZ⟩
                  case measure => simp [intOf]; omega
                  case rel => exact ⟨i + 1, by omega, by go_num, HBZ⟩
                  case measure => simp [intOf]; omega
                · have r1 : ¬ (1 : Int) < (R.length : Int) := by omega
                  go_upto_region 21 with fail
                  refine wp_region_held_drew (S := fun _ : World => True) (by kernel_rfl) trivial (fun hHeld => ?_)
                  refine tk 0 (oi := ⟨some 122, _, _, _, _, none⟩) rfl ?_
                  try go_frame
                  refine tk 1 (oi := ⟨some 123, _, _, _, _, none⟩) rfl ?_
                  try go_frame
                  refine tk 2 (oi := ⟨some 124, _, _, _, _, none⟩) rfl ?_
                  try go_frame
                  refine tk 3 (oi := ⟨some 125, _, _, _, _, none⟩) rfl ?_
                  try go_frame
                  refine sk 4 (oi := ⟨some 126, _, _, _, _, some _⟩) rfl ?_
                  try go_frame
                  refine sk 5 (oi := ⟨some 127, _, _, _, _, some _⟩) rfl ?_
                  try go_frame
                  refine sk 6 (oi := ⟨some 128, _, _, _, _, some _⟩) rfl ?_
                  try go_frame
                  refine sk 7 (oi := ⟨some 129, _, _, _, _, some _⟩) rfl ?_
                  try go_frame
                  refine sk 8 (oi := ⟨some 130, _, _, _, _, some _⟩) rfl ?_
                  try go_frame
                  refine sk 9 (oi := ⟨some 131, _, _, _, _, some _⟩) rfl ?_
                  try go_frame
                  refine sk 10 (oi := ⟨some 132, _, _, _, _, some _⟩) rfl ?_
                  try go_frame
                  refine sk 11 (oi := ⟨some 133, _, _, _, _, some _⟩) rfl ?_
                  try go_frame
                  refine sk 12 (oi := ⟨some 134, _, _, _, _, some _⟩) rfl ?_
                  try go_frame
                  refine sk 13 (oi := ⟨some 135, _, _, _, _, some _⟩) rfl ?_
                  try go_frame
                  refine sk 14 (oi := ⟨some 136, _, _, _, _, some _⟩) rfl ?_
                  try go_frame
                  refine sk 15 (oi := ⟨some 137, _, _, _, _, some _⟩) rfl ?_
                  try go_frame
                  refine sk 16 (oi := ⟨some 138, _, _, _, _, some _⟩) rfl ?_
                  try go_frame
                  refine sk 17 (oi := ⟨some 139, _, _, _, _, some _⟩) rfl ?_
                  try go_frame
                  refine sk 18 (oi := ⟨some 140, _, _, _, _, some _⟩) rfl ?_
                  try go_frame
                  refine sk 19 (oi := ⟨some 141, _, _, _, _, some _⟩) rfl ?_
                  try go_frame
                  refine sk 20 (oi := ⟨some 142, _, _, _, _, some _⟩) rfl ?_
                  try go_frame
                  refine tk 21 (oi := ⟨some 143, _, _, _, _, none⟩) rfl ?_
                  try go_frame
                  refine wpAnyH_done (by kernel_rfl) ?_ _
                  have hdd : Below wr.heap.size wr wr.drew := ⟨rfl, rfl, rfl, Nat.le_refl _, fun _ _ => rfl⟩
                  have HBZ := Lib.hid (HB13.out.trans (hdd.mono HB13.out.size))
                  clear hHeld hdd
                  go_wp2_with fail
                  go_roundw
                  case rel => exact ⟨i + 1, by omega, by go_num, HBZ⟩
                  case measure => simp [intOf]; omega
          · have i1 : ¬ (i : Int) < 3 := by omega
            by_cases h30 : 30 < R0.length
            · have i3 : (30 : Int) < (R0.length : Int) := by omega
              go_wp2_with fail
              have HRW := Lib.hid (HR9.out.under HW.out)
              refine (chainP_any _ R0 h _ HRW.out (by have := HS.out.1; omega)).mono ?_
              rintro e P1 ⟨l1, e1, v1, ht1, rfl, hi1, b1⟩
              obtain rfl : e1 = 2 := by
                rcases ht1 with ⟨-, -, e⟩ | ⟨a, -⟩ | ⟨a, -⟩ | ⟨a, -⟩
                · exact e
                · omega
                · omega
                · omega
              have HB1 := Lib.hid (HB9.out.trans ((HW.out.trans (b1.mono HW.out.size)).mono HB9.out.size))
              clear ht1 hi1 b1 HRW
              go_wp2_with fail
              refine (awake_any _).mono ?_
              rintro e wz ⟨rfl, bz⟩
              go_wp2_with fail
              go_ret
              have h2 := HB1.out.trans (bz.mono HB1.out.size)
              exact ⟨rfl, B0.out.trans (h2.mono B0.out.size)⟩
            · have i3 : ¬ (30 : Int) < (R0.length : Int) := by omega
              go_wp2_with fail
              refine (awake_any _).mono ?_
              rintro e wz ⟨rfl, bz⟩
              go_wp2_with fail
              go_ret
              have h1 := HB9.out.trans (HW.out.mono HB9.out.size)
              have h2 := h1.trans (bz.mono h1.size)
              exact ⟨rfl, B0.out.trans (h2.mono B0.out.size)⟩
    · have x1 : ¬ (1 : Int) < (n : Int) := by omega
      go_upto_region 8 with fail
      clear x1
      have HN := M5
      have HX := Lib.hid (And.intro HNX.out NX.out)
      generalize w5 = WW at *
      obtain ⟨m, hm⟩ : ∃ m, (min (R0.length : Int) 6).toNat = m := ⟨_, rfl⟩
      have HM := Lib.hid hm
      go_upto_region 9 with fail
      have hm6 : m ≤ 6 ∧ m ≤ R0.length := by omega
      clear hm
      have HDB : Hid (Below w0.heap.size w0 WW) := Lib.hid HN.out.a.src.below
      have HZ := Lib.hid (zs_made (t := 22) (rq_take (HR1.out.under HDB.out) hm6.2) HN.out.a.rq HN.out.b.rq ⟨by rw [List.length_take]; omega, fun r hr => by have := HS.out.2 r (List.mem_of_mem_take hr); unfold maxLen; omega⟩ ⟨by rw [HX.out.1]; omega, fun r hr => by have := HX.out.2 r hr; unfold maxLen; omega⟩ ⟨by omega, fun r hr => by have := NY.out r hr; unfold maxLen; omega⟩)
      generalize WW.alloc _ = X9 at *
      have HB9 := Lib.hid (HDB.out.trans (HZ.out.1.mono HDB.out.size))
      have HR9 := Lib.hid (HR1.out.under HB9.out)
      have HZZ := Lib.hid HZ.out.2
      clear HZ HM hm6 HDB HN
      generalize WW.heap.size = G at *
      go_loopw [65] (fun t wr => ∃ i : Nat, i ≤ 3 ∧ t = .int .i64 i ∧ Hid (Below X9.heap.size X9 wr)) (fun t _ => 3 - (intOf t).toNat)
      case atStart => exact ⟨0, Nat.zero_le _, rfl, Lib.hid (Below.refl _ _)⟩
      case round =>
        obtain ⟨i, hi, rfl, HW⟩ := hrel
        by_cases hi3 : i < 3
        · have i1 : (i : Int) < 3 := by omega
          have i2 : (0 : Int) ≤ (i : Int) := by omega
          obtain ⟨z, R, hc, hr, hl, hnm⟩ := HZZ.out.2 i hi3
          have cz := (HW.out.cell (p := ⟨G, i, none⟩) HZZ.out.1).trans hc
          have HRZ := Lib.hid hr
          have HLZ := Lib.hid hl
          have HNZ := Lib.hid hnm
          clear hc hr hl hnm
          obtain ⟨A3, c3, rfl, hc3, hc4, -⟩ := id HRZ.out
          go_upto_region 12 with fail
          have HK := Lib.hid (ks_made (W := wr) (x := h) (y := k) (t := 3))
          generalize wr.alloc _ = X12 at *
          have HB12 := Lib.hid (HW.out.trans (HK.out.1.mono HW.out.size))
          have HKK := Lib.hid HK.out.2
          clear HK HW cz
          generalize wr.heap.size = G2 at *
          go_loopw [73] (fun t wr => ∃ j : Nat, j ≤ 2 ∧ t = .int .i64 j ∧ Hid (Below X12.heap.size X12 wr)) (fun t _ => 2 - (intOf t).toNat)
          case atStart => exact ⟨0, Nat.zero_le _, rfl, Lib.hid (Below.refl _ _)⟩
          case round =>
            obtain ⟨j, hj, rfl, HV⟩ := hrel
            by_cases hj2 : j < 2
            · have j1 : (j : Int) < 2 := by omega
              have j2 : (0 : Int) ≤ (j : Int) := by omega
              obtain ⟨x, hx⟩ := HKK.out.2 j hj2
              have cx := (HV.out.cell (p := ⟨G2, j, none⟩) HKK.out.1).trans hx
              clear hx
              have HRV := Lib.hid (HRZ.out.under (HB12.out.trans (HV.out.mono HB12.out.size)))
              go_wp2_with fail
              refine (chainP_any _ R x _ HRV.out (by have := HLZ.out; omega)).mono ?_
              rintro e P1 ⟨l1, e1, v1, ht1, rfl, hi1, b1⟩
              have HT1 := Lib.hid ht1
              have HI1 := Lib.hid hi1
              have HR1' := Lib.hid (HRV.out.under b1)
              have HV1 := Lib.hid (HV.out.trans (b1.mono HV.out.size))
              clear ht1 hi1 b1 HRV HV cx
              go_wp2_with fail
              refine (chainR_any _ R x _ HR1'.out (by have := HLZ.out; omega)).mono ?_
              rintro e P2 ⟨l2, e2, v2, ht2, rfl, hi2, b2⟩
              have HLN1 := Lib.hid (ctag_len HT1.out HLZ.out)
              obtain ⟨rfl, rfl⟩ := ctag_one HT1.out ht2
              have HI12 := Lib.hid (HI1.out.under b2)
              have HI22 := Lib.hid hi2
              have HR2 := Lib.hid (HR1'.out.under b2)
              have HV2 := Lib.hid (HV1.out.trans (b2.mono HV1.out.size))
              clear ht2 hi2 b2 HT1 HI1 HR1' HV1
              go_wp2_with fail
              refine (suspectsP_any _ R x _ HR2.out HLZ.out HNZ.out).mono ?_
              rintro e P3 ⟨l3, e3, v3, ht3, rfl, hi3, b3⟩
              have HT3 := Lib.hid ht3
              have HI13 := Lib.hid (HI12.out.under b3)
              have HI23 := Lib.hid (HI22.out.under b3)
              have HI33 := Lib.hid hi3
              have HR3 := Lib.hid (HR2.out.under b3)
              have HV3 := Lib.hid (HV2.out.trans (b3.mono HV2.out.size))
              clear ht3 hi3 b3 HI12 HI22 HR2 HV2
              go_wp2_with fail
              refine (HREF.out _ R x _ HR3.out HLZ.out).mono ?_
              rintro e P4 ⟨l4, e4, v4, ht4, rfl, hi4, b4⟩
              have HLN3 := Lib.hid (sust_len HT3.out HLZ.out)
              obtain ⟨rfl, rfl⟩ := susT_one HT3.out ht4
              have HI14 := Lib.hid (HI13.out.under b4)
              have HI24 := Lib.hid (HI23.out.under b4)
              have HI34 := Lib.hid (HI33.out.under b4)
              have HI44 := Lib.hid hi4
              have HV4 := Lib.hid (HV3.out.trans (b4.mono HV3.out.size))
              clear ht4 hi4 b4 HI13 HI23 HI33 HR3 HV3 HT3
              go_wp2_with fail
              refine (ints_is _ _ l1 _ HI14.out HI24.out HLN1.out).mono ?_
              rintro e P5 ⟨rfl, b5⟩
              have HI35 := Lib.hid (HI34.out.under b5)
              have HI45 := Lib.hid (HI44.out.under b5)
              have HV5 := Lib.hid (HV4.out.trans (b5.mono HV4.out.size))
              clear b5 HI14 HI24 HI34 HI44 HV4
              go_wp2_with fail
              refine (ints_is _ _ l3 _ HI35.out HI45.out HLN3.out).mono ?_
              rintro e P6 ⟨rfl, b6⟩
              have HV6 := Lib.hid (HV5.out.trans (b6.mono HV5.out.size))
              clear b6 HI35 HI45 HV5
              go_wp2_with fail
              go_roundw
              case rel => exact ⟨j + 1, by omega, by go_num, HV6⟩
              case measure => simp [intOf]; omega
            · have j1 : ¬ (j : Int) < 2 := by omega
              have HB13 := Lib.hid (HB12.out.trans (HV.out.mono HB12.out.size))
              clear HB12 HV HKK
              by_cases hR1 : 1 < R.length
              · have r1 : (1 : Int) < (R.length : Int) := by omega
                have hr0 : 0 < R.length := by omega
                have HRW := Lib.hid (HRZ.out.under HB13.out)
                obtain ⟨A', cap', eA0, -, -, hat⟩ := HRW.out
                injection eA0 with eA0 eA1 eA2
                subst eA0
                clear eA1 eA2
                obtain ⟨g, off, rfl, hgl, h8a⟩ := hat 0 hr0
                obtain ⟨g', off', e', -, h8b⟩ := hat 1 hR1
                injection e' with e'
                injection e' with e' e''
                subst e' e''
                have HGL := Lib.hid hgl
                have h8a' : At8 wr g off R[0] := h8a
                have h8b' : At8 wr g (off + 8) R[1] := h8b
                clear hat hgl h8a h8b
                generalize R[0] = rx at h8a'
                generalize R[1] = ry at h8b'
                obtain ⟨xk, xn, xt, xF, xA, xB, xC, xa, xu, xc⟩ := rx
                obtain ⟨yk, yn, yt, yF, yA, yB, yC, ya, yu, yc⟩ := ry
                have HX8 := Lib.hid h8a'
                have HY8 := Lib.hid h8b'
                clear h8a' h8b'
                obtain ⟨pb, hpb⟩ : ∃ pb, plB k ⟨xk, xn, xt, xF, xA, xB, xC, xa, xu, xc⟩ ⟨yk, yn, yt, yF, yA, yB, yC, ya, yu, yc⟩ = pb := ⟨_, rfl⟩
                have HPB := Lib.hid hpb
                clear hpb
                go_upto_region 21 with fail
                have hS0 := Lib.hid (show (wr.cell? ⟨g, off, none⟩ = some (.int .i64 xk) ∧ wr.cell? ⟨g, off + 1, none⟩ = some (.string xn) ∧ wr.cell? ⟨g, off + 2, none⟩ = some (.int .i64 xt) ∧ wr.cell? ⟨g, off + 3, none⟩ = some (.int .i64 xF) ∧ wr.cell? ⟨g, off + 4, none⟩ = some (.int .i64 xA) ∧ wr.cell? ⟨g, off + 5, none⟩ = some (.int .i64 xB) ∧ wr.cell? ⟨g, off + 6, none⟩ = some (.int .i64 xC) ∧ wr.cell? ⟨g, off + 7, none⟩ = some (.slice xa xu xc)) ∧ (wr.cell? ⟨g, off + 8, none⟩ = some (.int .i64 yk) ∧ wr.cell? ⟨g, off + 9, none⟩ = some (.string yn) ∧ wr.cell? ⟨g, off + 10, none⟩ = some (.int .i64 yt) ∧ wr.cell? ⟨g, off + 11, none⟩ = some (.int .i64 yF) ∧ wr.cell? ⟨g, off + 12, none⟩ = some (.int .i64 yA) ∧ wr.cell? ⟨g, off + 13, none⟩ = some (.int .i64 yB) ∧ wr.cell? ⟨g, off + 14, none⟩ = some (.int .i64 yC) ∧ wr.cell? ⟨g, off + 15, none⟩ = some (.slice ya yu yc)) from ⟨HX8.out, HY8.out⟩)
                refine wp_region_held_drew (S := fun w' : World => (w'.cell? ⟨g, off, none⟩ = some (.int .i64 xk) ∧ w'.cell? ⟨g, off + 1, none⟩ = some (.string xn) ∧ w'.cell? ⟨g, off + 2, none⟩ = some (.int .i64 xt) ∧ w'.cell? ⟨g, off + 3, none⟩ = some (.int .i64 xF) ∧ w'.cell? ⟨g, off + 4, none⟩ = some (.int .i64 xA) ∧ w'.cell? ⟨g, off + 5, none⟩ = some (.int .i64 xB) ∧ w'.cell? ⟨g, off + 6, none⟩ = some (.int .i64 xC) ∧ w'.cell? ⟨g, off + 7, none⟩ = some (.slice xa xu xc)) ∧ (w'.cell? ⟨g, off + 8, none⟩ = some (.int .i64 yk) ∧ w'.cell? ⟨g, off + 9, none⟩ = some (.string yn) ∧ w'.cell? ⟨g, off + 10, none⟩ = some (.int .i64 yt) ∧ w'.cell? ⟨g, off + 11, none⟩ = some (.int .i64 yF) ∧ w'.cell? ⟨g, off + 12, none⟩ = some (.int .i64 yA) ∧ w'.cell? ⟨g, off + 13, none⟩ = some (.int .i64 yB) ∧ w'.cell? ⟨g, off + 14, none⟩ = some (.int .i64 yC) ∧ w'.cell? ⟨g, off + 15, none⟩ = some (.slice ya yu yc))) (by kernel_rfl) hS0.out (fun hHeld => ?_)
                refine tk 0 (oi := ⟨some 122, _, _, _, _, none⟩) rfl ?_
                try go_frame
                refine tk 1 (oi := ⟨some 123, _, _, _, _, none⟩) rfl ?_
                try go_frame
                refine tk 2 (oi := ⟨some 124, _, _, _, _, none⟩) rfl ?_
                try go_frame
                refine tk 3 (oi := ⟨some 125, _, _, _, _, none⟩) rfl ?_
                try go_frame
                refine tk 4 (oi := ⟨some 126, _, _, _, _, some _⟩) rfl ?_
                try go_frame
                refine tk 5 (oi := ⟨some 127, _, _, _, _, some _⟩) rfl ?_
                try go_frame
                refine tk 6 (oi := ⟨some 128, _, _, _, _, some _⟩) rfl ?_
                try go_frame
                refine tk 7 (oi := ⟨some 129, _, _, _, _, some _⟩) rfl ?_
                try go_frame
                refine tk 8 (oi := ⟨some 130, _, _, _, _, some _⟩) rfl ?_
                try go_frame
                refine tk 9 (oi := ⟨some 131, _, _, _, _, some _⟩) rfl ?_
                try go_frame
                refine tk 10 (oi := ⟨some 132, _, _, _, _, some _⟩) rfl ?_
                try go_frame
                refine tk 12 (oi := ⟨some 134, _, _, _, _, some _⟩) rfl ?_
                try go_frame
                refine tk 13 (oi := ⟨some 135, _, _, _, _, some _⟩) rfl ?_
                try go_frame
                refine tk 14 (oi := ⟨some 136, _, _, _, _, some _⟩) rfl ?_
                try go_frame
                refine tk 15 (oi := ⟨some 137, _, _, _, _, some _⟩) rfl ?_
                try go_frame
                refine tk 16 (oi := ⟨some 138, _, _, _, _, some _⟩) rfl ?_
                try go_frame
                refine tk 17 (oi := ⟨some 139, _, _, _, _, some _⟩) rfl ?_
                try go_frame
                refine tk 18 (oi := ⟨some 140, _, _, _, _, some _⟩) rfl ?_
                try go_frame
                refine wpAnyH_ready (rs := [11]) (by kernel_rfl) (by simp) ?_
                refine AllReadyH.cons (o := ⟨some 133, _, _, _, _, some _⟩) rfl (fun K hK => ?_) AllReadyH.nil
                have hd : Below wr.heap.size wr wr.drew := ⟨rfl, rfl, rfl, Nat.le_refl _, fun _ _ => rfl⟩
                go_simp
                refine (plausibleP_any xk xn xt xF xA xB xC xa xu xc yk yn yt yF yA yB yC ya yu yc k _).mono ?_
                rintro e Xa ⟨rfl, hbXa⟩
                have DXa := Lib.hid (hd.trans (hbXa.mono hd.size))
                have HXXa := Lib.hid (HX8.out.under HGL.out DXa.out)
                have HYXa := Lib.hid (HY8.out.under HGL.out DXa.out)
                rw [HPB.out]
                clear hbXa hHeld hd hS0
                go_wp2_with fail
                have hSXa := Lib.hid (show (Xa.cell? ⟨g, off, none⟩ = some (.int .i64 xk) ∧ Xa.cell? ⟨g, off + 1, none⟩ = some (.string xn) ∧ Xa.cell? ⟨g, off + 2, none⟩ = some (.int .i64 xt) ∧ Xa.cell? ⟨g, off + 3, none⟩ = some (.int .i64 xF) ∧ Xa.cell? ⟨g, off + 4, none⟩ = some (.int .i64 xA) ∧ Xa.cell? ⟨g, off + 5, none⟩ = some (.int .i64 xB) ∧ Xa.cell? ⟨g, off + 6, none⟩ = some (.int .i64 xC) ∧ Xa.cell? ⟨g, off + 7, none⟩ = some (.slice xa xu xc)) ∧ (Xa.cell? ⟨g, off + 8, none⟩ = some (.int .i64 yk) ∧ Xa.cell? ⟨g, off + 9, none⟩ = some (.string yn) ∧ Xa.cell? ⟨g, off + 10, none⟩ = some (.int .i64 yt) ∧ Xa.cell? ⟨g, off + 11, none⟩ = some (.int .i64 yF) ∧ Xa.cell? ⟨g, off + 12, none⟩ = some (.int .i64 yA) ∧ Xa.cell? ⟨g, off + 13, none⟩ = some (.int .i64 yB) ∧ Xa.cell? ⟨g, off + 14, none⟩ = some (.int .i64 yC) ∧ Xa.cell? ⟨g, off + 15, none⟩ = some (.slice ya yu yc)) from ⟨HXXa.out, HYXa.out⟩)
                refine hK.out _ _ hSXa.out (fun hHeld => ?_)
                clear hK K hSXa
                try go_frame
                refine wpAnyH_ready (rs := [19]) (by kernel_rfl) (by simp) ?_
                refine AllReadyH.cons (o := ⟨some 141, _, _, _, _, some _⟩) rfl (fun K hK => ?_) AllReadyH.nil
                go_simp
                refine (plausibleR_any xk xn xt xF xA xB xC xa xu xc yk yn yt yF yA yB yC ya yu yc k _).mono ?_
                rintro e Xb ⟨rfl, hbXb⟩
                have DXb := Lib.hid (DXa.out.trans (hbXb.mono DXa.out.size))
                have HXXb := Lib.hid (HX8.out.under HGL.out DXb.out)
                have HYXb := Lib.hid (HY8.out.under HGL.out DXb.out)
                rw [HPB.out]
                clear hbXb hHeld
                go_wp2_with fail
                have hSXb := Lib.hid (show (Xb.cell? ⟨g, off, none⟩ = some (.int .i64 xk) ∧ Xb.cell? ⟨g, off + 1, none⟩ = some (.string xn) ∧ Xb.cell? ⟨g, off + 2, none⟩ = some (.int .i64 xt) ∧ Xb.cell? ⟨g, off + 3, none⟩ = some (.int .i64 xF) ∧ Xb.cell? ⟨g, off + 4, none⟩ = some (.int .i64 xA) ∧ Xb.cell? ⟨g, off + 5, none⟩ = some (.int .i64 xB) ∧ Xb.cell? ⟨g, off + 6, none⟩ = some (.int .i64 xC) ∧ Xb.cell? ⟨g, off + 7, none⟩ = some (.slice xa xu xc)) ∧ (Xb.cell? ⟨g, off + 8, none⟩ = some (.int .i64 yk) ∧ Xb.cell? ⟨g, off + 9, none⟩ = some (.string yn) ∧ Xb.cell? ⟨g, off + 10, none⟩ = some (.int .i64 yt) ∧ Xb.cell? ⟨g, off + 11, none⟩ = some (.int .i64 yF) ∧ Xb.cell? ⟨g, off + 12, none⟩ = some (.int .i64 yA) ∧ Xb.cell? ⟨g, off + 13, none⟩ = some (.int .i64 yB) ∧ Xb.cell? ⟨g, off + 14, none⟩ = some (.int .i64 yC) ∧ Xb.cell? ⟨g, off + 15, none⟩ = some (.slice ya yu yc)) from ⟨HXXb.out, HYXb.out⟩)
                refine hK.out _ _ hSXb.out (fun hHeld => ?_)
                clear hK K hSXb
                try go_frame
                refine tk 20 (oi := ⟨some 142, _, _, _, _, some _⟩) rfl ?_
                try go_frame
                refine tk 21 (oi := ⟨some 143, _, _, _, _, none⟩) rfl ?_
                try go_frame
                refine wpAnyH_done (by kernel_rfl) ?_ _
                have HBZ := Lib.hid (HB13.out.trans (DXb.out.mono HB13.out.size))
                clear hHeld
                have hpp : pb = false ∨ pb = true := by cases pb; exact .inl rfl; exact .inr rfl
                rcases hpp with rfl | rfl
                all_goals go_wp2_with fail
                all_goals go_roundw
                case rel => exact ⟨i + 1, by omega, by go_num, HBZ⟩
                case measure => simp [intOf]; omega
                case rel => exact ⟨i + 1, by omega, by go_num, HBZ⟩
                case measure => simp [intOf]; omega
              · have r1 : ¬ (1 : Int) < (R.length : Int) := by omega
                go_upto_region 21 with fail
                refine wp_region_held_drew (S := fun _ : World => True) (by kernel_rfl) trivial (fun hHeld => ?_)
                refine tk 0 (oi := ⟨some 122, _, _, _, _, none⟩) rfl ?_
                try go_frame
                refine tk 1 (oi := ⟨some 123, _, _, _, _, none⟩) rfl ?_
                try go_frame
                refine tk 2 (oi := ⟨some 124, _, _, _, _, none⟩) rfl ?_
                try go_frame
                refine tk 3 (oi := ⟨some 125, _, _, _, _, none⟩) rfl ?_
                try go_frame
                refine sk 4 (oi := ⟨some 126, _, _, _, _, some _⟩) rfl ?_
                try go_frame
                refine sk 5 (oi := ⟨some 127, _, _, _, _, some _⟩) rfl ?_
                try go_frame
                refine sk 6 (oi := ⟨some 128, _, _, _, _, some _⟩) rfl ?_
                try go_frame
                refine sk 7 (oi := ⟨some 129, _, _, _, _, some _⟩) rfl ?_
                try go_frame
                refine sk 8 (oi := ⟨some 130, _, _, _, _, some _⟩) rfl ?_
                try go_frame
                refine sk 9 (oi := ⟨some 131, _, _, _, _, some _⟩) rfl ?_
                try go_frame
                refine sk 10 (oi := ⟨some 132, _, _, _, _, some _⟩) rfl ?_
                try go_frame
                refine sk 11 (oi := ⟨some 133, _, _, _, _, some _⟩) rfl ?_
                try go_frame
                refine sk 12 (oi := ⟨some 134, _, _, _, _, some _⟩) rfl ?_
                try go_frame
                refine sk 13 (oi := ⟨some 135, _, _, _, _, some _⟩) rfl ?_
                try go_frame
                refine sk 14 (oi := ⟨some 136, _, _, _, _, some _⟩) rfl ?_
                try go_frame
                refine sk 15 (oi := ⟨some 137, _, _, _, _, some _⟩) rfl ?_
                try go_frame
                refine sk 16 (oi := ⟨some 138, _, _, _, _, some _⟩) rfl ?_
                try go_frame
                refine sk 17 (oi := ⟨some 139, _, _, _, _, some _⟩) rfl ?_
                try go_frame
                refine sk 18 (oi := ⟨some 140, _, _, _, _, some _⟩) rfl ?_
                try go_frame
                refine sk 19 (oi := ⟨some 141, _, _, _, _, some _⟩) rfl ?_
                try go_frame
                refine sk 20 (oi := ⟨some 142, _, _, _, _, some _⟩) rfl ?_
                try go_frame
                refine tk 21 (oi := ⟨some 143, _, _, _, _, none⟩) rfl ?_
                try go_frame
                refine wpAnyH_done (by kernel_rfl) ?_ _
                have hdd : Below wr.heap.size wr wr.drew := ⟨rfl, rfl, rfl, Nat.le_refl _, fun _ _ => rfl⟩
                have HBZ := Lib.hid (HB13.out.trans (hdd.mono HB13.out.size))
                clear hHeld hdd
                go_wp2_with fail
                go_roundw
                case rel => exact ⟨i + 1, by omega, by go_num, HBZ⟩
                case measure => simp [intOf]; omega
        · have i1 : ¬ (i : Int) < 3 := by omega
          by_cases h30 : 30 < R0.length
          · have i3 : (30 : Int) < (R0.length : Int) := by omega
            go_wp2_with fail
            have HRW := Lib.hid (HR9.out.under HW.out)
            refine (chainP_any _ R0 h _ HRW.out (by have := HS.out.1; omega)).mono ?_
            rintro e P1 ⟨l1, e1, v1, ht1, rfl, hi1, b1⟩
            obtain rfl : e1 = 2 := by
              rcases ht1 with ⟨-, -, e⟩ | ⟨a, -⟩ | ⟨a, -⟩ | ⟨a, -⟩
              · exact e
              · omega
              · omega
              · omega
            have HB1 := Lib.hid (HB9.out.trans ((HW.out.trans (b1.mono HW.out.size)).mono HB9.out.size))
            clear ht1 hi1 b1 HRW
            go_wp2_with fail
            refine (awake_any _).mono ?_
            rintro e wz ⟨rfl, bz⟩
            go_wp2_with fail
            go_ret
            have h2 := HB1.out.trans (bz.mono HB1.out.size)
            exact ⟨rfl, B0.out.trans (h2.mono B0.out.size)⟩
          · have i3 : ¬ (30 : Int) < (R0.length : Int) := by omega
            go_wp2_with fail
            refine (awake_any _).mono ?_
            rintro e wz ⟨rfl, bz⟩
            go_wp2_with fail
            go_ret
            have h1 := HB9.out.trans (HW.out.mono HB9.out.size)
            have h2 := h1.trans (bz.mono h1.size)
            exact ⟨rfl, B0.out.trans (h2.mono B0.out.size)⟩
end Go.Proofs.YtejoabaanclcbaaGreat.Tk

