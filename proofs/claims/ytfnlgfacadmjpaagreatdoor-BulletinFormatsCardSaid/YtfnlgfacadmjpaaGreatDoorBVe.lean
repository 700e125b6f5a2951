/- The program's Format of any bulletin. The reference's Format of any bulletin. -/
import Derived.Test.YtfnlgfacadmjpaaGreatDoorBVc
import Derived.Test.YtfnlgfacadmjpaaGreatDoorBFt
namespace Go.Proofs.YtfnlgfacadmjpaaGreatDoor.Bu
open Go.RowKit
attribute [local go_sem] S_add S_size Ck.S_one S_two

/-- What Format answers. -/
noncomputable def fmV (c : List UInt8) (t cor del : Int) (R : List Rp) : Value :=
  if vcb (S c) t cor del R = 0 then
    if (hdT c t cor del ++ 10 :: bdy R).length ≤ 4000 then .tuple #[.string (S (hdT c t cor del ++ 10 :: bdy R)), .int .i64 0]
    else .tuple #[.string ⟨#[]⟩, .int .i64 2]
  else .tuple #[.string ⟨#[]⟩, .int .i64 (vcb (S c) t cor del R)]
set_option maxRecDepth 100000 in
set_option maxHeartbeats 4000000 in
theorem format6_any (c : List UInt8) (t cor del : Int) (v : Value) (R : List Rp) (w : World) (hE : Env w) (hR : RpsIn w v R) :
    Calls Tryz.prog 15 #[bulV (S c) t cor del v] w fun e w' => e = .returned (fmV c t cor del R) ∧ Below w.heap.size w w' := by
  have HR := Lib.hid hR
  have HE := Lib.hid hE
  obtain ⟨A, cap, rfl, hlc, hcm, -⟩ := hR
  have hJ := Bx.new w (S c) t cor del (.slice A R.length cap)
  have HVa := Lib.hid (fun Y (hY : Below w.heap.size w Y) => validate6_any (S c) t cor del (.slice A R.length cap) R Y (hE.under hY) (HR.out.under hY))
  obtain ⟨FV, hFV⟩ : ∃ FV, fmV c t cor del R = FV := ⟨_, rfl⟩
  rw [hFV]
  unfold fmV at hFV
  by_cases hv : vcb (S c) t cor del R = 0
  · have hV := vcb_zero hv
    rw [if_pos hv] at hFV
    rw [hv] at HVa
    clear hv
    have HV := Lib.hid hV
    have hl60 := hV.hlen
    have HHe := Lib.hid (fun Y (hY : Below w.heap.size w Y) => heading_yes c t cor del A R.length cap R Y (hE.under hY) hV)
    have hhl := hdT_len hV.hctr hV.htime hV.hcor hV.hdel hV.hone
    have hbl := bdy_len R (fun r hr => (hV.hreps r hr).1)
    generalize hT : hdT c t cor del = T at *
    have HTT := Lib.hid hT
    generalize hsc : S c = sc at *
    have HFV := Lib.hid hFV.symm
    clear hT hsc hE hV hFV
    have HJ := Lib.hid hJ
    clear hJ
    go_enter Tryz.func15, Tryz.ntmps15
    go_upto_region 1 with fail
    refine forget (fun V => Hid (Bx w w.heap.size sc t cor del (.slice A R.length cap) V)) HJ ?_
    clear HJ
    obtain ⟨g1, e1⟩ : ∃ g1, w.heap.size = g1 := ⟨_, rfl⟩
    have E1 := Lib.hid e1
    rw [e1]
    clear e1
    intro Y0 HJ
    obtain ⟨q0, q1, q2, q3, q4⟩ := row5 HJ.out.1
    go_wp2_with fail
    refine (HVa.out _ HJ.out.2).mono ?_
    rintro e w1 ⟨rfl, hb⟩
    have HJ2 : Hid (Bx w g1 sc t cor del (.slice A R.length cap) w1) := Lib.hid (HJ.out.under hb)
    clear hb HJ q0 q1 q2 q3 q4 HVa
    obtain ⟨q0, q1, q2, q3, q4⟩ := row5 HJ2.out.1
    go_wp2_with fail
    refine (HHe.out _ HJ2.out.2).mono ?_
    rintro e w2 ⟨rfl, hb⟩
    have HJ3 : Hid (Bx w g1 sc t cor del (.slice A R.length cap) w2) := Lib.hid (HJ2.out.under hb)
    clear hb HJ2 q0 q1 q2 q3 q4 HHe
    obtain ⟨q0, q1, q2, q3, q4⟩ := row5 HJ3.out.1
    go_wp2_with fail
    clear q0 q1 q2 q3 q4
    go_loopw [5, 21] (fun s u Y => ∃ k : Nat, k ≤ R.length ∧ u = .int .i64 k ∧ s = .string (S (T ++ ([10] ++ bdy (R.take k)))) ∧ Hid (Bx w g1 sc t cor del (.slice A R.length cap) Y)) (fun _ u _ => R.length - (intOf u).toNat)
    case atStart => exact ⟨0, Nat.zero_le _, rfl, by simp [bdy], HJ3⟩
    case round =>
      clear HJ3
      obtain ⟨k, hk, rfl, rfl, M⟩ := hrel
      by_cases hlt : k < R.length
      · have k0 : (0 : Int) ≤ (k : Int) := by omega
        have k1 : (k : Int) < (R.length : Int) := by omega
        obtain ⟨A', cap', ea, -, -, h4⟩ := (HR.out.under M.out.2)
        injection ea with ea _ ec
        subst ea
        subst ec
        obtain ⟨g, off, rfl, hgl, h8, hrd⟩ := h4 k hlt
        obtain ⟨c0, c1, c2, c3, c4, c5, c6, c7⟩ := h8
        obtain ⟨hvk, -⟩ := HV.out.hreps _ (List.getElem_mem hlt)
        have hbm := bdy_more hlt
        have hbk := bdy_len (R.take k) (fun r hr => (HV.out.hreps r (List.mem_of_mem_take hr)).1)
        rw [List.length_take, Nat.min_eq_left hk] at hbk
        obtain ⟨rk, hrk0⟩ : ∃ rk, R[k] = rk := ⟨_, rfl⟩
        rw [hrk0] at c0 c1 c2 c3 c4 c5 c6 c7 hrd hvk hbm
        clear hrk0 h4 hgl
        obtain ⟨kk, nm, tt, F, A0, B, C, uu, L⟩ := rk
        simp only at c0 c1 c2 c3 c4 c5 c6 c7 hrd hvk hbm
        have hgl := gtx_le hvk
        obtain ⟨Au, cu, eu, -⟩ := id hrd
        subst eu
        have HBM := Lib.hid (show T ++ ([10] ++ bdy (R.take (k + 1))) = T ++ ([10] ++ bdy (R.take k)) ++ (gtx kk nm tt F A0 B L ++ [61, 10]) by rw [hbm]; simp [ends])
        have hJl : (T ++ ([10] ++ bdy (R.take k))).length ≤ 9000 := by simp only [List.length_append, List.length_cons, List.length_nil]; omega
        have hb2 : Below wr.heap.size wr (wr.alloc (.cells (repC kk nm tt F A0 B C (.slice Au L.length cu)) 53)) := (Below.refl _ _).alloc (Nat.le_refl _) _
        have HFa := Lib.hid (format_yes kk nm tt F A0 B C (.slice Au L.length cu) L _ (hrd.under hb2) (HE.out.under (M.out.under hb2).2) hvk)
        have M2 := Lib.hid (⟨M.out.under hb2, Row.new _ _ _⟩ : Bx w g1 sc t cor del (.slice (some ⟨g, off, none⟩) R.length cap) (wr.alloc (.cells (repC kk nm tt F A0 B C (.slice Au L.length cu)) 53)) ∧ Row (wr.alloc (.cells (repC kk nm tt F A0 B C (.slice Au L.length cu)) 53)) wr.heap.size 53 (repC kk nm tt F A0 B C (.slice Au L.length cu)))
        clear hb2 hrd M hbm hbk hvk
        generalize gtx kk nm tt F A0 B L = G at *
        generalize T ++ ([10] ++ bdy (R.take k)) = J at *
        obtain ⟨p0, p1, p2, p3, p4, p5, p6, p7⟩ := row8 M2.out.2
        go_wp2_with fail
        refine HFa.out.mono ?_
        rintro e w3 ⟨rfl, hb⟩
        have M3 : Hid (Bx w g1 sc t cor del (.slice (some ⟨g, off, none⟩) R.length cap) w3) := Lib.hid (M2.out.1.under hb)
        clear hb M2 HFa p0 p1 p2 p3 p4 p5 p6 p7 c0 c1 c2 c3 c4 c5 c6 c7
        go_wp2_with fail
        go_roundw
        case rel => exact ⟨k + 1, by omega, by go_num, by rw [HBM.out], M3⟩
        case measure => simp [intOf]; omega
      · have k1 : ¬ (k : Int) < (R.length : Int) := by omega
        have hkR : R.take k = R := List.take_of_length_le (by omega)
        rw [hkR]
        have hJl : (T ++ ([10] ++ bdy R)).length ≤ 9000 := by simp only [List.length_append, List.length_cons, List.length_nil]; omega
        have HJJ := Lib.hid (show T ++ 10 :: bdy R = T ++ ([10] ++ bdy R) from rfl)
        clear hkR
        generalize hJJ : T ++ ([10] ++ bdy R) = J at *
        clear hJJ
        by_cases h4' : J.length ≤ 4000
        · have h4 : ¬ (4000 : Int) < (J.length : Int) := by omega
          have HL := Lib.hid h4'
          clear h4'
          go_wp2_with fail
          go_ret2
          exact ⟨by rw [HFV.out, if_pos (by rw [HJJ.out]; exact HL.out), HJJ.out]; rfl, M.out.2⟩
        · have h4 : (4000 : Int) < (J.length : Int) := by omega
          have HL := Lib.hid h4'
          clear h4'
          go_wp2_with fail
          go_ret2
          exact ⟨by rw [HFV.out, if_neg (by rw [HJJ.out]; exact HL.out)]; rfl, M.out.2⟩
  · rw [if_neg hv] at hFV
    have HFV := Lib.hid hFV.symm
    generalize vcb (S c) t cor del R = vc at *
    have hv1 : (vc != 0) = true := by rw [bne_iff_ne]; exact hv
    clear hE hv hFV
    have HJ := Lib.hid hJ
    clear hJ
    go_enter Tryz.func15, Tryz.ntmps15
    go_upto_region 1 with fail
    refine forget (fun V => Hid (Bx w w.heap.size (S c) t cor del (.slice A R.length cap) V)) HJ ?_
    clear HJ
    obtain ⟨g1, e1⟩ : ∃ g1, w.heap.size = g1 := ⟨_, rfl⟩
    have E1 := Lib.hid e1
    rw [e1]
    clear e1
    intro Y0 HJ
    obtain ⟨q0, q1, q2, q3, q4⟩ := row5 HJ.out.1
    go_wp2_with fail
    refine (HVa.out _ HJ.out.2).mono ?_
    rintro e w1 ⟨rfl, hb⟩
    have HJ2 : Hid (Bx w g1 (S c) t cor del (.slice A R.length cap) w1) := Lib.hid (HJ.out.under hb)
    clear hb HJ q0 q1 q2 q3 q4 HVa
    go_wp2_with fail
    go_ret2
    exact ⟨by rw [HFV.out]; rfl, HJ2.out.2⟩
end Go.Proofs.YtfnlgfacadmjpaaGreatDoor.Bu
namespace Go.Proofs.YtfnlgfacadmjpaaGreatDoor.Bu
open Go.RowKit
attribute [local go_sem] S_add S_size Ck.S_one S_two S_three S_six

set_option maxRecDepth 100000 in
set_option maxHeartbeats 4000000 in
theorem refFormat6_any (c : List UInt8) (t cor del : Int) (v : Value) (R : List Rp) (w : World) (hcs : (S c).size ≤ 9223372036854775807) (hns : ∀ r ∈ R, r.nm.size ≤ 9223372036854775806) (hR : RpsIn w v R) :
    Calls Tryz.prog 16 #[bulV (S c) t cor del v] w fun e w' => e = .returned (fmV c t cor del R) ∧ Below w.heap.size w w' := by
  have HR := Lib.hid hR
  obtain ⟨A, cap, rfl, hlc, hcm, -⟩ := hR
  have hJ := Bx.new w (S c) t cor del (.slice A R.length cap)
  have HVa := Lib.hid (fun Y (hY : Below w.heap.size w Y) => refValidate6_any (S c) t cor del (.slice A R.length cap) R Y hcs hns (HR.out.under hY))
  clear hcs hns
  obtain ⟨FV, hFV⟩ : ∃ FV, fmV c t cor del R = FV := ⟨_, rfl⟩
  rw [hFV]
  unfold fmV at hFV
  by_cases hv : vcb (S c) t cor del R = 0
  · have hV := vcb_zero hv
    rw [if_pos hv] at hFV
    rw [hv] at HVa
    clear hv
    have HV := Lib.hid hV
    have hl60 := hV.hlen
    have HHe := Lib.hid (fun Y => refHeading6_yes c t cor del A R.length cap Y (ctr_caps hV.hctr).1 hV.htime hV.hcor hV.hdel)
    have hhl := hdT_len hV.hctr hV.htime hV.hcor hV.hdel hV.hone
    have hbl := bdy_len R (fun r hr => (hV.hreps r hr).1)
    generalize hT : hdT c t cor del = T at *
    have HTT := Lib.hid hT
    generalize hsc : S c = sc at *
    have HFV := Lib.hid hFV.symm
    clear hT hsc hV hFV
    have HJ := Lib.hid hJ
    clear hJ
    go_enter Tryz.func16, Tryz.ntmps16
    go_upto_region 1 with fail
    refine forget (fun V => Hid (Bx w w.heap.size sc t cor del (.slice A R.length cap) V)) HJ ?_
    clear HJ
    obtain ⟨g1, e1⟩ : ∃ g1, w.heap.size = g1 := ⟨_, rfl⟩
    have E1 := Lib.hid e1
    rw [e1]
    clear e1
    intro Y0 HJ
    obtain ⟨q0, q1, q2, q3, q4⟩ := row5 HJ.out.1
    go_wp2_with fail
    refine (HVa.out _ HJ.out.2).mono ?_
    rintro e w1 ⟨rfl, hb⟩
    have HJ2 : Hid (Bx w g1 sc t cor del (.slice A R.length cap) w1) := Lib.hid (HJ.out.under hb)
    clear hb HJ q0 q1 q2 q3 q4 HVa
    obtain ⟨q0, q1, q2, q3, q4⟩ := row5 HJ2.out.1
    go_wp2_with fail
    refine (HHe.out _).mono ?_
    rintro e w2 ⟨rfl, hb⟩
    have HJ3 : Hid (Bx w g1 sc t cor del (.slice A R.length cap) w2) := Lib.hid (HJ2.out.under hb)
    clear hb HJ2 q0 q1 q2 q3 q4 HHe
    go_wp2_with fail
    go_loopw [5, 6] (fun s u Y => ∃ k : Nat, k ≤ R.length ∧ u = .int .i64 k ∧ s = .string (S (T ++ ([10] ++ bdy (R.take k)))) ∧ Hid (Bx w g1 sc t cor del (.slice A R.length cap) Y)) (fun _ u _ => R.length - (intOf u).toNat)
    case atStart => exact ⟨0, Nat.zero_le _, rfl, by simp [bdy], HJ3⟩
    case round =>
      clear HJ3
      obtain ⟨k, hk, rfl, rfl, M⟩ := hrel
      obtain ⟨q0, q1, q2, q3, q4⟩ := row5 M.out.1
      by_cases hlt : k < R.length
      · have k0 : (0 : Int) ≤ (k : Int) := by omega
        have k1 : (k : Int) < (R.length : Int) := by omega
        obtain ⟨A', cap', ea, -, -, h4⟩ := (HR.out.under M.out.2)
        injection ea with ea _ ec
        subst ea
        subst ec
        obtain ⟨g, off, rfl, hgl, h8, hrd⟩ := h4 k hlt
        obtain ⟨c0, c1, c2, c3, c4, c5, c6, c7⟩ := h8
        obtain ⟨hvk, -⟩ := HV.out.hreps _ (List.getElem_mem hlt)
        have hbm := bdy_more hlt
        have hbk := bdy_len (R.take k) (fun r hr => (HV.out.hreps r (List.mem_of_mem_take hr)).1)
        rw [List.length_take, Nat.min_eq_left hk] at hbk
        obtain ⟨rk, hrk0⟩ : ∃ rk, R[k] = rk := ⟨_, rfl⟩
        rw [hrk0] at c0 c1 c2 c3 c4 c5 c6 c7 hrd hvk hbm
        clear hrk0 h4 hgl
        have hns := hvk.short
        obtain ⟨kk, nm, tt, F, A0, B, C, uu, L⟩ := rk
        simp only at c0 c1 c2 c3 c4 c5 c6 c7 hrd hvk hns hbm
        have hgx := gtx_le hvk
        obtain ⟨Au, cu, eu, -⟩ := id hrd
        subst eu
        have HBM := Lib.hid (show T ++ ([10] ++ bdy (R.take (k + 1))) = T ++ ([10] ++ bdy (R.take k)) ++ (gtx kk nm tt F A0 B L ++ [61, 10]) by rw [hbm]; simp [ends])
        have hJl : (T ++ ([10] ++ bdy (R.take k))).length ≤ 9000 := by simp only [List.length_append, List.length_cons, List.length_nil]; omega
        have HFa := Lib.hid (refFormat_rep kk nm tt F A0 B C (.slice Au L.length cu) L _ hrd (by omega) hvk)
        clear hrd hvk hns hbm hbk
        generalize gtx kk nm tt F A0 B L = G at *
        generalize T ++ ([10] ++ bdy (R.take k)) = J at *
        go_wp2_with fail
        refine HFa.out.mono ?_
        rintro e w3 ⟨rfl, hb⟩
        have M3 : Hid (Bx w g1 sc t cor del (.slice (some ⟨g, off, none⟩) R.length cap) w3) := Lib.hid (M.out.under hb)
        clear hb M HFa c0 c1 c2 c3 c4 c5 c6 c7 q0 q1 q2 q3 q4
        go_wp2_with fail
        go_roundw
        case rel => exact ⟨k + 1, by omega, by go_num, by rw [HBM.out], M3⟩
        case measure => simp [intOf]; omega
      · have k1 : ¬ (k : Int) < (R.length : Int) := by omega
        have hkR : R.take k = R := List.take_of_length_le (by omega)
        rw [hkR]
        have hJl : (T ++ ([10] ++ bdy R)).length ≤ 9000 := by simp only [List.length_append, List.length_cons, List.length_nil]; omega
        have HJJ := Lib.hid (show T ++ 10 :: bdy R = T ++ ([10] ++ bdy R) from rfl)
        clear hkR
        generalize hJJ : T ++ ([10] ++ bdy R) = J at *
        clear hJJ
        by_cases h4' : J.length ≤ 4000
        · have h4 : ¬ (4000 : Int) < (J.length : Int) := by omega
          have HL := Lib.hid h4'
          clear h4'
          go_wp2_with fail
          go_ret2
          exact ⟨by rw [HFV.out, if_pos (by rw [HJJ.out]; exact HL.out), HJJ.out]; rfl, M.out.2⟩
        · have h4 : (4000 : Int) < (J.length : Int) := by omega
          have HL := Lib.hid h4'
          clear h4'
          go_wp2_with fail
          go_ret2
          exact ⟨by rw [HFV.out, if_neg (by rw [HJJ.out]; exact HL.out)]; rfl, M.out.2⟩
  · rw [if_neg hv] at hFV
    have HFV := Lib.hid hFV.symm
    generalize vcb (S c) t cor del R = vc at *
    have hv1 : (vc != 0) = true := by rw [bne_iff_ne]; exact hv
    clear hv hFV
    have HJ := Lib.hid hJ
    clear hJ
    go_enter Tryz.func16, Tryz.ntmps16
    go_upto_region 1 with fail
    refine forget (fun V => Hid (Bx w w.heap.size (S c) t cor del (.slice A R.length cap) V)) HJ ?_
    clear HJ
    obtain ⟨g1, e1⟩ : ∃ g1, w.heap.size = g1 := ⟨_, rfl⟩
    have E1 := Lib.hid e1
    rw [e1]
    clear e1
    intro Y0 HJ
    obtain ⟨q0, q1, q2, q3, q4⟩ := row5 HJ.out.1
    go_wp2_with fail
    refine (HVa.out _ HJ.out.2).mono ?_
    rintro e w1 ⟨rfl, hb⟩
    have HJ2 : Hid (Bx w g1 (S c) t cor del (.slice A R.length cap) w1) := Lib.hid (HJ.out.under hb)
    clear hb HJ q0 q1 q2 q3 q4 HVa
    go_wp2_with fail
    go_ret2
    exact ⟨by rw [HFV.out]; rfl, HJ2.out.2⟩
end Go.Proofs.YtfnlgfacadmjpaaGreatDoor.Bu
