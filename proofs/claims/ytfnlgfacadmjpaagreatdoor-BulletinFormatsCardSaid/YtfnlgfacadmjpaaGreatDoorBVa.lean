/- The program's Validate of any bulletin. -/
import Derived.Test.YtfnlgfacadmjpaaGreatDoorBFt
namespace Go.Proofs.YtfnlgfacadmjpaaGreatDoor.Bu
open Go.RowKit

/-- What the first report at fault has for an error. -/
noncomputable def rcode (t : Int) : List Rp → Int
  | [] => 0
  | r :: R => if vcode r.k r.nm r.t r.F r.A r.B r.C r.L = 0 then (if rdb r.t t = true then rcode t R else 7) else vcode r.k r.nm r.t r.F r.A r.B r.C r.L
theorem rcode_at (t : Int) (R : List Rp) (k : Nat) (h : k < R.length) : rcode t (R.drop k) = if vcode R[k].k R[k].nm R[k].t R[k].F R[k].A R[k].B R[k].C R[k].L = 0 then (if rdb R[k].t t = true then rcode t (R.drop (k + 1)) else 7) else vcode R[k].k R[k].nm R[k].t R[k].F R[k].A R[k].B R[k].C R[k].L := by
  rw [List.drop_eq_getElem_cons h]; rfl
/-- The error of a bulletin. -/
noncomputable def vcb (c : ByteArray) (t cor del : Int) (R : List Rp) : Int :=
  if ctr c = true then
    if (0 ≤ t ∧ t ≤ 52595999) ∧ (0 ≤ cor ∧ cor ≤ 26) ∧ (0 ≤ del ∧ del ≤ 26) then
      if cor = 0 ∨ del = 0 then
        if R.length ≤ 60 then rcode t R else 2
      else 7
    else 1
  else 3
set_option maxRecDepth 100000 in
set_option maxHeartbeats 4000000 in
theorem validate6_any (c : ByteArray) (t cor del : Int) (v : Value) (R : List Rp) (w : World) (hE : Env w) (hR : RpsIn w v R) :
    Calls Tryz.prog 17 #[bulV c t cor del v] w fun e w' => e = .returned (.int .i64 (vcb c t cor del R)) ∧ Below w.heap.size w w' := by
  have HR := Lib.hid hR
  have HE := Lib.hid hE
  obtain ⟨A, cap, rfl, hlc, hcm, -⟩ := hR
  have hJ := Bx.new w c t cor del (.slice A R.length cap)
  have HC := Lib.hid (fun W => validCentre_any c W)
  have HW1 := Lib.hid (fun W => within_any t 52595999 W)
  have HW2 := Lib.hid (fun W => within_any cor 26 W)
  have HW3 := Lib.hid (fun W => within_any del 26 W)
  obtain ⟨VC, hVC⟩ : ∃ VC, vcb c t cor del R = VC := ⟨_, rfl⟩
  rw [hVC]
  unfold vcb at hVC
  clear hE
  have HJ := Lib.hid hJ
  clear hJ
  go_enter Tryz.func17, Tryz.ntmps17
  go_upto_region 1 with fail
  refine forget (fun V => Hid (Bx w w.heap.size c t cor del (.slice A R.length cap) V)) HJ ?_
  clear HJ
  obtain ⟨g1, e1⟩ : ∃ g1, w.heap.size = g1 := ⟨_, rfl⟩
  have E1 := Lib.hid e1
  rw [e1]
  clear e1
  intro Y0 HJ
  obtain ⟨q0, q1, q2, q3, q4⟩ := row5 HJ.out.1
  have HVC := Lib.hid hVC
  clear hVC
  go_wp2_with fail
  refine (HC.out _).mono ?_
  rintro e w1 ⟨rfl, hb⟩
  have HJ2 : Hid (Bx w g1 c t cor del (.slice A R.length cap) w1) := Lib.hid (HJ.out.under hb)
  clear hb HJ q0 q1 q2 q3 q4
  by_cases hc : ctr c = true
  · have HC1 := Lib.hid ((if_pos hc).symm.trans HVC.out)
    rw [hc]
    clear hc HVC
    obtain ⟨q0, q1, q2, q3, q4⟩ := row5 HJ2.out.1
    go_wp2_with fail
    refine (HW1.out _).mono ?_
    rintro e w9 ⟨rfl, rfl⟩
    by_cases ht : 0 ≤ t ∧ t ≤ 52595999
    · rw [decide_eq_true ht]
      go_wp2_with fail
      refine (HW2.out _).mono ?_
      rintro e w9 ⟨rfl, rfl⟩
      by_cases hco : 0 ≤ cor ∧ cor ≤ 26
      · rw [decide_eq_true hco]
        go_wp2_with fail
        refine (HW3.out _).mono ?_
        rintro e w9 ⟨rfl, rfl⟩
        by_cases hde : 0 ≤ del ∧ del ≤ 26
        · rw [decide_eq_true hde]
          have HC2 := Lib.hid ((if_pos (⟨ht, hco, hde⟩ : (0 ≤ t ∧ t ≤ 52595999) ∧ (0 ≤ cor ∧ cor ≤ 26) ∧ (0 ≤ del ∧ del ≤ 26))).symm.trans HC1.out)
          by_cases hone : cor = 0 ∨ del = 0
          · have HC3 := Lib.hid ((if_pos hone).symm.trans HC2.out)
            by_cases hl60 : R.length ≤ 60
            · have HCO := Lib.hid ((if_pos hl60).symm.trans HC3.out).symm
              have hl6 : ¬ (60 : Int) < (R.length : Int) := by omega
              clear ht hco hde
              by_cases hz : cor = 0
              · subst hz
                go_wp2_with fail
                go_loopw [45] (fun u Y => ∃ k : Nat, k ≤ R.length ∧ u = .int .i64 k ∧ Hid (rcode t R = rcode t (R.drop k)) ∧ Hid (Bx w g1 c t 0 del (.slice A R.length cap) Y)) (fun u _ => R.length - (intOf u).toNat)
                case atStart => exact ⟨0, Nat.zero_le _, rfl, Lib.hid rfl, HJ2⟩
                case round =>
                  clear HJ2
                  obtain ⟨k, hk, rfl, HRC, M⟩ := hrel
                  obtain ⟨q0, q1, q2, q3, q4⟩ := row5 M.out.1
                  by_cases hlt : k < R.length
                  · have k0 : (0 : Int) ≤ (k : Int) := by omega
                    have k1 : (k : Int) < (R.length : Int) := by omega
                    obtain ⟨A', cap', ea, -, -, h4⟩ := (HR.out.under M.out.2)
                    injection ea with ea _ ec
                    subst ea
                    subst ec
                    obtain ⟨g, off, rfl, hgl, h8, hrd⟩ := h4 k hlt
                    obtain ⟨c0, c1, c2, c3, c4, c5, c6, c7⟩ := h8
                    have hst := rcode_at t R k hlt
                    obtain ⟨rk, hrk0⟩ : ∃ rk, R[k] = rk := ⟨_, rfl⟩
                    rw [hrk0] at c0 c1 c2 c3 c4 c5 c6 c7 hrd hst
                    clear hrk0 h4 hgl
                    obtain ⟨kk, nm, tt, F, A0, B, C, uu, L⟩ := rk
                    simp only at c0 c1 c2 c3 c4 c5 c6 c7 hrd hst
                    obtain ⟨Au, cu, eu, -⟩ := id hrd
                    subst eu
                    have hb2 : Below wr.heap.size wr (wr.alloc (.cells (repC kk nm tt F A0 B C (.slice Au L.length cu)) 53)) := (Below.refl _ _).alloc (Nat.le_refl _) _
                    have HVa := validate_any kk nm tt F A0 B C (.slice Au L.length cu) L _ (hrd.under hb2) (HE.out.under (M.out.under hb2).2).el.tab
                    have HRa := fun Y (hY : Below wr.heap.size wr Y) => readable_any kk nm tt F A0 B C (.slice Au L.length cu) L t Y (hrd.under hY) (HE.out.under (M.out.under hY).2)
                    generalize vcode kk nm tt F A0 B C L = vc at *
                    generalize rdb tt t = rd at *
                    have HVa := Lib.hid HVa
                    have HRa := Lib.hid HRa
                    have HST := Lib.hid (HRC.out.trans hst)
                    have M2 := Lib.hid (⟨M.out.under hb2, Row.new _ _ _, hb2⟩ : Bx w g1 c t 0 del (.slice (some ⟨g, off, none⟩) R.length cap) (wr.alloc (.cells (repC kk nm tt F A0 B C (.slice Au L.length cu)) 53)) ∧ Row (wr.alloc (.cells (repC kk nm tt F A0 B C (.slice Au L.length cu)) 53)) wr.heap.size 53 (repC kk nm tt F A0 B C (.slice Au L.length cu)) ∧ Below wr.heap.size wr (wr.alloc (.cells (repC kk nm tt F A0 B C (.slice Au L.length cu)) 53)))
                    clear hb2 hrd M hst HRC
                    obtain ⟨p0, p1, p2, p3, p4, p5, p6, p7⟩ := row8 M2.out.2.1
                    go_wp2_with fail
                    refine HVa.out.mono ?_
                    rintro e w2 ⟨rfl, hb⟩
                    have M3 := Lib.hid (⟨M2.out.1.under hb, M2.out.2.1.under hb, M2.out.2.2.trans (hb.mono M2.out.2.2.size)⟩ : Bx w g1 c t 0 del (.slice (some ⟨g, off, none⟩) R.length cap) w2 ∧ Row w2 wr.heap.size 53 (repC kk nm tt F A0 B C (.slice Au L.length cu)) ∧ Below wr.heap.size wr w2)
                    clear hb M2 HVa p0 p1 p2 p3 p4 p5 p6 p7 q0 q1 q2 q3 q4 c0 c1 c2 c3 c4 c5 c6 c7
                    by_cases hv0 : vc = 0
                    · subst hv0
                      obtain ⟨q0, q1, q2, q3, q4⟩ := row5 M3.out.1.1
                      obtain ⟨p0, p1, p2, p3, p4, p5, p6, p7⟩ := row8 M3.out.2.1
                      go_wp2_with fail
                      refine (HRa.out _ M3.out.2.2).mono ?_
                      rintro e w3 ⟨rfl, hb⟩
                      have M4 : Hid (Bx w g1 c t 0 del (.slice (some ⟨g, off, none⟩) R.length cap) w3) := Lib.hid (M3.out.1.under hb)
                      clear hb M3 HRa p0 p1 p2 p3 p4 p5 p6 p7 q0 q1 q2 q3 q4
                      cases rd
                      · go_wp2_with fail
                        go_ret
                        exact ⟨by rw [HCO.out, HST.out]; rfl, M4.out.2⟩
                      · go_wp2_with fail
                        go_roundw
                        case rel => exact ⟨k + 1, by omega, by go_num, Lib.hid (HST.out.trans rfl), M4⟩
                        case measure => simp [intOf]; omega
                    · have hv1 : (vc != 0) = true := by rw [bne_iff_ne]; exact hv0
                      have HV1 := Lib.hid hv0
                      clear HRa hv0
                      go_wp2_with fail
                      go_ret
                      exact ⟨by rw [HCO.out, HST.out, if_neg HV1.out]; rfl, M3.out.1.2⟩
                  · have k1 : ¬ (k : Int) < (R.length : Int) := by omega
                    obtain rfl : k = R.length := by omega
                    clear q0 q1 q2 q3 q4
                    go_wp2_with fail
                    go_ret
                    exact ⟨by rw [HCO.out, HRC.out, List.drop_length]; rfl, M.out.2⟩
              · have hd0 : del = 0 := hone.resolve_left hz
                subst hd0
                have e1 : (cor != 0) = true := by rw [bne_iff_ne]; exact hz
                go_wp2_with fail
                go_loopw [45] (fun u Y => ∃ k : Nat, k ≤ R.length ∧ u = .int .i64 k ∧ Hid (rcode t R = rcode t (R.drop k)) ∧ Hid (Bx w g1 c t cor 0 (.slice A R.length cap) Y)) (fun u _ => R.length - (intOf u).toNat)
                case atStart => exact ⟨0, Nat.zero_le _, rfl, Lib.hid rfl, HJ2⟩
                case round =>
                  clear HJ2
                  obtain ⟨k, hk, rfl, HRC, M⟩ := hrel
                  obtain ⟨q0, q1, q2, q3, q4⟩ := row5 M.out.1
                  by_cases hlt : k < R.length
                  · have k0 : (0 : Int) ≤ (k : Int) := by omega
                    have k1 : (k : Int) < (R.length : Int) := by omega
                    obtain ⟨A', cap', ea, -, -, h4⟩ := (HR.out.under M.out.2)
                    injection ea with ea _ ec
                    subst ea
                    subst ec
                    obtain ⟨g, off, rfl, hgl, h8, hrd⟩ := h4 k hlt
                    obtain ⟨c0, c1, c2, c3, c4, c5, c6, c7⟩ := h8
                    have hst := rcode_at t R k hlt
                    obtain ⟨rk, hrk0⟩ : ∃ rk, R[k] = rk := ⟨_, rfl⟩
                    rw [hrk0] at c0 c1 c2 c3 c4 c5 c6 c7 hrd hst
                    clear hrk0 h4 hgl
                    obtain ⟨kk, nm, tt, F, A0, B, C, uu, L⟩ := rk
                    simp only at c0 c1 c2 c3 c4 c5 c6 c7 hrd hst
                    obtain ⟨Au, cu, eu, -⟩ := id hrd
                    subst eu
                    have hb2 : Below wr.heap.size wr (wr.alloc (.cells (repC kk nm tt F A0 B C (.slice Au L.length cu)) 53)) := (Below.refl _ _).alloc (Nat.le_refl _) _
                    have HVa := validate_any kk nm tt F A0 B C (.slice Au L.length cu) L _ (hrd.under hb2) (HE.out.under (M.out.under hb2).2).el.tab
                    have HRa := fun Y (hY : Below wr.heap.size wr Y) => readable_any kk nm tt F A0 B C (.slice Au L.length cu) L t Y (hrd.under hY) (HE.out.under (M.out.under hY).2)
                    generalize vcode kk nm tt F A0 B C L = vc at *
                    generalize rdb tt t = rd at *
                    have HVa := Lib.hid HVa
                    have HRa := Lib.hid HRa
                    have HST := Lib.hid (HRC.out.trans hst)
                    have M2 := Lib.hid (⟨M.out.under hb2, Row.new _ _ _, hb2⟩ : Bx w g1 c t cor 0 (.slice (some ⟨g, off, none⟩) R.length cap) (wr.alloc (.cells (repC kk nm tt F A0 B C (.slice Au L.length cu)) 53)) ∧ Row (wr.alloc (.cells (repC kk nm tt F A0 B C (.slice Au L.length cu)) 53)) wr.heap.size 53 (repC kk nm tt F A0 B C (.slice Au L.length cu)) ∧ Below wr.heap.size wr (wr.alloc (.cells (repC kk nm tt F A0 B C (.slice Au L.length cu)) 53)))
                    clear hb2 hrd M hst HRC
                    obtain ⟨p0, p1, p2, p3, p4, p5, p6, p7⟩ := row8 M2.out.2.1
                    go_wp2_with fail
                    refine HVa.out.mono ?_
                    rintro e w2 ⟨rfl, hb⟩
                    have M3 := Lib.hid (⟨M2.out.1.under hb, M2.out.2.1.under hb, M2.out.2.2.trans (hb.mono M2.out.2.2.size)⟩ : Bx w g1 c t cor 0 (.slice (some ⟨g, off, none⟩) R.length cap) w2 ∧ Row w2 wr.heap.size 53 (repC kk nm tt F A0 B C (.slice Au L.length cu)) ∧ Below wr.heap.size wr w2)
                    clear hb M2 HVa p0 p1 p2 p3 p4 p5 p6 p7 q0 q1 q2 q3 q4 c0 c1 c2 c3 c4 c5 c6 c7
                    by_cases hv0 : vc = 0
                    · subst hv0
                      obtain ⟨q0, q1, q2, q3, q4⟩ := row5 M3.out.1.1
                      obtain ⟨p0, p1, p2, p3, p4, p5, p6, p7⟩ := row8 M3.out.2.1
                      go_wp2_with fail
                      refine (HRa.out _ M3.out.2.2).mono ?_
                      rintro e w3 ⟨rfl, hb⟩
                      have M4 : Hid (Bx w g1 c t cor 0 (.slice (some ⟨g, off, none⟩) R.length cap) w3) := Lib.hid (M3.out.1.under hb)
                      clear hb M3 HRa p0 p1 p2 p3 p4 p5 p6 p7 q0 q1 q2 q3 q4
                      cases rd
                      · go_wp2_with fail
                        go_ret
                        exact ⟨by rw [HCO.out, HST.out]; rfl, M4.out.2⟩
                      · go_wp2_with fail
                        go_roundw
                        case rel => exact ⟨k + 1, by omega, by go_num, Lib.hid (HST.out.trans rfl), M4⟩
                        case measure => simp [intOf]; omega
                    · have hv1 : (vc != 0) = true := by rw [bne_iff_ne]; exact hv0
                      have HV1 := Lib.hid hv0
                      clear HRa hv0
                      go_wp2_with fail
                      go_ret
                      exact ⟨by rw [HCO.out, HST.out, if_neg HV1.out]; rfl, M3.out.1.2⟩
                  · have k1 : ¬ (k : Int) < (R.length : Int) := by omega
                    obtain rfl : k = R.length := by omega
                    clear q0 q1 q2 q3 q4
                    go_wp2_with fail
                    go_ret
                    exact ⟨by rw [HCO.out, HRC.out, List.drop_length]; rfl, M.out.2⟩
            · have HCO := Lib.hid ((if_neg hl60).symm.trans HC3.out).symm
              have hl6 : (60 : Int) < (R.length : Int) := by omega
              clear ht hco hde
              by_cases hz : cor = 0
              · subst hz
                go_wp2_with fail
                go_ret
                exact ⟨by rw [HCO.out]; rfl, HJ2.out.2⟩
              · have hd0 : del = 0 := hone.resolve_left hz
                subst hd0
                have e1 : (cor != 0) = true := by rw [bne_iff_ne]; exact hz
                go_wp2_with fail
                go_ret
                exact ⟨by rw [HCO.out]; rfl, HJ2.out.2⟩
          · have HCO := Lib.hid ((if_neg hone).symm.trans HC2.out).symm
            have e1 : (cor != 0) = true := by rw [bne_iff_ne]; intro h; exact hone (.inl h)
            have e2 : (del != 0) = true := by rw [bne_iff_ne]; intro h; exact hone (.inr h)
            clear ht hco hde hone
            go_wp2_with fail
            go_ret
            exact ⟨by rw [HCO.out]; rfl, HJ2.out.2⟩
        · rw [decide_eq_false hde]
          have HCO := Lib.hid ((if_neg (fun h : (0 ≤ t ∧ t ≤ 52595999) ∧ (0 ≤ cor ∧ cor ≤ 26) ∧ (0 ≤ del ∧ del ≤ 26) => hde h.2.2)).symm.trans HC1.out).symm
          clear ht hco hde
          go_wp2_with fail
          go_ret
          exact ⟨by rw [HCO.out]; rfl, HJ2.out.2⟩
      · rw [decide_eq_false hco]
        have HCO := Lib.hid ((if_neg (fun h : (0 ≤ t ∧ t ≤ 52595999) ∧ (0 ≤ cor ∧ cor ≤ 26) ∧ (0 ≤ del ∧ del ≤ 26) => hco h.2.1)).symm.trans HC1.out).symm
        clear ht hco
        go_wp2_with fail
        go_ret
        exact ⟨by rw [HCO.out]; rfl, HJ2.out.2⟩
    · rw [decide_eq_false ht]
      have HCO := Lib.hid ((if_neg (fun h : (0 ≤ t ∧ t ≤ 52595999) ∧ (0 ≤ cor ∧ cor ≤ 26) ∧ (0 ≤ del ∧ del ≤ 26) => ht h.1)).symm.trans HC1.out).symm
      clear ht
      go_wp2_with fail
      go_ret
      exact ⟨by rw [HCO.out]; rfl, HJ2.out.2⟩
  · have HCO := Lib.hid ((if_neg hc).symm.trans HVC.out).symm
    rw [Bool.not_eq_true] at hc
    rw [hc]
    clear hc HVC
    go_wp2_with fail
    go_ret
    exact ⟨by rw [HCO.out]; rfl, HJ2.out.2⟩
end Go.Proofs.YtfnlgfacadmjpaaGreatDoor.Bu
