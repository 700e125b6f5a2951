/- The reference's Validate of any bulletin. -/
import Derived.Test.YtfnlgfacadmjpaaGreatDoorBVa
import Derived.Test.YtfnlgfacadmjpaaGreatDoorBRa
import Derived.Test.YtfnlgfacadmjpaaGreatDoorGRy
import Derived.BigQuiet
namespace Go.Proofs.YtfnlgfacadmjpaaGreatDoor.Bu
open Go.RowKit

set_option maxRecDepth 100000 in
set_option maxHeartbeats 4000000 in
theorem refValidate6_any (c : ByteArray) (t cor del : Int) (v : Value) (R : List Rp) (w : World) (hcs : c.size ≤ 9223372036854775807) (hns : ∀ r ∈ R, r.nm.size ≤ 9223372036854775806) (hR : RpsIn w v R) :
    Calls Tryz.prog 18 #[bulV c t cor del v] w fun e w' => e = .returned (.int .i64 (vcb c t cor del R)) ∧ Below w.heap.size w w' := by
  have HR := Lib.hid hR
  have HNS := Lib.hid hns
  obtain ⟨A, cap, rfl, hlc, hcm, -⟩ := hR
  have hJ := Bx.new w c t cor del (.slice A R.length cap)
  have HC := Lib.hid (fun W => refCentre_any c W hcs)
  have HIN := Lib.hid (fun W => Ck.refIn_any t W)
  obtain ⟨VC, hVC⟩ : ∃ VC, vcb c t cor del R = VC := ⟨_, rfl⟩
  rw [hVC]
  unfold vcb at hVC
  clear hcs hns
  have HJ := Lib.hid hJ
  have HVC := Lib.hid hVC
  clear hJ hVC
  go_enter Tryz.func18, Tryz.ntmps18
  go_upto_region 1 with fail
  refine forget (fun V => Hid (Bx w w.heap.size c t cor del (.slice A R.length cap) V)) HJ ?_
  clear HJ
  obtain ⟨g1, e1⟩ : ∃ g1, w.heap.size = g1 := ⟨_, rfl⟩
  have E1 := Lib.hid e1
  rw [e1]
  clear e1
  intro Y0 HJ
  obtain ⟨q0, q1, q2, q3, q4⟩ := row5 HJ.out.1
  go_wp2_with fail
  refine (HC.out _).mono ?_
  rintro e w1 ⟨rfl, rfl⟩
  by_cases hc : ctr c = true
  · have HC1 := Lib.hid ((if_pos hc).symm.trans HVC.out)
    rw [hc]
    clear hc HVC
    go_wp2_with fail
    refine (HIN.out _).mono ?_
    rintro e w9 ⟨rfl, rfl⟩
    by_cases ht : 0 ≤ t ∧ t ≤ 52595999
    · rw [Ck.Cal.rng_yes ht.1 ht.2]
      by_cases a1 : cor < 0
      · have HCO := Lib.hid ((if_neg (fun h : (0 ≤ t ∧ t ≤ 52595999) ∧ (0 ≤ cor ∧ cor ≤ 26) ∧ (0 ≤ del ∧ del ≤ 26) => by omega)).symm.trans HC1.out).symm
        clear ht
        go_wp2_with fail
        go_ret
        exact ⟨by rw [HCO.out]; rfl, HJ.out.2⟩
      by_cases a2 : 26 < cor
      · have HCO := Lib.hid ((if_neg (fun h : (0 ≤ t ∧ t ≤ 52595999) ∧ (0 ≤ cor ∧ cor ≤ 26) ∧ (0 ≤ del ∧ del ≤ 26) => by omega)).symm.trans HC1.out).symm
        clear ht
        go_wp2_with fail
        go_ret
        exact ⟨by rw [HCO.out]; rfl, HJ.out.2⟩
      by_cases a3 : del < 0
      · have HCO := Lib.hid ((if_neg (fun h : (0 ≤ t ∧ t ≤ 52595999) ∧ (0 ≤ cor ∧ cor ≤ 26) ∧ (0 ≤ del ∧ del ≤ 26) => by omega)).symm.trans HC1.out).symm
        clear ht
        go_wp2_with fail
        go_ret
        exact ⟨by rw [HCO.out]; rfl, HJ.out.2⟩
      by_cases a4 : 26 < del
      · have HCO := Lib.hid ((if_neg (fun h : (0 ≤ t ∧ t ≤ 52595999) ∧ (0 ≤ cor ∧ cor ≤ 26) ∧ (0 ≤ del ∧ del ≤ 26) => by omega)).symm.trans HC1.out).symm
        clear ht
        go_wp2_with fail
        go_ret
        exact ⟨by rw [HCO.out]; rfl, HJ.out.2⟩
      have HC2 := Lib.hid ((if_pos (by omega : (0 ≤ t ∧ t ≤ 52595999) ∧ (0 ≤ cor ∧ cor ≤ 26) ∧ (0 ≤ del ∧ del ≤ 26))).symm.trans HC1.out)
      clear ht
      by_cases hone : cor = 0 ∨ del = 0
      · have HC3 := Lib.hid ((if_pos hone).symm.trans HC2.out)
        by_cases hl60 : R.length ≤ 60
        · have HCO := Lib.hid ((if_pos hl60).symm.trans HC3.out).symm
          have hl6 : ¬ (60 : Int) < (R.length : Int) := by omega
          clear HC1 HC2 HC3
          by_cases hz : cor = 0
          · subst hz
            go_wp2_with fail
            go_loopw [3] (fun u Y => ∃ k : Nat, k ≤ R.length ∧ u = .int .i64 k ∧ Hid (rcode t R = rcode t (R.drop k)) ∧ Hid (Bx w g1 c t 0 del (.slice A R.length cap) Y)) (fun u _ => R.length - (intOf u).toNat)
            case atStart => exact ⟨0, Nat.zero_le _, rfl, Lib.hid rfl, HJ⟩
            case round =>
              clear HJ q0 q1 q2 q3 q4
              obtain ⟨k, hk, rfl, HRC, M⟩ := hrel
              obtain ⟨q0, q1, q2, q3, q4⟩ := row5 M.out.1
              by_cases hlt : k < R.length
              · have k0 : (0 : Int) ≤ (k : Int) := by omega
                have k1 : (k : Int) < (R.length : Int) := by omega
                obtain ⟨A', cap', ea, -, -, h4⟩ := (HR.out.under M.out.2)
                injection ea with ea _ ec
                subst ea
                subst ec
                obtain ⟨g, off, rfl, hgl, h8, hrd⟩ := h4 k hlt
                have hns := HNS.out _ (List.getElem_mem hlt)
                have hst := rcode_at t R k hlt
                obtain ⟨rk, hrk0⟩ : ∃ rk, R[k] = rk := ⟨_, rfl⟩
                rw [hrk0] at h8 hrd hns hst
                clear hrk0 h4
                obtain ⟨kk, nm, tt, F, A0, B, C, uu, L⟩ := rk
                simp only at hrd hns hst
                obtain ⟨Au, cu, eu, -⟩ := id hrd
                subst eu
                have H8 := Lib.hid h8
                obtain ⟨c0, c1, c2, c3, c4, c5, c6, c7⟩ := h8
                have HVa := fun Y (hY : Below wr.heap.size wr Y) => refVal_any kk nm tt F A0 B C (.slice Au L.length cu) L Y (hrd.under hY) hns
                have HRa := fun Y (hY : Below wr.heap.size wr Y) => refReadable_any kk nm tt F A0 B C (.slice Au L.length cu) L t Y (hrd.under hY) hns
                generalize vcode kk nm tt F A0 B C L = vc at *
                generalize rdb tt t = rd at *
                have HVa := Lib.hid HVa
                have HRa := Lib.hid HRa
                have HGL := Lib.hid hgl
                have HST := Lib.hid (HRC.out.trans hst)
                clear hrd hgl hns hst HRC
                simp only at c0 c1 c2 c3 c4 c5 c6 c7
                go_wp2_with fail
                refine (HVa.out _ (Below.refl _ _)).mono ?_
                rintro e w2 ⟨rfl, hb⟩
                have HB2 := Lib.hid hb
                have M3 := Lib.hid (M.out.under hb)
                clear hb M HVa c0 c1 c2 c3 c4 c5 c6 c7 q0 q1 q2 q3 q4
                obtain ⟨q0, q1, q2, q3, q4⟩ := row5 M3.out.1
                by_cases hv0 : vc = 0
                · subst hv0
                  obtain ⟨c0, c1, c2, c3, c4, c5, c6, c7⟩ := H8.out.under HGL.out HB2.out
                  simp only at c0 c1 c2 c3 c4 c5 c6 c7
                  go_upto_region 15 with fail
                  refine wp_region_held_drew (S := fun Y : World => (Y.cell? ⟨g1, 1, none⟩ = some (.int .i64 t) ∧ Y.cell? ⟨g1, 4, none⟩ = some (.slice (some ⟨g, off, none⟩) R.length cap)) ∧ (Y.cell? ⟨g, off + k * 8, none⟩ = some (.int .i64 kk) ∧ Y.cell? ⟨g, off + k * 8 + 1, none⟩ = some (.string nm) ∧ Y.cell? ⟨g, off + k * 8 + 2, none⟩ = some (.int .i64 tt) ∧ Y.cell? ⟨g, off + k * 8 + 3, none⟩ = some (.int .i64 F) ∧ Y.cell? ⟨g, off + k * 8 + 4, none⟩ = some (.int .i64 A0) ∧ Y.cell? ⟨g, off + k * 8 + 5, none⟩ = some (.int .i64 B) ∧ Y.cell? ⟨g, off + k * 8 + 6, none⟩ = some (.int .i64 C) ∧ Y.cell? ⟨g, off + k * 8 + 7, none⟩ = some (.slice Au L.length cu))) (by kernel_rfl) ⟨⟨q1, q4⟩, ⟨c0, c1, c2, c3, c4, c5, c6, c7⟩⟩ (fun hS => ?_)
                  have HB2 := Lib.hid (HB2.out.trans ((below_drewN (Below.refl w2.heap.size w2) 1).mono HB2.out.size))
                  have M3 := Lib.hid (M3.out.under (below_drewN (Below.refl w2.heap.size w2) 1))
                  clear c0 c1 c2 c3 c4 c5 c6 c7 q0 q1 q2 q3 q4
                  change Hid (Below wr.heap.size wr w2.drew) at HB2
                  change Hid (Bx w g1 c t 0 del (.slice (some ⟨g, off, none⟩) R.length cap) w2.drew) at M3
                  generalize w2.drew = X at *
                  refine wpAnyH_take (i := 0) (oi := ⟨some 61, _, _, _, _, none⟩) (v := ?_) rfl (by kernel_rfl) (by kernel_rfl) (by kernel_rfl) (fun _ _ _ h => h) (Or.inl ⟨by rfl, ?_⟩) (by assumption) ?_
                  case refine_2 => (intro wx hSx; (try dsimp only at hSx); go_simp; first | done | with_reducible rfl)
                  try simp only [Act.put, List.setIfInBounds_toArray, List.set_cons_zero, List.set_cons_succ]
                  refine wpAnyH_take (i := 1) (oi := ⟨some 62, _, _, _, _, none⟩) (v := ?_) rfl (by kernel_rfl) (by kernel_rfl) (by kernel_rfl) (fun _ _ _ h => h) (Or.inl ⟨by rfl, ?_⟩) (by assumption) ?_
                  case refine_2 => (intro wx hSx; (try dsimp only at hSx); go_simp; first | done | with_reducible rfl)
                  try simp only [Act.put, List.setIfInBounds_toArray, List.set_cons_zero, List.set_cons_succ]
                  refine wpAnyH_take (i := 2) (oi := ⟨some 63, _, _, _, _, none⟩) (v := ?_) rfl (by kernel_rfl) (by kernel_rfl) (by kernel_rfl) (fun _ _ _ h => h) (Or.inl ⟨by rfl, ?_⟩) (by assumption) ?_
                  case refine_2 => (intro wx hSx; (try dsimp only at hSx); go_simp; first | done | with_reducible rfl)
                  try simp only [Act.put, List.setIfInBounds_toArray, List.set_cons_zero, List.set_cons_succ]
                  refine wpAnyH_take (i := 3) (oi := ⟨some 64, _, _, _, _, none⟩) (v := ?_) rfl (by kernel_rfl) (by kernel_rfl) (by kernel_rfl) (fun _ _ _ h => h) (Or.inl ⟨by rfl, ?_⟩) (by assumption) ?_
                  case refine_2 => (intro wx hSx; (try dsimp only at hSx); go_simp; first | done | with_reducible rfl)
                  try simp only [Act.put, List.setIfInBounds_toArray, List.set_cons_zero, List.set_cons_succ]
                  refine wpAnyH_take (i := 4) (oi := ⟨some 65, _, _, _, _, none⟩) (v := ?_) rfl (by kernel_rfl) (by kernel_rfl) (by kernel_rfl) (fun _ _ _ h => h) (Or.inl ⟨by rfl, ?_⟩) (by assumption) ?_
                  case refine_2 => (intro wx hSx; (try dsimp only at hSx); go_simp; first | done | with_reducible rfl)
                  try simp only [Act.put, List.setIfInBounds_toArray, List.set_cons_zero, List.set_cons_succ]
                  refine wpAnyH_take (i := 5) (oi := ⟨some 66, _, _, _, _, none⟩) (v := ?_) rfl (by kernel_rfl) (by kernel_rfl) (by kernel_rfl) (fun _ _ _ h => h) (Or.inl ⟨by rfl, ?_⟩) (by assumption) ?_
                  case refine_2 => (intro wx hSx; (try dsimp only at hSx); go_simp; first | done | with_reducible rfl)
                  try simp only [Act.put, List.setIfInBounds_toArray, List.set_cons_zero, List.set_cons_succ]
                  refine wpAnyH_take (i := 6) (oi := ⟨some 67, _, _, _, _, none⟩) (v := ?_) rfl (by kernel_rfl) (by kernel_rfl) (by kernel_rfl) (fun _ _ _ h => h) (Or.inl ⟨by rfl, ?_⟩) (by assumption) ?_
                  case refine_2 => (intro wx hSx; (try dsimp only at hSx); go_simp; first | done | with_reducible rfl)
                  try simp only [Act.put, List.setIfInBounds_toArray, List.set_cons_zero, List.set_cons_succ]
                  refine wpAnyH_ready (rs := [7]) (by kernel_rfl) (by simp) ?_
                  refine AllReadyH.cons (o := ⟨some 68, _, _, _, _, none⟩) rfl (fun K hK => ?_) AllReadyH.nil
                  go_simp
                  refine (HRa.out X HB2.out).mono ?_
                  rintro e w3 ⟨rfl, hb⟩
                  have M4 : Hid (Bx w g1 c t 0 del (.slice (some ⟨g, off, none⟩) R.length cap) w3) := Lib.hid (M3.out.under hb)
                  have HB4 := Lib.hid (HB2.out.trans (hb.mono HB2.out.size))
                  clear hb M3 HRa hS HB2
                  go_wp2_with fail
                  refine hK.out _ _ ⟨⟨(row5 M4.out.1).2.1, (row5 M4.out.1).2.2.2.2⟩, H8.out.under HGL.out HB4.out⟩ (fun hS => ?_)
                  clear hK K
                  ((try simp only [Act.put]); (try simp only [List.setIfInBounds_toArray]); (try simp only [List.set_cons_succ]); (try simp only [List.set_cons_zero]))
                  refine wpAnyH_take (i := 8) (oi := ⟨some 69, _, _, _, _, none⟩) (v := ?_) rfl (by kernel_rfl) (by kernel_rfl) (by kernel_rfl) (fun _ _ _ h => h) (Or.inl ⟨by rfl, ?_⟩) (by assumption) ?_
                  case refine_2 => (intro wx hSx; (try dsimp only at hSx); go_simp; first | done | with_reducible rfl)
                  try simp only [Act.put, List.setIfInBounds_toArray, List.set_cons_zero, List.set_cons_succ]
                  refine wpAnyH_done (by kernel_rfl) ?_ _
                  clear hS
                  cases rd
                  · go_wp2_with fail
                    go_ret
                    exact ⟨by rw [HCO.out, HST.out]; rfl, M4.out.2⟩
                  · go_wp2_with fail
                    go_roundw
                    case rel => exact ⟨k + 1, by omega, by go_num, Lib.hid (HST.out.trans rfl), M4⟩
                    case measure => simp [intOf]; omega
                · have hv1 : (vc != 0) = true := by rw [bne_iff_ne]; exact hv0
                  have HV1 := Lib.hid hv0
                  clear HRa hv0
                  go_wp2_with fail
                  go_ret
                  exact ⟨by rw [HCO.out, HST.out, if_neg HV1.out]; rfl, M3.out.2⟩
              · have k1 : ¬ (k : Int) < (R.length : Int) := by omega
                obtain rfl : k = R.length := by omega
                go_wp2_with fail
                go_ret
                exact ⟨by rw [HCO.out, HRC.out, List.drop_length]; rfl, M.out.2⟩
          · have hd0 : del = 0 := hone.resolve_left hz
            subst hd0
            have e1 : (cor != 0) = true := by rw [bne_iff_ne]; exact hz
            go_wp2_with fail
            go_loopw [3] (fun u Y => ∃ k : Nat, k ≤ R.length ∧ u = .int .i64 k ∧ Hid (rcode t R = rcode t (R.drop k)) ∧ Hid (Bx w g1 c t cor 0 (.slice A R.length cap) Y)) (fun u _ => R.length - (intOf u).toNat)
            case atStart => exact ⟨0, Nat.zero_le _, rfl, Lib.hid rfl, HJ⟩
            case round =>
              clear HJ q0 q1 q2 q3 q4
              obtain ⟨k, hk, rfl, HRC, M⟩ := hrel
              obtain ⟨q0, q1, q2, q3, q4⟩ := row5 M.out.1
              by_cases hlt : k < R.length
              · have k0 : (0 : Int) ≤ (k : Int) := by omega
                have k1 : (k : Int) < (R.length : Int) := by omega
                obtain ⟨A', cap', ea, -, -, h4⟩ := (HR.out.under M.out.2)
                injection ea with ea _ ec
                subst ea
                subst ec
                obtain ⟨g, off, rfl, hgl, h8, hrd⟩ := h4 k hlt
                have hns := HNS.out _ (List.getElem_mem hlt)
                have hst := rcode_at t R k hlt
                obtain ⟨rk, hrk0⟩ : ∃ rk, R[k] = rk := ⟨_, rfl⟩
                rw [hrk0] at h8 hrd hns hst
                clear hrk0 h4
                obtain ⟨kk, nm, tt, F, A0, B, C, uu, L⟩ := rk
                simp only at hrd hns hst
                obtain ⟨Au, cu, eu, -⟩ := id hrd
                subst eu
                have H8 := Lib.hid h8
                obtain ⟨c0, c1, c2, c3, c4, c5, c6, c7⟩ := h8
                have HVa := fun Y (hY : Below wr.heap.size wr Y) => refVal_any kk nm tt F A0 B C (.slice Au L.length cu) L Y (hrd.under hY) hns
                have HRa := fun Y (hY : Below wr.heap.size wr Y) => refReadable_any kk nm tt F A0 B C (.slice Au L.length cu) L t Y (hrd.under hY) hns
                generalize vcode kk nm tt F A0 B C L = vc at *
                generalize rdb tt t = rd at *
                have HVa := Lib.hid HVa
                have HRa := Lib.hid HRa
                have HGL := Lib.hid hgl
                have HST := Lib.hid (HRC.out.trans hst)
                clear hrd hgl hns hst HRC
                simp only at c0 c1 c2 c3 c4 c5 c6 c7
                go_wp2_with fail
                refine (HVa.out _ (Below.refl _ _)).mono ?_
                rintro e w2 ⟨rfl, hb⟩
                have HB2 := Lib.hid hb
                have M3 := Lib.hid (M.out.under hb)
                clear hb M HVa c0 c1 c2 c3 c4 c5 c6 c7 q0 q1 q2 q3 q4
                obtain ⟨q0, q1, q2, q3, q4⟩ := row5 M3.out.1
                by_cases hv0 : vc = 0
                · subst hv0
                  obtain ⟨c0, c1, c2, c3, c4, c5, c6, c7⟩ := H8.out.under HGL.out HB2.out
                  simp only at c0 c1 c2 c3 c4 c5 c6 c7
                  go_upto_region 15 with fail
                  refine wp_region_held_drew (S := fun Y : World => (Y.cell? ⟨g1, 1, none⟩ = some (.int .i64 t) ∧ Y.cell? ⟨g1, 4, none⟩ = some (.slice (some ⟨g, off, none⟩) R.length cap)) ∧ (Y.cell? ⟨g, off + k * 8, none⟩ = some (.int .i64 kk) ∧ Y.cell? ⟨g, off + k * 8 + 1, none⟩ = some (.string nm) ∧ Y.cell? ⟨g, off + k * 8 + 2, none⟩ = some (.int .i64 tt) ∧ Y.cell? ⟨g, off + k * 8 + 3, none⟩ = some (.int .i64 F) ∧ Y.cell? ⟨g, off + k * 8 + 4, none⟩ = some (.int .i64 A0) ∧ Y.cell? ⟨g, off + k * 8 + 5, none⟩ = some (.int .i64 B) ∧ Y.cell? ⟨g, off + k * 8 + 6, none⟩ = some (.int .i64 C) ∧ Y.cell? ⟨g, off + k * 8 + 7, none⟩ = some (.slice Au L.length cu))) (by kernel_rfl) ⟨⟨q1, q4⟩, ⟨c0, c1, c2, c3, c4, c5, c6, c7⟩⟩ (fun hS => ?_)
                  have HB2 := Lib.hid (HB2.out.trans ((below_drewN (Below.refl w2.heap.size w2) 1).mono HB2.out.size))
                  have M3 := Lib.hid (M3.out.under (below_drewN (Below.refl w2.heap.size w2) 1))
                  clear c0 c1 c2 c3 c4 c5 c6 c7 q0 q1 q2 q3 q4
                  change Hid (Below wr.heap.size wr w2.drew) at HB2
                  change Hid (Bx w g1 c t cor 0 (.slice (some ⟨g, off, none⟩) R.length cap) w2.drew) at M3
                  generalize w2.drew = X at *
                  refine wpAnyH_take (i := 0) (oi := ⟨some 61, _, _, _, _, none⟩) (v := ?_) rfl (by kernel_rfl) (by kernel_rfl) (by kernel_rfl) (fun _ _ _ h => h) (Or.inl ⟨by rfl, ?_⟩) (by assumption) ?_
                  case refine_2 => (intro wx hSx; (try dsimp only at hSx); go_simp; first | done | with_reducible rfl)
                  try simp only [Act.put, List.setIfInBounds_toArray, List.set_cons_zero, List.set_cons_succ]
                  refine wpAnyH_take (i := 1) (oi := ⟨some 62, _, _, _, _, none⟩) (v := ?_) rfl (by kernel_rfl) (by kernel_rfl) (by kernel_rfl) (fun _ _ _ h => h) (Or.inl ⟨by rfl, ?_⟩) (by assumption) ?_
                  case refine_2 => (intro wx hSx; (try dsimp only at hSx); go_simp; first | done | with_reducible rfl)
                  try simp only [Act.put, List.setIfInBounds_toArray, List.set_cons_zero, List.set_cons_succ]
                  refine wpAnyH_take (i := 2) (oi := ⟨some 63, _, _, _, _, none⟩) (v := ?_) rfl (by kernel_rfl) (by kernel_rfl) (by kernel_rfl) (fun _ _ _ h => h) (Or.inl ⟨by rfl, ?_⟩) (by assumption) ?_
                  case refine_2 => (intro wx hSx; (try dsimp only at hSx); go_simp; first | done | with_reducible rfl)
                  try simp only [Act.put, List.setIfInBounds_toArray, List.set_cons_zero, List.set_cons_succ]
                  refine wpAnyH_take (i := 3) (oi := ⟨some 64, _, _, _, _, none⟩) (v := ?_) rfl (by kernel_rfl) (by kernel_rfl) (by kernel_rfl) (fun _ _ _ h => h) (Or.inl ⟨by rfl, ?_⟩) (by assumption) ?_
                  case refine_2 => (intro wx hSx; (try dsimp only at hSx); go_simp; first | done | with_reducible rfl)
                  try simp only [Act.put, List.setIfInBounds_toArray, List.set_cons_zero, List.set_cons_succ]
                  refine wpAnyH_take (i := 4) (oi := ⟨some 65, _, _, _, _, none⟩) (v := ?_) rfl (by kernel_rfl) (by kernel_rfl) (by kernel_rfl) (fun _ _ _ h => h) (Or.inl ⟨by rfl, ?_⟩) (by assumption) ?_
                  case refine_2 => (intro wx hSx; (try dsimp only at hSx); go_simp; first | done | with_reducible rfl)
                  try simp only [Act.put, List.setIfInBounds_toArray, List.set_cons_zero, List.set_cons_succ]
                  refine wpAnyH_take (i := 5) (oi := ⟨some 66, _, _, _, _, none⟩) (v := ?_) rfl (by kernel_rfl) (by kernel_rfl) (by kernel_rfl) (fun _ _ _ h => h) (Or.inl ⟨by rfl, ?_⟩) (by assumption) ?_
                  case refine_2 => (intro wx hSx; (try dsimp only at hSx); go_simp; first | done | with_reducible rfl)
                  try simp only [Act.put, List.setIfInBounds_toArray, List.set_cons_zero, List.set_cons_succ]
                  refine wpAnyH_take (i := 6) (oi := ⟨some 67, _, _, _, _, none⟩) (v := ?_) rfl (by kernel_rfl) (by kernel_rfl) (by kernel_rfl) (fun _ _ _ h => h) (Or.inl ⟨by rfl, ?_⟩) (by assumption) ?_
                  case refine_2 => (intro wx hSx; (try dsimp only at hSx); go_simp; first | done | with_reducible rfl)
                  try simp only [Act.put, List.setIfInBounds_toArray, List.set_cons_zero, List.set_cons_succ]
                  refine wpAnyH_ready (rs := [7]) (by kernel_rfl) (by simp) ?_
                  refine AllReadyH.cons (o := ⟨some 68, _, _, _, _, none⟩) rfl (fun K hK => ?_) AllReadyH.nil
                  go_simp
                  refine (HRa.out X HB2.out).mono ?_
                  rintro e w3 ⟨rfl, hb⟩
                  have M4 : Hid (Bx w g1 c t cor 0 (.slice (some ⟨g, off, none⟩) R.length cap) w3) := Lib.hid (M3.out.under hb)
                  have HB4 := Lib.hid (HB2.out.trans (hb.mono HB2.out.size))
                  clear hb M3 HRa hS HB2
                  go_wp2_with fail
                  refine hK.out _ _ ⟨⟨(row5 M4.out.1).2.1, (row5 M4.out.1).2.2.2.2⟩, H8.out.under HGL.out HB4.out⟩ (fun hS => ?_)
                  clear hK K
                  ((try simp only [Act.put]); (try simp only [List.setIfInBounds_toArray]); (try simp only [List.set_cons_succ]); (try simp only [List.set_cons_zero]))
                  refine wpAnyH_take (i := 8) (oi := ⟨some 69, _, _, _, _, none⟩) (v := ?_) rfl (by kernel_rfl) (by kernel_rfl) (by kernel_rfl) (fun _ _ _ h => h) (Or.inl ⟨by rfl, ?_⟩) (by assumption) ?_
                  case refine_2 => (intro wx hSx; (try dsimp only at hSx); go_simp; first | done | with_reducible rfl)
                  try simp only [Act.put, List.setIfInBounds_toArray, List.set_cons_zero, List.set_cons_succ]
                  refine wpAnyH_done (by kernel_rfl) ?_ _
                  clear hS
                  cases rd
                  · go_wp2_with fail
                    go_ret
                    exact ⟨by rw [HCO.out, HST.out]; rfl, M4.out.2⟩
                  · go_wp2_with fail
                    go_roundw
                    case rel => exact ⟨k + 1, by omega, by go_num, Lib.hid (HST.out.trans rfl), M4⟩
                    case measure => simp [intOf]; omega
                · have hv1 : (vc != 0) = true := by rw [bne_iff_ne]; exact hv0
                  have HV1 := Lib.hid hv0
                  clear HRa hv0
                  go_wp2_with fail
                  go_ret
                  exact ⟨by rw [HCO.out, HST.out, if_neg HV1.out]; rfl, M3.out.2⟩
              · have k1 : ¬ (k : Int) < (R.length : Int) := by omega
                obtain rfl : k = R.length := by omega
                go_wp2_with fail
                go_ret
                exact ⟨by rw [HCO.out, HRC.out, List.drop_length]; rfl, M.out.2⟩
        · have HCO := Lib.hid ((if_neg hl60).symm.trans HC3.out).symm
          have hl6 : (60 : Int) < (R.length : Int) := by omega
          clear HC1 HC2 HC3
          by_cases hz : cor = 0
          · subst hz
            go_wp2_with fail
            go_ret
            exact ⟨by rw [HCO.out]; rfl, HJ.out.2⟩
          · have hd0 : del = 0 := hone.resolve_left hz
            subst hd0
            have e1 : (cor != 0) = true := by rw [bne_iff_ne]; exact hz
            go_wp2_with fail
            go_ret
            exact ⟨by rw [HCO.out]; rfl, HJ.out.2⟩
      · have HCO := Lib.hid ((if_neg hone).symm.trans HC2.out).symm
        have e1 : (cor != 0) = true := by rw [bne_iff_ne]; intro h; exact hone (.inl h)
        have e2 : (del != 0) = true := by rw [bne_iff_ne]; intro h; exact hone (.inr h)
        clear hone HC1 HC2
        go_wp2_with fail
        go_ret
        exact ⟨by rw [HCO.out]; rfl, HJ.out.2⟩
    · have hr : Ck.Cal.rng t = false := Ck.Cal.rng_no (by omega)
      rw [hr]
      have HCO := Lib.hid ((if_neg (fun h : (0 ≤ t ∧ t ≤ 52595999) ∧ (0 ≤ cor ∧ cor ≤ 26) ∧ (0 ≤ del ∧ del ≤ 26) => ht h.1)).symm.trans HC1.out).symm
      clear ht hr
      go_wp2_with fail
      go_ret
      exact ⟨by rw [HCO.out]; rfl, HJ.out.2⟩
  · have HCO := Lib.hid ((if_neg hc).symm.trans HVC.out).symm
    rw [Bool.not_eq_true] at hc
    rw [hc]
    clear hc HVC
    go_wp2_with fail
    go_ret
    exact ⟨by rw [HCO.out]; rfl, HJ.out.2⟩
end Go.Proofs.YtfnlgfacadmjpaaGreatDoor.Bu
