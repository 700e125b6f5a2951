/- The walk of ClimatePlaces. -/
import Derived.Test.YtcheadbhkbbegaaDoorQar
namespace Go.Proofs.YtcheadbhkbbegaaDoor
open Go.RowKit

set_option maxRecDepth 100000 in
set_option maxHeartbeats 8000000 in
theorem climatePlaces_of (l : Value) (w : World) (hE : Env w) (hI : ListIn w l)
    (hA : ∀ w', Env w' → Calls Tryd.prog 12 #[] w' fun e w'' => e = .returned (.bool true) ∧ Below w'.heap.size w' w'') :
    Calls Tryd.prog 5 #[l] w fun e w' => e = .returned (.bool true) ∧ Below w.heap.size w w' := by
  have HE := Lib.hid hE
  have HA := Lib.hid hA
  clear hE hA
  go_enter Tryd.func5, Tryd.ntmps5
  go_wp2_with fail
  refine (new_any w l hI).mono ?_
  rintro e w1 ⟨rfl, s1, b1⟩
  obtain ⟨b, hb⟩ : ∃ b, w.heap.size = b := ⟨_, rfl⟩
  rw [hb] at s1 ⊢
  have HB := Lib.hid hb
  clear b1 hb hI
  go_wp2_with fail
  refine (minute_any w b _ s1).mono ?_
  rintro e w2 ⟨m, ⟨m1, m2⟩, rfl, s2, -⟩
  clear s1
  obtain ⟨y, M, d, hh, i, hcv, hcn, -⟩ := Ck.Cal.num_of m m1 m2
  have HCV := Lib.hid (And.intro hcn hcv)
  have HRG : Hid (Ck.Cal.rng m = true) := Lib.hid (by rw [← hcn]; exact rng_vld hcv)
  have HMT : Hid (mth m = M) := Lib.hid (mth_eq hcv hcn)
  have HV1 : Hid (Ck.Cal.vld y M 1 0 0 = true) := Lib.hid (first_vld hcv)
  clear hcv hcn
  go_wp2_with fail
  refine (climate_any w b w2 m s2 m1 m2).mono ?_
  rintro e w3 ⟨N, v, rfl, s3, g3, o3, hl, hf, -, -⟩
  obtain ⟨base, hbase⟩ : ∃ b, w2.heap.size = b := ⟨_, rfl⟩
  have hbb : b < base := by rw [← hbase]; exact src_lt s2
  have hb3 : b < w3.heap.size := src_lt s3
  rw [hbase] at o3
  obtain ⟨L, hL⟩ : ∃ L, N.length = L := ⟨_, rfl⟩
  obtain ⟨A, cap, rfl⟩ := row_form o3
  have b4 := (Below.refl w3.heap.size w3).alloc (Nat.le_refl _) (.cells #[.slice A N.length cap] 24)
  have H4 : Hid (Pq w b base N (.slice A N.length cap) w3.heap.size (w3.alloc (.cells #[.slice A N.length cap] 24))) := Lib.hid ⟨s3.under b4, El.own_under o3 b4, Row.new _ _ _, hbb, hb3⟩
  rw [hL] at H4 ⊢
  have HNL : Hid (N.length = L ∧ ∀ n ∈ N, 0 ≤ n.2.1 ∧ n.2.1 < 20) := Lib.hid ⟨hL, hf⟩
  rw [hL] at hl b4
  clear o3 s3 g3 s2 hbase b4 hf hb3 hL
  go_upto_region 4 with fail
  refine forget (fun Y => Hid (Pq w b base N (.slice A L cap) w3.heap.size Y)) H4 ?_
  clear H4
  generalize w3.heap.size = gc at *
  rintro Y4 H4
  go_wp2_with fail
  refine (place_any w b _ H4.out.src).mono ?_
  rintro e w5 ⟨F, P, Q, R, hn, rfl, s5, g5⟩
  obtain ⟨f, rfl, hvl⟩ := nrm_vld hn
  have H5 := H4.out.step s5 g5
  have b6 := (Below.refl w5.heap.size w5).alloc (Nat.le_refl _) (.cells #[.int .i64 (f : Int), .int .i64 P, .int .i64 Q, .int .i64 R] 27)
  have H6 : Hid (Pp w b base N (.slice A L cap) gc w5.heap.size #[.int .i64 (f : Int), .int .i64 P, .int .i64 Q, .int .i64 R] (w5.alloc (.cells #[.int .i64 (f : Int), .int .i64 P, .int .i64 Q, .int .i64 R] 27))) := Lib.hid ⟨H5.under b6, Row.new _ _ _, src_lt s5⟩
  have HVL := Lib.hid hvl
  clear hn hvl H4 H5 b6 s5 g5
  go_upto_region 5 with fail
  refine forget (fun Y => Hid (Pp w b base N (.slice A L cap) gc w5.heap.size #[.int .i64 (f : Int), .int .i64 P, .int .i64 Q, .int .i64 R] Y)) H6 ?_
  clear H6
  generalize w5.heap.size = gp at *
  rintro Y5 HP
  have z0 := (HP.out.q.box.cell 0).trans rfl
  by_cases hL0 : 0 < L
  · have kL : (0 : Int) < (L : Int) := by omega
    go_wp2_with fail
    refine (n_any w b _ _ HP.out.q.src (by omega) (by omega)).mono ?_
    rintro e w6 ⟨x, ⟨x1, x2⟩, rfl, s6, g6⟩
    have HP6 := Lib.hid (HP.out.step s6 g6)
    clear s6 g6 HP z0
    by_cases hx : 0 < x
    · go_upto_region 6 with fail
      have HS := Lib.hid (show ∀ Z cs, Pp w b base N (.slice A L cap) gc gp cs Z → Z.cell? ⟨gc, 0, none⟩ = some (.slice A L cap) from fun Z cs hz => (hz.q.box.cell 0).trans rfl)
      have HD := Lib.hid (show ∀ W : World, Below W.heap.size W W.drew from fun _ => ⟨rfl, rfl, rfl, Nat.le_refl _, fun _ _ => rfl⟩)
      refine wp_region_held_drew (S := fun Z : World => Z.cell? ⟨gc, 0, none⟩ = some (.slice A L cap)) (by kernel_rfl) (HS.out _ _ (HP6.out.under (HD.out _))) (fun hHeld => ?_)
      have HP7 := Lib.hid (HP6.out.under (HD.out w6))
      clear HP6
      generalize w6.drew = X at *
      refine tk 0 (oi := ⟨some 38, _, _, _, _, none⟩) rfl ?_
      try go_frame
      refine tk 1 (oi := ⟨some 39, _, _, _, _, none⟩) rfl ?_
      try go_frame
      refine tk 2 (oi := ⟨some 40, _, _, _, _, none⟩) rfl ?_
      try go_frame
      refine tk 3 (oi := ⟨some 41, _, _, _, _, none⟩) rfl ?_
      try go_frame
      refine tk 4 (oi := ⟨some 42, _, _, _, _, none⟩) rfl ?_
      try go_frame
      refine tk 5 (oi := ⟨some 43, _, _, _, _, none⟩) rfl ?_
      try go_frame
      refine wpAnyH_ready (rs := [6]) (by kernel_rfl) (by simp) ?_
      refine AllReadyH.cons (o := ⟨some 44, _, _, _, _, none⟩) rfl (fun K hK => ?_) AllReadyH.nil
      go_simp
      refine (n_any w b _ _ HP7.out.q.src (by omega) (by omega)).mono ?_
      rintro e w8 ⟨j, ⟨j1, j2⟩, rfl, s8, g8⟩
      go_wp2_with fail
      have HP8 := Lib.hid (HP7.out.step s8 g8)
      clear s8 g8 HP7 hHeld
      refine hK.out _ _ (HS.out _ _ HP8.out) (fun hHeld => ?_)
      clear hK K
      try simp only [Act.put, List.setIfInBounds_toArray, List.set_cons_zero, List.set_cons_succ]
      obtain ⟨j, rfl⟩ := Int.eq_ofNat_of_zero_le j1
      obtain ⟨g, rfl⟩ := own_addr (by have h8 := HP8.out.q.own; rw [HNL.out.1] at h8; exact h8) hL0
      have hjN : j < N.length := by have := HNL.out.1; omega
      have hfc := HNL.out.2 _ (List.getElem_mem hjN)
      have c1 := own_at HP8.out.q.own HNL.out.1 hjN
      obtain ⟨fc, hfe⟩ : ∃ fc : Nat, N[j].2.1 = (fc : Int) := ⟨N[j].2.1.toNat, by omega⟩
      rw [hfe] at hfc c1
      clear hjN hfe
      refine tk 7 (oi := ⟨some 45, _, _, _, _, none⟩) rfl ?_
      try go_frame
      refine tk 8 (oi := ⟨some 46, _, _, _, _, none⟩) rfl ?_
      try go_frame
      refine wpAnyH_ready (rs := [9]) (by kernel_rfl) (by simp) ?_
      refine AllReadyH.cons (o := ⟨some 47, _, _, _, _, none⟩) rfl (fun K hK => ?_) AllReadyH.nil
      go_simp
      refine hK.out _ _ hHeld (fun hHeld => ?_)
      clear hK K c1
      try simp only [Act.put, List.setIfInBounds_toArray, List.set_cons_zero, List.set_cons_succ]
      refine tk 10 (oi := ⟨some 48, _, _, _, _, none⟩) rfl ?_
      try go_frame
      refine wpAnyH_ready (rs := [11]) (by kernel_rfl) (by simp) ?_
      refine AllReadyH.cons (o := ⟨none, _, _, _, _, none⟩) rfl (fun K hK => ?_) AllReadyH.nil
      obtain ⟨x0, x1', x2', x3⟩ := row4 HP8.out.pl
      have f0 := HP8.out.pl.thaw 0
      have f1 := HP8.out.pl.thaw 1
      have f2 := HP8.out.pl.thaw 2
      have f3 := HP8.out.pl.thaw 3
      have hP9 := HP8.out.put4 (.int .i64 (fc : Int)) (.int .i64 420) (.int .i64 420) (.int .i64 0)
      have HP9 := Lib.hid hP9
      have HS8 := Lib.hid (HS.out _ _ hP9)
      clear hP9
      go_simp
      refine hK.out _ _ HS8.out (fun hHeld2 => ?_)
      clear hK K hHeld hHeld2 HS8 x0 x1' x2' x3 f0 f1 f2 f3 HP8
      try simp only [Act.put, List.setIfInBounds_toArray, List.set_cons_zero, List.set_cons_succ]
      refine wpAnyH_done (by kernel_rfl) ?_ _
      generalize ((((w8.setCell ⟨gp, 0, none⟩ (.int .i64 (fc : Int))).setCell ⟨gp, 1, none⟩ (.int .i64 420)).setCell ⟨gp, 2, none⟩ (.int .i64 420)).setCell ⟨gp, 3, none⟩ (.int .i64 0)) = Y9 at *
      obtain ⟨x0, x1', x2', x3⟩ := row4 HP9.out.pl
      go_wp2_with fail
      have hv9 : Pl.Ico.Vld fc 420 420 0 := ⟨by omega, by omega, by omega, by omega, by omega, by omega, by omega, by omega⟩
      refine (Pl.refNormal_yes fc 420 420 0 _ hv9).mono ?_
      rintro e w10 ⟨rfl, g10⟩
      have hn9 := nrm_nrm hv9
      generalize ((Pl.Ico.nf fc 420 420 0 : Nat) : Int) = F9 at *
      generalize Pl.nw fc 420 420 0 0 = P9 at *
      generalize Pl.nw fc 420 420 0 1 = Q9 at *
      generalize Pl.nw fc 420 420 0 2 = R9 at *
      obtain ⟨f9, rfl, hvl9⟩ := nrm_vld hn9
      have h10 := HP9.out.under g10
      have y0 := h10.pl.thaw 0
      have y1 := h10.pl.thaw 1
      have y2 := h10.pl.thaw 2
      have y3 := h10.pl.thaw 3
      obtain ⟨z0, z1, z2, z3⟩ := row4 h10.pl
      have HP := Lib.hid (h10.put4 (.int .i64 (f9 : Int)) (.int .i64 P9) (.int .i64 Q9) (.int .i64 R9))
      clear HVL
      have HVL := Lib.hid hvl9
      clear h10 HP9 g10 hv9 hn9 hvl9 x0 x1' x2' x3 hfc j1 j2
      go_upto_region 8 with fail
      refine forget (fun Y => Hid (Pp w b base N (.slice (some ⟨g, 0, none⟩) L cap) gc gp #[.int .i64 (f9 : Int), .int .i64 P9, .int .i64 Q9, .int .i64 R9] Y)) HP ?_
      clear HP z0 z1 z2 z3 y0 y1 y2 y3
      rintro Y8 HP
      go_wp2_with fail
      refine (range_any w b _ _ _ HP.out.q.src (by omega) (by omega) (by omega) (by omega)).mono ?_
      rintro e w9 ⟨code, ⟨d1, d2⟩, rfl, s9, g9⟩
      have HP9 := Lib.hid (HP.out.step s9 g9)
      clear s9 g9 HP
      obtain ⟨x0, x1, x2, x3⟩ := row4 HP9.out.pl
      have z0 := (HP9.out.q.box.cell 0).trans rfl
      have HNr := Lib.hid (NrIn.own HP9.out.q.own)
      have HE9 := Lib.hid (HE.out.under HP9.out.q.src.below)
      go_wp2_with fail
      refine (lookup_any _ N code f9 P9 Q9 R9 m _ HNr.out HE9.out).mono ?_
      rintro e w10 ⟨rfl, g10⟩
      rw [fam_at HVL.out HRG.out HMT.out]
      obtain ⟨r, hr⟩ : ∃ r, (lkpR N code (((Pl.Ico.nf f9 P9 Q9 R9 : Nat) : Int), M, 0)).1 = r := ⟨_, rfl⟩
      obtain ⟨er, her⟩ : ∃ r, (lkpR N code (((Pl.Ico.nf f9 P9 Q9 R9 : Nat) : Int), M, 0)).2 = r := ⟨_, rfl⟩
      rw [hr, her]
      have HR1 := Lib.hid hr
      have HR2 := Lib.hid her
      clear hr her
      have HP10 := Lib.hid (HP9.out.under g10)
      clear HP9 g10 HNr HE9 x0 x1 x2 x3 z0
      obtain ⟨x0, x1, x2, x3⟩ := row4 HP10.out.pl
      have b11 := (Below.refl w10.heap.size w10).alloc (Nat.le_refl _) (.cells #[.int .i64 r.1, .int .i64 r.2.1, .int .i64 r.2.2.1, .int .i64 r.2.2.2.1, .int .i64 r.2.2.2.2] 50)
      have HT : Hid (Pp w b base N (.slice (some ⟨g, 0, none⟩) L cap) gc gp #[.int .i64 (f9 : Int), .int .i64 P9, .int .i64 Q9, .int .i64 R9] (w10.alloc (.cells #[.int .i64 r.1, .int .i64 r.2.1, .int .i64 r.2.2.1, .int .i64 r.2.2.2.1, .int .i64 r.2.2.2.2] 50)) ∧ Row (w10.alloc (.cells #[.int .i64 r.1, .int .i64 r.2.1, .int .i64 r.2.2.1, .int .i64 r.2.2.2.1, .int .i64 r.2.2.2.2] 50)) w10.heap.size 50 #[.int .i64 r.1, .int .i64 r.2.1, .int .i64 r.2.2.1, .int .i64 r.2.2.2.1, .int .i64 r.2.2.2.2]) := Lib.hid ⟨HP10.out.under b11, Row.new _ _ _⟩
      clear b11 HP10
      go_upto_region 10 with fail
      refine forget (fun Y => Hid (Pp w b base N (.slice (some ⟨g, 0, none⟩) L cap) gc gp #[.int .i64 (f9 : Int), .int .i64 P9, .int .i64 Q9, .int .i64 R9] Y ∧ Row Y w10.heap.size 50 #[.int .i64 r.1, .int .i64 r.2.1, .int .i64 r.2.2.1, .int .i64 r.2.2.2.1, .int .i64 r.2.2.2.2])) HT ?_
      clear HT x0 x1 x2 x3
      generalize w10.heap.size = gn at *
      rintro Y10 HT
      obtain ⟨x0, x1, x2, x3⟩ := row4 HT.out.1.pl
      go_wp2_with fail
      refine (Pl.refAddresses_open f9 P9 Q9 R9 _ HVL.out).mono ?_
      rintro e w11 ⟨ga, ca, rfl, g11, -, hga, hc1, hc2, hHas⟩
      have HT1 : Hid (Pt w base N (.slice (some ⟨g, 0, none⟩) L cap) gc gn r w11) := Lib.hid ⟨(HT.out.1.q.src.under g11).below, El.own_under HT.out.1.q.own g11, HT.out.1.q.box.under g11, HT.out.2.under g11⟩
      have HHA : Hid (Pl.Has w11 f9 P9 Q9 R9 ga ∧ ga < w11.heap.size) := Lib.hid ⟨hHas, hga⟩
      clear HT g11 hga hHas x0 x1 x2 x3
      go_wp2_with fail
      refine (Ck.refDate_yes m y M d hh i _ HCV.out.1 HCV.out.2).mono ?_
      rintro e w12 ⟨rfl, g12⟩
      have b13 := (Below.refl w12.heap.size w12).alloc (Nat.le_refl _) (.cells #[.int .i64 y, .int .i64 M, .int .i64 d, .int .i64 hh, .int .i64 i] 68)
      have HT2 : Hid ((Pt w base N (.slice (some ⟨g, 0, none⟩) L cap) gc gn r (w12.alloc (.cells #[.int .i64 y, .int .i64 M, .int .i64 d, .int .i64 hh, .int .i64 i] 68)) ∧ (Pl.Has (w12.alloc (.cells #[.int .i64 y, .int .i64 M, .int .i64 d, .int .i64 hh, .int .i64 i] 68)) f9 P9 Q9 R9 ga ∧ ga < (w12.alloc (.cells #[.int .i64 y, .int .i64 M, .int .i64 d, .int .i64 hh, .int .i64 i] 68)).heap.size)) ∧ Row (w12.alloc (.cells #[.int .i64 y, .int .i64 M, .int .i64 d, .int .i64 hh, .int .i64 i] 68)) w12.heap.size 68 #[.int .i64 y, .int .i64 M, .int .i64 d, .int .i64 hh, .int .i64 i]) := Lib.hid ⟨⟨(HT1.out.under g12).under b13, Has.under (Has.under HHA.out.1 HHA.out.2 g12) (Nat.lt_of_lt_of_le HHA.out.2 g12.size) b13, Nat.lt_of_lt_of_le HHA.out.2 (Nat.le_trans g12.size b13.size)⟩, Row.new _ _ _⟩
      clear HT1 HHA g12 b13
      go_upto_region 12 with fail
      refine forget (fun Y => Hid ((Pt w base N (.slice (some ⟨g, 0, none⟩) L cap) gc gn r Y ∧ (Pl.Has Y f9 P9 Q9 R9 ga ∧ ga < Y.heap.size)) ∧ Row Y w12.heap.size 68 #[.int .i64 y, .int .i64 M, .int .i64 d, .int .i64 hh, .int .i64 i])) HT2 ?_
      clear HT2
      generalize w12.heap.size = gd at *
      rintro Y12 HT2
      obtain ⟨x0, x1, x2, x3, x4⟩ := row5 HT2.out.2
      go_wp2_with fail
      refine (Ck.refMinutes_yes y M 1 0 0 _ HV1.out).mono ?_
      rintro e w13 ⟨rfl, g13⟩
      obtain ⟨t1, ht1⟩ : ∃ t1, Ck.Cal.num y M 1 0 0 = t1 := ⟨_, rfl⟩
      rw [ht1]
      have HR3 : Hid (Ck.Cal.rng t1 = true ∧ mth t1 = M) := Lib.hid ⟨by rw [← ht1]; exact rng_vld HV1.out, mth_eq HV1.out ht1⟩
      have HL0 : Hid (Pt w base N (.slice (some ⟨g, 0, none⟩) L cap) gc gn r w13 ∧ (Pl.Has w13 f9 P9 Q9 R9 ga ∧ ga < w13.heap.size)) := Lib.hid ⟨HT2.out.1.1.under g13, Has.under HT2.out.1.2.1 HT2.out.1.2.2 g13, Nat.lt_of_lt_of_le HT2.out.1.2.2 g13.size⟩
      clear ht1 HT2 g13 x0 x1 x2 x3 x4
      obtain ⟨K, hK⟩ : ∃ K, Pl.Ico.fcs f9 P9 Q9 R9 20 = K := ⟨_, rfl⟩
      have HKK : Hid (Pl.Ico.fcs f9 P9 Q9 R9 20 = K ∧ K.length ≤ 20) := Lib.hid ⟨hK, by rw [← hK]; unfold Pl.Ico.fcs; exact Nat.le_trans (List.length_filter_le _ _) (by simp)⟩
      rw [hK] at hc1 ⊢
      clear hK
      go_wp2_with fail
      go_loopw [85] (fun t wr => ∃ k : Nat, k ≤ K.length ∧ t = .int .i64 (k : Int) ∧ Hid (Pt w base N (.slice (some ⟨g, 0, none⟩) L cap) gc gn r wr ∧ (Pl.Has wr f9 P9 Q9 R9 ga ∧ ga < wr.heap.size))) (fun t _ => K.length - (intOf t).toNat)
      case atStart => exact ⟨0, Nat.zero_le _, rfl, HL0⟩
      case round =>
        clear HL0
        obtain ⟨k, hk, rfl, HL0⟩ := hrel
        by_cases hlt : k < K.length
        · have k0 : (0 : Int) ≤ (k : Int) := by omega
          have k1 : (k : Int) < (K.length : Int) := by omega
          have hkk := HKK.out.2
          have hh4 := HL0.out.2.1 k (by rw [HKK.out.1]; exact hlt)
          have HFO : Hid (fam (K[k] : Nat) (Pl.Ico.wt f9 P9 Q9 R9 (Pl.Ico.cor K[k] 0)) (Pl.Ico.wt f9 P9 Q9 R9 (Pl.Ico.cor K[k] 1)) (Pl.Ico.wt f9 P9 Q9 R9 (Pl.Ico.cor K[k] 2)) t1 = (((Pl.Ico.nf f9 P9 Q9 R9 : Nat) : Int), M, 0)) := Lib.hid (fam_on HVL.out (by rw [HKK.out.1]; exact List.getElem_mem hlt) HR3.out.1 HR3.out.2)
          simp only [HKK.out.1] at hh4
          obtain ⟨c0, c1, c2, c3⟩ := hh4
          generalize K[k] = gf at *
          generalize Pl.Ico.wt f9 P9 Q9 R9 (Pl.Ico.cor gf 0) = w0 at *
          generalize Pl.Ico.wt f9 P9 Q9 R9 (Pl.Ico.cor gf 1) = w1' at *
          generalize Pl.Ico.wt f9 P9 Q9 R9 (Pl.Ico.cor gf 2) = w2' at *
          have b1 := (Below.refl wr.heap.size wr).alloc (Nat.le_refl _) (.cells #[.int .i64 (gf : Int), .int .i64 w0, .int .i64 w1', .int .i64 w2'] 27)
          have HL1 : Hid ((Pt w base N (.slice (some ⟨g, 0, none⟩) L cap) gc gn r (wr.alloc (.cells #[.int .i64 (gf : Int), .int .i64 w0, .int .i64 w1', .int .i64 w2'] 27)) ∧ (Pl.Has (wr.alloc (.cells #[.int .i64 (gf : Int), .int .i64 w0, .int .i64 w1', .int .i64 w2'] 27)) f9 P9 Q9 R9 ga ∧ ga < (wr.alloc (.cells #[.int .i64 (gf : Int), .int .i64 w0, .int .i64 w1', .int .i64 w2'] 27)).heap.size)) ∧ Row (wr.alloc (.cells #[.int .i64 (gf : Int), .int .i64 w0, .int .i64 w1', .int .i64 w2'] 27)) wr.heap.size 27 #[.int .i64 (gf : Int), .int .i64 w0, .int .i64 w1', .int .i64 w2']) := Lib.hid ⟨⟨HL0.out.1.under b1, Has.under HL0.out.2.1 HL0.out.2.2 b1, Nat.lt_of_lt_of_le HL0.out.2.2 b1.size⟩, Row.new _ _ _⟩
          clear b1 HL0
          go_upto_region 16 with fail
          refine forget (fun Y => Hid ((Pt w base N (.slice (some ⟨g, 0, none⟩) L cap) gc gn r Y ∧ (Pl.Has Y f9 P9 Q9 R9 ga ∧ ga < Y.heap.size)) ∧ Row Y wr.heap.size 27 #[.int .i64 (gf : Int), .int .i64 w0, .int .i64 w1', .int .i64 w2'])) HL1 ?_
          clear HL1 c0 c1 c2 c3
          generalize wr.heap.size = gq at *
          rintro Y16 HL1
          obtain ⟨x0, x1, x2, x3⟩ := row4 HL1.out.2
          have z0 := (HL1.out.1.1.box.cell 0).trans rfl
          have HNr := Lib.hid (NrIn.own HL1.out.1.1.own)
          have HE9 := Lib.hid (HE.out.under HL1.out.1.1.below)
          go_wp2_with fail
          refine (lookup_any _ N code (gf : Int) w0 w1' w2' t1 _ HNr.out HE9.out).mono ?_
          rintro e w17 ⟨rfl, g17⟩
          rw [HFO.out, HR1.out, HR2.out]
          have b18 := (Below.refl w17.heap.size w17).alloc (Nat.le_refl _) (.cells #[.int .i64 r.1, .int .i64 r.2.1, .int .i64 r.2.2.1, .int .i64 r.2.2.2.1, .int .i64 r.2.2.2.2] 50)
          have HL2 : Hid ((Pt w base N (.slice (some ⟨g, 0, none⟩) L cap) gc gn r (w17.alloc (.cells #[.int .i64 r.1, .int .i64 r.2.1, .int .i64 r.2.2.1, .int .i64 r.2.2.2.1, .int .i64 r.2.2.2.2] 50)) ∧ (Pl.Has (w17.alloc (.cells #[.int .i64 r.1, .int .i64 r.2.1, .int .i64 r.2.2.1, .int .i64 r.2.2.2.1, .int .i64 r.2.2.2.2] 50)) f9 P9 Q9 R9 ga ∧ ga < (w17.alloc (.cells #[.int .i64 r.1, .int .i64 r.2.1, .int .i64 r.2.2.1, .int .i64 r.2.2.2.1, .int .i64 r.2.2.2.2] 50)).heap.size)) ∧ Row (w17.alloc (.cells #[.int .i64 r.1, .int .i64 r.2.1, .int .i64 r.2.2.1, .int .i64 r.2.2.2.1, .int .i64 r.2.2.2.2] 50)) w17.heap.size 50 #[.int .i64 r.1, .int .i64 r.2.1, .int .i64 r.2.2.1, .int .i64 r.2.2.2.1, .int .i64 r.2.2.2.2]) := Lib.hid ⟨⟨(HL1.out.1.1.under g17).under b18, Has.under (Has.under HL1.out.1.2.1 HL1.out.1.2.2 g17) (Nat.lt_of_lt_of_le HL1.out.1.2.2 g17.size) b18, Nat.lt_of_lt_of_le HL1.out.1.2.2 (Nat.le_trans g17.size b18.size)⟩, Row.new _ _ _⟩
          clear HL1 HNr HE9 g17 b18 x0 x1 x2 x3 z0
          go_upto_region 17 with fail
          refine forget (fun Y => Hid ((Pt w base N (.slice (some ⟨g, 0, none⟩) L cap) gc gn r Y ∧ (Pl.Has Y f9 P9 Q9 R9 ga ∧ ga < Y.heap.size)) ∧ Row Y w17.heap.size 50 #[.int .i64 r.1, .int .i64 r.2.1, .int .i64 r.2.2.1, .int .i64 r.2.2.2.1, .int .i64 r.2.2.2.2])) HL2 ?_
          clear HL2
          generalize w17.heap.size = gm at *
          rintro Y17 HL2
          obtain ⟨x0, x1, x2, x3, x4⟩ := row5 HL2.out.2
          obtain ⟨y0, y1, y2, y3, y4⟩ := row5 HL2.out.1.1.nrm
          have HL3 := Lib.hid HL2.out.1
          clear HL2
          go_wp2_with fail
          exact ⟨⟨k + 1, by omega, by go_num, HL3⟩, by simp [intOf]; omega⟩
        · obtain rfl : k = K.length := by omega
          have k1 : ¬ (K.length : Int) < (K.length : Int) := by omega
          have HA0 := Lib.hid (HA.out wr (HE.out.under HL0.out.1.below))
          go_wp2_with fail
          refine HA0.out.mono ?_
          rintro e w20 ⟨rfl, g20⟩
          have HZ := Lib.hid (HL0.out.1.below.trans (g20.mono HL0.out.1.below.size))
          clear g20 HA0
          go_wp2_with fail
          exact bodyPost_ret (v := .bool true) (by simp [results, Tryd.results5, go_sem]) rfl ⟨rfl, HZ.out⟩
    · have hx' : ¬ 0 < x := hx
      have HP := HP6
      clear HP6
      have z0 := (HP.out.q.box.cell 0).trans rfl
      obtain ⟨x0, x1, x2, x3⟩ := row4 HP.out.pl
      have z0 := (HP.out.q.box.cell 0).trans rfl
      go_upto_region 8 with fail
      refine forget (fun Y => Hid (Pp w b base N (.slice A L cap) gc gp #[.int .i64 (f : Int), .int .i64 P, .int .i64 Q, .int .i64 R] Y)) HP ?_
      clear HP x0 x1 x2 x3 z0
      rintro Y8 HP
      go_wp2_with fail
      refine (range_any w b _ _ _ HP.out.q.src (by omega) (by omega) (by omega) (by omega)).mono ?_
      rintro e w9 ⟨code, ⟨d1, d2⟩, rfl, s9, g9⟩
      have HP9 := Lib.hid (HP.out.step s9 g9)
      clear s9 g9 HP
      obtain ⟨x0, x1, x2, x3⟩ := row4 HP9.out.pl
      have z0 := (HP9.out.q.box.cell 0).trans rfl
      have HNr := Lib.hid (NrIn.own HP9.out.q.own)
      have HE9 := Lib.hid (HE.out.under HP9.out.q.src.below)
      go_wp2_with fail
      refine (lookup_any _ N code f P Q R m _ HNr.out HE9.out).mono ?_
      rintro e w10 ⟨rfl, g10⟩
      rw [fam_at HVL.out HRG.out HMT.out]
      obtain ⟨r, hr⟩ : ∃ r, (lkpR N code (((Pl.Ico.nf f P Q R : Nat) : Int), M, 0)).1 = r := ⟨_, rfl⟩
      obtain ⟨er, her⟩ : ∃ r, (lkpR N code (((Pl.Ico.nf f P Q R : Nat) : Int), M, 0)).2 = r := ⟨_, rfl⟩
      rw [hr, her]
      have HR1 := Lib.hid hr
      have HR2 := Lib.hid her
      clear hr her
      have HP10 := Lib.hid (HP9.out.under g10)
      clear HP9 g10 HNr HE9 x0 x1 x2 x3 z0
      obtain ⟨x0, x1, x2, x3⟩ := row4 HP10.out.pl
      have b11 := (Below.refl w10.heap.size w10).alloc (Nat.le_refl _) (.cells #[.int .i64 r.1, .int .i64 r.2.1, .int .i64 r.2.2.1, .int .i64 r.2.2.2.1, .int .i64 r.2.2.2.2] 50)
      have HT : Hid (Pp w b base N (.slice A L cap) gc gp #[.int .i64 (f : Int), .int .i64 P, .int .i64 Q, .int .i64 R] (w10.alloc (.cells #[.int .i64 r.1, .int .i64 r.2.1, .int .i64 r.2.2.1, .int .i64 r.2.2.2.1, .int .i64 r.2.2.2.2] 50)) ∧ Row (w10.alloc (.cells #[.int .i64 r.1, .int .i64 r.2.1, .int .i64 r.2.2.1, .int .i64 r.2.2.2.1, .int .i64 r.2.2.2.2] 50)) w10.heap.size 50 #[.int .i64 r.1, .int .i64 r.2.1, .int .i64 r.2.2.1, .int .i64 r.2.2.2.1, .int .i64 r.2.2.2.2]) := Lib.hid ⟨HP10.out.under b11, Row.new _ _ _⟩
      clear b11 HP10
      go_upto_region 10 with fail
      refine forget (fun Y => Hid (Pp w b base N (.slice A L cap) gc gp #[.int .i64 (f : Int), .int .i64 P, .int .i64 Q, .int .i64 R] Y ∧ Row Y w10.heap.size 50 #[.int .i64 r.1, .int .i64 r.2.1, .int .i64 r.2.2.1, .int .i64 r.2.2.2.1, .int .i64 r.2.2.2.2])) HT ?_
      clear HT x0 x1 x2 x3
      generalize w10.heap.size = gn at *
      rintro Y10 HT
      obtain ⟨x0, x1, x2, x3⟩ := row4 HT.out.1.pl
      go_wp2_with fail
      refine (Pl.refAddresses_open f P Q R _ HVL.out).mono ?_
      rintro e w11 ⟨ga, ca, rfl, g11, -, hga, hc1, hc2, hHas⟩
      have HT1 : Hid (Pt w base N (.slice A L cap) gc gn r w11) := Lib.hid ⟨(HT.out.1.q.src.under g11).below, El.own_under HT.out.1.q.own g11, HT.out.1.q.box.under g11, HT.out.2.under g11⟩
      have HHA : Hid (Pl.Has w11 f P Q R ga ∧ ga < w11.heap.size) := Lib.hid ⟨hHas, hga⟩
      clear HT g11 hga hHas x0 x1 x2 x3
      go_wp2_with fail
      refine (Ck.refDate_yes m y M d hh i _ HCV.out.1 HCV.out.2).mono ?_
      rintro e w12 ⟨rfl, g12⟩
      have b13 := (Below.refl w12.heap.size w12).alloc (Nat.le_refl _) (.cells #[.int .i64 y, .int .i64 M, .int .i64 d, .int .i64 hh, .int .i64 i] 68)
      have HT2 : Hid ((Pt w base N (.slice A L cap) gc gn r (w12.alloc (.cells #[.int .i64 y, .int .i64 M, .int .i64 d, .int .i64 hh, .int .i64 i] 68)) ∧ (Pl.Has (w12.alloc (.cells #[.int .i64 y, .int .i64 M, .int .i64 d, .int .i64 hh, .int .i64 i] 68)) f P Q R ga ∧ ga < (w12.alloc (.cells #[.int .i64 y, .int .i64 M, .int .i64 d, .int .i64 hh, .int .i64 i] 68)).heap.size)) ∧ Row (w12.alloc (.cells #[.int .i64 y, .int .i64 M, .int .i64 d, .int .i64 hh, .int .i64 i] 68)) w12.heap.size 68 #[.int .i64 y, .int .i64 M, .int .i64 d, .int .i64 hh, .int .i64 i]) := Lib.hid ⟨⟨(HT1.out.under g12).under b13, Has.under (Has.under HHA.out.1 HHA.out.2 g12) (Nat.lt_of_lt_of_le HHA.out.2 g12.size) b13, Nat.lt_of_lt_of_le HHA.out.2 (Nat.le_trans g12.size b13.size)⟩, Row.new _ _ _⟩
      clear HT1 HHA g12 b13
      go_upto_region 12 with fail
      refine forget (fun Y => Hid ((Pt w base N (.slice A L cap) gc gn r Y ∧ (Pl.Has Y f P Q R ga ∧ ga < Y.heap.size)) ∧ Row Y w12.heap.size 68 #[.int .i64 y, .int .i64 M, .int .i64 d, .int .i64 hh, .int .i64 i])) HT2 ?_
      clear HT2
      generalize w12.heap.size = gd at *
      rintro Y12 HT2
      obtain ⟨x0, x1, x2, x3, x4⟩ := row5 HT2.out.2
      go_wp2_with fail
      refine (Ck.refMinutes_yes y M 1 0 0 _ HV1.out).mono ?_
      rintro e w13 ⟨rfl, g13⟩
      obtain ⟨t1, ht1⟩ : ∃ t1, Ck.Cal.num y M 1 0 0 = t1 := ⟨_, rfl⟩
      rw [ht1]
      have HR3 : Hid (Ck.Cal.rng t1 = true ∧ mth t1 = M) := Lib.hid ⟨by rw [← ht1]; exact rng_vld HV1.out, mth_eq HV1.out ht1⟩
      have HL0 : Hid (Pt w base N (.slice A L cap) gc gn r w13 ∧ (Pl.Has w13 f P Q R ga ∧ ga < w13.heap.size)) := Lib.hid ⟨HT2.out.1.1.under g13, Has.under HT2.out.1.2.1 HT2.out.1.2.2 g13, Nat.lt_of_lt_of_le HT2.out.1.2.2 g13.size⟩
      clear ht1 HT2 g13 x0 x1 x2 x3 x4
      obtain ⟨K, hK⟩ : ∃ K, Pl.Ico.fcs f P Q R 20 = K := ⟨_, rfl⟩
      have HKK : Hid (Pl.Ico.fcs f P Q R 20 = K ∧ K.length ≤ 20) := Lib.hid ⟨hK, by rw [← hK]; unfold Pl.Ico.fcs; exact Nat.le_trans (List.length_filter_le _ _) (by simp)⟩
      rw [hK] at hc1 ⊢
      clear hK
      go_wp2_with fail
      go_loopw [85] (fun t wr => ∃ k : Nat, k ≤ K.length ∧ t = .int .i64 (k : Int) ∧ Hid (Pt w base N (.slice A L cap) gc gn r wr ∧ (Pl.Has wr f P Q R ga ∧ ga < wr.heap.size))) (fun t _ => K.length - (intOf t).toNat)
      case atStart => exact ⟨0, Nat.zero_le _, rfl, HL0⟩
      case round =>
        clear HL0
        obtain ⟨k, hk, rfl, HL0⟩ := hrel
        by_cases hlt : k < K.length
        · have k0 : (0 : Int) ≤ (k : Int) := by omega
          have k1 : (k : Int) < (K.length : Int) := by omega
          have hkk := HKK.out.2
          have hh4 := HL0.out.2.1 k (by rw [HKK.out.1]; exact hlt)
          have HFO : Hid (fam (K[k] : Nat) (Pl.Ico.wt f P Q R (Pl.Ico.cor K[k] 0)) (Pl.Ico.wt f P Q R (Pl.Ico.cor K[k] 1)) (Pl.Ico.wt f P Q R (Pl.Ico.cor K[k] 2)) t1 = (((Pl.Ico.nf f P Q R : Nat) : Int), M, 0)) := Lib.hid (fam_on HVL.out (by rw [HKK.out.1]; exact List.getElem_mem hlt) HR3.out.1 HR3.out.2)
          simp only [HKK.out.1] at hh4
          obtain ⟨c0, c1, c2, c3⟩ := hh4
          generalize K[k] = gf at *
          generalize Pl.Ico.wt f P Q R (Pl.Ico.cor gf 0) = w0 at *
          generalize Pl.Ico.wt f P Q R (Pl.Ico.cor gf 1) = w1' at *
          generalize Pl.Ico.wt f P Q R (Pl.Ico.cor gf 2) = w2' at *
          have b1 := (Below.refl wr.heap.size wr).alloc (Nat.le_refl _) (.cells #[.int .i64 (gf : Int), .int .i64 w0, .int .i64 w1', .int .i64 w2'] 27)
          have HL1 : Hid ((Pt w base N (.slice A L cap) gc gn r (wr.alloc (.cells #[.int .i64 (gf : Int), .int .i64 w0, .int .i64 w1', .int .i64 w2'] 27)) ∧ (Pl.Has (wr.alloc (.cells #[.int .i64 (gf : Int), .int .i64 w0, .int .i64 w1', .int .i64 w2'] 27)) f P Q R ga ∧ ga < (wr.alloc (.cells #[.int .i64 (gf : Int), .int .i64 w0, .int .i64 w1', .int .i64 w2'] 27)).heap.size)) ∧ Row (wr.alloc (.cells #[.int .i64 (gf : Int), .int .i64 w0, .int .i64 w1', .int .i64 w2'] 27)) wr.heap.size 27 #[.int .i64 (gf : Int), .int .i64 w0, .int .i64 w1', .int .i64 w2']) := Lib.hid ⟨⟨HL0.out.1.under b1, Has.under HL0.out.2.1 HL0.out.2.2 b1, Nat.lt_of_lt_of_le HL0.out.2.2 b1.size⟩, Row.new _ _ _⟩
          clear b1 HL0
          go_upto_region 16 with fail
          refine forget (fun Y => Hid ((Pt w base N (.slice A L cap) gc gn r Y ∧ (Pl.Has Y f P Q R ga ∧ ga < Y.heap.size)) ∧ Row Y wr.heap.size 27 #[.int .i64 (gf : Int), .int .i64 w0, .int .i64 w1', .int .i64 w2'])) HL1 ?_
          clear HL1 c0 c1 c2 c3
          generalize wr.heap.size = gq at *
          rintro Y16 HL1
          obtain ⟨x0, x1, x2, x3⟩ := row4 HL1.out.2
          have z0 := (HL1.out.1.1.box.cell 0).trans rfl
          have HNr := Lib.hid (NrIn.own HL1.out.1.1.own)
          have HE9 := Lib.hid (HE.out.under HL1.out.1.1.below)
          go_wp2_with fail
          refine (lookup_any _ N code (gf : Int) w0 w1' w2' t1 _ HNr.out HE9.out).mono ?_
          rintro e w17 ⟨rfl, g17⟩
          rw [HFO.out, HR1.out, HR2.out]
          have b18 := (Below.refl w17.heap.size w17).alloc (Nat.le_refl _) (.cells #[.int .i64 r.1, .int .i64 r.2.1, .int .i64 r.2.2.1, .int .i64 r.2.2.2.1, .int .i64 r.2.2.2.2] 50)
          have HL2 : Hid ((Pt w base N (.slice A L cap) gc gn r (w17.alloc (.cells #[.int .i64 r.1, .int .i64 r.2.1, .int .i64 r.2.2.1, .int .i64 r.2.2.2.1, .int .i64 r.2.2.2.2] 50)) ∧ (Pl.Has (w17.alloc (.cells #[.int .i64 r.1, .int .i64 r.2.1, .int .i64 r.2.2.1, .int .i64 r.2.2.2.1, .int .i64 r.2.2.2.2] 50)) f P Q R ga ∧ ga < (w17.alloc (.cells #[.int .i64 r.1, .int .i64 r.2.1, .int .i64 r.2.2.1, .int .i64 r.2.2.2.1, .int .i64 r.2.2.2.2] 50)).heap.size)) ∧ Row (w17.alloc (.cells #[.int .i64 r.1, .int .i64 r.2.1, .int .i64 r.2.2.1, .int .i64 r.2.2.2.1, .int .i64 r.2.2.2.2] 50)) w17.heap.size 50 #[.int .i64 r.1, .int .i64 r.2.1, .int .i64 r.2.2.1, .int .i64 r.2.2.2.1, .int .i64 r.2.2.2.2]) := Lib.hid ⟨⟨(HL1.out.1.1.under g17).under b18, Has.under (Has.under HL1.out.1.2.1 HL1.out.1.2.2 g17) (Nat.lt_of_lt_of_le HL1.out.1.2.2 g17.size) b18, Nat.lt_of_lt_of_le HL1.out.1.2.2 (Nat.le_trans g17.size b18.size)⟩, Row.new _ _ _⟩
          clear HL1 HNr HE9 g17 b18 x0 x1 x2 x3 z0
          go_upto_region 17 with fail
          refine forget (fun Y => Hid ((Pt w base N (.slice A L cap) gc gn r Y ∧ (Pl.Has Y f P Q R ga ∧ ga < Y.heap.size)) ∧ Row Y w17.heap.size 50 #[.int .i64 r.1, .int .i64 r.2.1, .int .i64 r.2.2.1, .int .i64 r.2.2.2.1, .int .i64 r.2.2.2.2])) HL2 ?_
          clear HL2
          generalize w17.heap.size = gm at *
          rintro Y17 HL2
          obtain ⟨x0, x1, x2, x3, x4⟩ := row5 HL2.out.2
          obtain ⟨y0, y1, y2, y3, y4⟩ := row5 HL2.out.1.1.nrm
          have HL3 := Lib.hid HL2.out.1
          clear HL2
          go_wp2_with fail
          exact ⟨⟨k + 1, by omega, by go_num, HL3⟩, by simp [intOf]; omega⟩
        · obtain rfl : k = K.length := by omega
          have k1 : ¬ (K.length : Int) < (K.length : Int) := by omega
          have HA0 := Lib.hid (HA.out wr (HE.out.under HL0.out.1.below))
          go_wp2_with fail
          refine HA0.out.mono ?_
          rintro e w20 ⟨rfl, g20⟩
          have HZ := Lib.hid (HL0.out.1.below.trans (g20.mono HL0.out.1.below.size))
          clear g20 HA0
          go_wp2_with fail
          exact bodyPost_ret (v := .bool true) (by simp [results, Tryd.results5, go_sem]) rfl ⟨rfl, HZ.out⟩
  · have kL : ¬ (0 : Int) < (L : Int) := by omega
    clear z0
    obtain ⟨x0, x1, x2, x3⟩ := row4 HP.out.pl
    have z0 := (HP.out.q.box.cell 0).trans rfl
    go_upto_region 8 with fail
    refine forget (fun Y => Hid (Pp w b base N (.slice A L cap) gc gp #[.int .i64 (f : Int), .int .i64 P, .int .i64 Q, .int .i64 R] Y)) HP ?_
    clear HP x0 x1 x2 x3 z0
    rintro Y8 HP
    go_wp2_with fail
    refine (range_any w b _ _ _ HP.out.q.src (by omega) (by omega) (by omega) (by omega)).mono ?_
    rintro e w9 ⟨code, ⟨d1, d2⟩, rfl, s9, g9⟩
    have HP9 := Lib.hid (HP.out.step s9 g9)
    clear s9 g9 HP
    obtain ⟨x0, x1, x2, x3⟩ := row4 HP9.out.pl
    have z0 := (HP9.out.q.box.cell 0).trans rfl
    have HNr := Lib.hid (NrIn.own HP9.out.q.own)
    have HE9 := Lib.hid (HE.out.under HP9.out.q.src.below)
    go_wp2_with fail
    refine (lookup_any _ N code f P Q R m _ HNr.out HE9.out).mono ?_
    rintro e w10 ⟨rfl, g10⟩
    rw [fam_at HVL.out HRG.out HMT.out]
    obtain ⟨r, hr⟩ : ∃ r, (lkpR N code (((Pl.Ico.nf f P Q R : Nat) : Int), M, 0)).1 = r := ⟨_, rfl⟩
    obtain ⟨er, her⟩ : ∃ r, (lkpR N code (((Pl.Ico.nf f P Q R : Nat) : Int), M, 0)).2 = r := ⟨_, rfl⟩
    rw [hr, her]
    have HR1 := Lib.hid hr
    have HR2 := Lib.hid her
    clear hr her
    have HP10 := Lib.hid (HP9.out.under g10)
    clear HP9 g10 HNr HE9 x0 x1 x2 x3 z0
    obtain ⟨x0, x1, x2, x3⟩ := row4 HP10.out.pl
    have b11 := (Below.refl w10.heap.size w10).alloc (Nat.le_refl _) (.cells #[.int .i64 r.1, .int .i64 r.2.1, .int .i64 r.2.2.1, .int .i64 r.2.2.2.1, .int .i64 r.2.2.2.2] 50)
    have HT : Hid (Pp w b base N (.slice A L cap) gc gp #[.int .i64 (f : Int), .int .i64 P, .int .i64 Q, .int .i64 R] (w10.alloc (.cells #[.int .i64 r.1, .int .i64 r.2.1, .int .i64 r.2.2.1, .int .i64 r.2.2.2.1, .int .i64 r.2.2.2.2] 50)) ∧ Row (w10.alloc (.cells #[.int .i64 r.1, .int .i64 r.2.1, .int .i64 r.2.2.1, .int .i64 r.2.2.2.1, .int .i64 r.2.2.2.2] 50)) w10.heap.size 50 #[.int .i64 r.1, .int .i64 r.2.1, .int .i64 r.2.2.1, .int .i64 r.2.2.2.1, .int .i64 r.2.2.2.2]) := Lib.hid ⟨HP10.out.under b11, Row.new _ _ _⟩
    clear b11 HP10
    go_upto_region 10 with fail
    refine forget (fun Y => Hid (Pp w b base N (.slice A L cap) gc gp #[.int .i64 (f : Int), .int .i64 P, .int .i64 Q, .int .i64 R] Y ∧ Row Y w10.heap.size 50 #[.int .i64 r.1, .int .i64 r.2.1, .int .i64 r.2.2.1, .int .i64 r.2.2.2.1, .int .i64 r.2.2.2.2])) HT ?_
    clear HT x0 x1 x2 x3
    generalize w10.heap.size = gn at *
    rintro Y10 HT
    obtain ⟨x0, x1, x2, x3⟩ := row4 HT.out.1.pl
    go_wp2_with fail
    refine (Pl.refAddresses_open f P Q R _ HVL.out).mono ?_
    rintro e w11 ⟨ga, ca, rfl, g11, -, hga, hc1, hc2, hHas⟩
    have HT1 : Hid (Pt w base N (.slice A L cap) gc gn r w11) := Lib.hid ⟨(HT.out.1.q.src.under g11).below, El.own_under HT.out.1.q.own g11, HT.out.1.q.box.under g11, HT.out.2.under g11⟩
    have HHA : Hid (Pl.Has w11 f P Q R ga ∧ ga < w11.heap.size) := Lib.hid ⟨hHas, hga⟩
    clear HT g11 hga hHas x0 x1 x2 x3
    go_wp2_with fail
    refine (Ck.refDate_yes m y M d hh i _ HCV.out.1 HCV.out.2).mono ?_
    rintro e w12 ⟨rfl, g12⟩
    have b13 := (Below.refl w12.heap.size w12).alloc (Nat.le_refl _) (.cells #[.int .i64 y, .int .i64 M, .int .i64 d, .int .i64 hh, .int .i64 i] 68)
    have HT2 : Hid ((Pt w base N (.slice A L cap) gc gn r (w12.alloc (.cells #[.int .i64 y, .int .i64 M, .int .i64 d, .int .i64 hh, .int .i64 i] 68)) ∧ (Pl.Has (w12.alloc (.cells #[.int .i64 y, .int .i64 M, .int .i64 d, .int .i64 hh, .int .i64 i] 68)) f P Q R ga ∧ ga < (w12.alloc (.cells #[.int .i64 y, .int .i64 M, .int .i64 d, .int .i64 hh, .int .i64 i] 68)).heap.size)) ∧ Row (w12.alloc (.cells #[.int .i64 y, .int .i64 M, .int .i64 d, .int .i64 hh, .int .i64 i] 68)) w12.heap.size 68 #[.int .i64 y, .int .i64 M, .int .i64 d, .int .i64 hh, .int .i64 i]) := Lib.hid ⟨⟨(HT1.out.under g12).under b13, Has.under (Has.under HHA.out.1 HHA.out.2 g12) (Nat.lt_of_lt_of_le HHA.out.2 g12.size) b13, Nat.lt_of_lt_of_le HHA.out.2 (Nat.le_trans g12.size b13.size)⟩, Row.new _ _ _⟩
    clear HT1 HHA g12 b13
    go_upto_region 12 with fail
    refine forget (fun Y => Hid ((Pt w base N (.slice A L cap) gc gn r Y ∧ (Pl.Has Y f P Q R ga ∧ ga < Y.heap.size)) ∧ Row Y w12.heap.size 68 #[.int .i64 y, .int .i64 M, .int .i64 d, .int .i64 hh, .int .i64 i])) HT2 ?_
    clear HT2
    generalize w12.heap.size = gd at *
    rintro Y12 HT2
    obtain ⟨x0, x1, x2, x3, x4⟩ := row5 HT2.out.2
    go_wp2_with fail
    refine (Ck.refMinutes_yes y M 1 0 0 _ HV1.out).mono ?_
    rintro e w13 ⟨rfl, g13⟩
    obtain ⟨t1, ht1⟩ : ∃ t1, Ck.Cal.num y M 1 0 0 = t1 := ⟨_, rfl⟩
    rw [ht1]
    have HR3 : Hid (Ck.Cal.rng t1 = true ∧ mth t1 = M) := Lib.hid ⟨by rw [← ht1]; exact rng_vld HV1.out, mth_eq HV1.out ht1⟩
    have HL0 : Hid (Pt w base N (.slice A L cap) gc gn r w13 ∧ (Pl.Has w13 f P Q R ga ∧ ga < w13.heap.size)) := Lib.hid ⟨HT2.out.1.1.under g13, Has.under HT2.out.1.2.1 HT2.out.1.2.2 g13, Nat.lt_of_lt_of_le HT2.out.1.2.2 g13.size⟩
    clear ht1 HT2 g13 x0 x1 x2 x3 x4
    obtain ⟨K, hK⟩ : ∃ K, Pl.Ico.fcs f P Q R 20 = K := ⟨_, rfl⟩
    have HKK : Hid (Pl.Ico.fcs f P Q R 20 = K ∧ K.length ≤ 20) := Lib.hid ⟨hK, by rw [← hK]; unfold Pl.Ico.fcs; exact Nat.le_trans (List.length_filter_le _ _) (by simp)⟩
    rw [hK] at hc1 ⊢
    clear hK
    go_wp2_with fail
    go_loopw [85] (fun t wr => ∃ k : Nat, k ≤ K.length ∧ t = .int .i64 (k : Int) ∧ Hid (Pt w base N (.slice A L cap) gc gn r wr ∧ (Pl.Has wr f P Q R ga ∧ ga < wr.heap.size))) (fun t _ => K.length - (intOf t).toNat)
    case atStart => exact ⟨0, Nat.zero_le _, rfl, HL0⟩
    case round =>
      clear HL0
      obtain ⟨k, hk, rfl, HL0⟩ := hrel
      by_cases hlt : k < K.length
      · have k0 : (0 : Int) ≤ (k : Int) := by omega
        have k1 : (k : Int) < (K.length : Int) := by omega
        have hkk := HKK.out.2
        have hh4 := HL0.out.2.1 k (by rw [HKK.out.1]; exact hlt)
        have HFO : Hid (fam (K[k] : Nat) (Pl.Ico.wt f P Q R (Pl.Ico.cor K[k] 0)) (Pl.Ico.wt f P Q R (Pl.Ico.cor K[k] 1)) (Pl.Ico.wt f P Q R (Pl.Ico.cor K[k] 2)) t1 = (((Pl.Ico.nf f P Q R : Nat) : Int), M, 0)) := Lib.hid (fam_on HVL.out (by rw [HKK.out.1]; exact List.getElem_mem hlt) HR3.out.1 HR3.out.2)
        simp only [HKK.out.1] at hh4
        obtain ⟨c0, c1, c2, c3⟩ := hh4
        generalize K[k] = gf at *
        generalize Pl.Ico.wt f P Q R (Pl.Ico.cor gf 0) = w0 at *
        generalize Pl.Ico.wt f P Q R (Pl.Ico.cor gf 1) = w1' at *
        generalize Pl.Ico.wt f P Q R (Pl.Ico.cor gf 2) = w2' at *
        have b1 := (Below.refl wr.heap.size wr).alloc (Nat.le_refl _) (.cells #[.int .i64 (gf : Int), .int .i64 w0, .int .i64 w1', .int .i64 w2'] 27)
        have HL1 : Hid ((Pt w base N (.slice A L cap) gc gn r (wr.alloc (.cells #[.int .i64 (gf : Int), .int .i64 w0, .int .i64 w1', .int .i64 w2'] 27)) ∧ (Pl.Has (wr.alloc (.cells #[.int .i64 (gf : Int), .int .i64 w0, .int .i64 w1', .int .i64 w2'] 27)) f P Q R ga ∧ ga < (wr.alloc (.cells #[.int .i64 (gf : Int), .int .i64 w0, .int .i64 w1', .int .i64 w2'] 27)).heap.size)) ∧ Row (wr.alloc (.cells #[.int .i64 (gf : Int), .int .i64 w0, .int .i64 w1', .int .i64 w2'] 27)) wr.heap.size 27 #[.int .i64 (gf : Int), .int .i64 w0, .int .i64 w1', .int .i64 w2']) := Lib.hid ⟨⟨HL0.out.1.under b1, Has.under HL0.out.2.1 HL0.out.2.2 b1, Nat.lt_of_lt_of_le HL0.out.2.2 b1.size⟩, Row.new _ _ _⟩
        clear b1 HL0
        go_upto_region 16 with fail
        refine forget (fun Y => Hid ((Pt w base N (.slice A L cap) gc gn r Y ∧ (Pl.Has Y f P Q R ga ∧ ga < Y.heap.size)) ∧ Row Y wr.heap.size 27 #[.int .i64 (gf : Int), .int .i64 w0, .int .i64 w1', .int .i64 w2'])) HL1 ?_
        clear HL1 c0 c1 c2 c3
        generalize wr.heap.size = gq at *
        rintro Y16 HL1
        obtain ⟨x0, x1, x2, x3⟩ := row4 HL1.out.2
        have z0 := (HL1.out.1.1.box.cell 0).trans rfl
        have HNr := Lib.hid (NrIn.own HL1.out.1.1.own)
        have HE9 := Lib.hid (HE.out.under HL1.out.1.1.below)
        go_wp2_with fail
        refine (lookup_any _ N code (gf : Int) w0 w1' w2' t1 _ HNr.out HE9.out).mono ?_
        rintro e w17 ⟨rfl, g17⟩
        rw [HFO.out, HR1.out, HR2.out]
        have b18 := (Below.refl w17.heap.size w17).alloc (Nat.le_refl _) (.cells #[.int .i64 r.1, .int .i64 r.2.1, .int .i64 r.2.2.1, .int .i64 r.2.2.2.1, .int .i64 r.2.2.2.2] 50)
        have HL2 : Hid ((Pt w base N (.slice A L cap) gc gn r (w17.alloc (.cells #[.int .i64 r.1, .int .i64 r.2.1, .int .i64 r.2.2.1, .int .i64 r.2.2.2.1, .int .i64 r.2.2.2.2] 50)) ∧ (Pl.Has (w17.alloc (.cells #[.int .i64 r.1, .int .i64 r.2.1, .int .i64 r.2.2.1, .int .i64 r.2.2.2.1, .int .i64 r.2.2.2.2] 50)) f P Q R ga ∧ ga < (w17.alloc (.cells #[.int .i64 r.1, .int .i64 r.2.1, .int .i64 r.2.2.1, .int .i64 r.2.2.2.1, .int .i64 r.2.2.2.2] 50)).heap.size)) ∧ Row (w17.alloc (.cells #[.int .i64 r.1, .int .i64 r.2.1, .int .i64 r.2.2.1, .int .i64 r.2.2.2.1, .int .i64 r.2.2.2.2] 50)) w17.heap.size 50 #[.int .i64 r.1, .int .i64 r.2.1, .int .i64 r.2.2.1, .int .i64 r.2.2.2.1, .int .i64 r.2.2.2.2]) := Lib.hid ⟨⟨(HL1.out.1.1.under g17).under b18, Has.under (Has.under HL1.out.1.2.1 HL1.out.1.2.2 g17) (Nat.lt_of_lt_of_le HL1.out.1.2.2 g17.size) b18, Nat.lt_of_lt_of_le HL1.out.1.2.2 (Nat.le_trans g17.size b18.size)⟩, Row.new _ _ _⟩
        clear HL1 HNr HE9 g17 b18 x0 x1 x2 x3 z0
        go_upto_region 17 with fail
        refine forget (fun Y => Hid ((Pt w base N (.slice A L cap) gc gn r Y ∧ (Pl.Has Y f P Q R ga ∧ ga < Y.heap.size)) ∧ Row Y w17.heap.size 50 #[.int .i64 r.1, .int .i64 r.2.1, .int .i64 r.2.2.1, .int .i64 r.2.2.2.1, .int .i64 r.2.2.2.2])) HL2 ?_
        clear HL2
        generalize w17.heap.size = gm at *
        rintro Y17 HL2
        obtain ⟨x0, x1, x2, x3, x4⟩ := row5 HL2.out.2
        obtain ⟨y0, y1, y2, y3, y4⟩ := row5 HL2.out.1.1.nrm
        have HL3 := Lib.hid HL2.out.1
        clear HL2
        go_wp2_with fail
        exact ⟨⟨k + 1, by omega, by go_num, HL3⟩, by simp [intOf]; omega⟩
      · obtain rfl : k = K.length := by omega
        have k1 : ¬ (K.length : Int) < (K.length : Int) := by omega
        have HA0 := Lib.hid (HA.out wr (HE.out.under HL0.out.1.below))
        go_wp2_with fail
        refine HA0.out.mono ?_
        rintro e w20 ⟨rfl, g20⟩
        have HZ := Lib.hid (HL0.out.1.below.trans (g20.mono HL0.out.1.below.size))
        clear g20 HA0
        go_wp2_with fail
        exact bodyPost_ret (v := .bool true) (by simp [results, Tryd.results5, go_sem]) rfl ⟨rfl, HZ.out⟩
end Go.Proofs.YtcheadbhkbbegaaDoor
