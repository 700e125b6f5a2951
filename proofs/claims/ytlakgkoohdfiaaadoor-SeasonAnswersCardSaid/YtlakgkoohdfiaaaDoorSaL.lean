/- The walk of SeasonAnswers. -/
import Derived.Test.YtlakgkoohdfiaaaDoorQax
namespace Go.Proofs.YtlakgkoohdfiaaaDoor
open Go.RowKit Go.Maps

set_option maxRecDepth 100000 in
set_option maxHeartbeats 8000000 in
theorem seasonAnswers_any (uc : Value) (N0 : List Cm.N5) (k : Int) (nm : ByteArray) (t F A B C : Int) (u : Value) (L : List El.Elt.R) (l : Value) (code : Int) (w : World) (hE : Env w) (hN : NrIn w uc N0) (hL : El.RdIn w u L) (hI : ListIn w l) :
    Calls Tryd.prog 4 #[clV uc, repV k nm t F A B C u, l, .int .i64 code] w fun e w' => e = .returned (.bool true) ∧ Below w.heap.size w w' := by
  have I0 : Hid (Sv w w.heap.size (w.heap.size + 1) uc N0 k nm t F A B C u L ((w.alloc (.cells #[uc] 24)).alloc (.cells (repC k nm t F A B C u) 38))) := Lib.hid (Sv.start w uc u N0 k t F A B C nm L hN hL hE)
  obtain ⟨i0, hi0, hz0, hz1, hz2⟩ := info_parts infoReport
  have HLi := Lib.hid hI
  obtain ⟨V, cap0, rfl, -⟩ := id hN
  obtain ⟨U, cu, rfl, -⟩ := id hL
  clear hN hL hE hI
  go_enter Tryd.func4, Tryd.ntmps4
  go_upto_region 1 with fail
  refine forget (fun Y => Hid (Sv w w.heap.size (w.heap.size + 1) (.slice V N0.length cap0) N0 k nm t F A B C (.slice U L.length cu) L Y)) I0 ?_
  clear I0
  obtain ⟨gp, hgp⟩ : ∃ g, w.heap.size + 1 = g := ⟨_, rfl⟩
  obtain ⟨gb, hgb⟩ : ∃ g, w.heap.size = g := ⟨_, rfl⟩
  rw [hgp, hgb]
  have HGB := Lib.hid hgb
  clear hgp hgb
  rintro W HI
  have q8 := (HI.out.cl.cell 0).trans rfl
  obtain ⟨q0, q1, q2, q3, q4, q5, q6, q7⟩ := row8 HI.out.rp
  by_cases h300 : 300 < N0.length
  · have k0 : (300 : Int) < (N0.length : Int) := by omega
    go_wp2_with fail
    refine (awake15 W HI.out.env).mono ?_
    rintro e w9 ⟨rfl, g9⟩
    have HB2 := Lib.hid (HI.out.below.trans (g9.mono HI.out.below.size))
    clear g9
    go_wp2_with fail
    go_ret
    exact ⟨rfl, HGB.out ▸ HB2.out⟩
  · have k0 : ¬ (300 : Int) < (N0.length : Int) := by omega
    have HSm := Lib.hid (small_any k nm t F A B C (.slice U L.length cu) L W HI.out.rd)
    obtain ⟨z, hz⟩ : ∃ z, (decide (nm.size ≤ 40) && decide (L.length ≤ 40)) = z := ⟨_, rfl⟩
    rw [hz] at HSm
    have HZ := Lib.hid hz
    clear hz
    go_wp2_with fail
    refine HSm.out.mono ?_
    rintro e W1 ⟨rfl, g1⟩
    have HI1 := Lib.hid (HI.out.under g1)
    clear g1 HI HSm q0 q1 q2 q3 q4 q5 q6 q7 q8
    cases z with
    | false =>
      go_wp2_with fail
      refine (awake15 W1 HI1.out.env).mono ?_
      rintro e w9 ⟨rfl, g9⟩
      have HB2 := Lib.hid (HI1.out.below.trans (g9.mono HI1.out.below.size))
      clear g9
      go_wp2_with fail
      go_ret
      exact ⟨rfl, HGB.out ▸ HB2.out⟩
    | true =>
      have hL40 : L.length ≤ 40 := by
        have := HZ.out
        simp only [Bool.and_eq_true, decide_eq_true_eq] at this
        exact this.2
      clear HZ
      have HLi1 := Lib.hid (HLi.out.under HI1.out.below)
      go_wp2_with fail
      refine (new_any W1 l HLi1.out).mono ?_
      rintro e w1 ⟨rfl, s1, b1⟩
      obtain ⟨b, hb⟩ : ∃ b, W1.heap.size = b := ⟨_, rfl⟩
      rw [hb] at s1 ⊢
      clear b1 hb HLi HLi1
      go_wp2_with fail
      refine (minute_any W1 b _ s1).mono ?_
      rintro e w2 ⟨m, ⟨m1, m2⟩, rfl, s2, -⟩
      clear s1
      go_wp2_with fail
      refine (placed_any W1 b w2 m 6 s2 (by omega) m1 m2).mono ?_
      rintro e w3 ⟨R, vr, rfl, hRl, hPL⟩
      have HBl := Lib.hid (src_lt s2)
      have HWs := Lib.hid (s2.below.size)
      have H3 := Lib.hid hPL
      have hR6 : R.length ≤ 6 := by omega
      obtain ⟨Ar, cr, hvr, -⟩ := id hPL.ins
      subst hvr
      clear hPL s2 hRl
      go_wp2_with fail
      refine (refLearn_any (.slice Ar R.length cr) R _ H3.out.ins (by omega)).mono ?_
      rintro e w4 ⟨v, rfl, g4, o4⟩
      have HLv := Lib.hid (lrn_vld (R := R))
      obtain ⟨N, hN⟩ : ∃ N, (lrn R).1 = N := ⟨_, rfl⟩
      obtain ⟨er, her⟩ : ∃ N, (lrn R).2 = N := ⟨_, rfl⟩
      rw [hN] at HLv o4
      rw [her]
      clear hN her
      obtain ⟨A1, cap, rfl⟩ := row_form o4
      have hNl : N.length ≤ 200 := (Cm.vldN_ok HLv.out).1
      clear HLv
      have b5 := (Below.refl w4.heap.size w4).alloc (Nat.le_refl _) (.cells #[.slice A1 N.length cap] 24)
      have H5 : Hid (∃ M, Sa W1 b w2 m R (.slice Ar R.length cr) w3.heap.size A1 N.length cap M w4.heap.size (w4.alloc (.cells #[.slice A1 N.length cap] 24))) := Lib.hid (by
        have h4 := H3.out.step HBl.out (H3.out.src.under g4) (grown_below g4)
        have h5 := h4.step HBl.out (h4.src.under b5) (grown_below b5)
        have hs := H3.out.gro.size
        have hs4 := g4.size
        have hbl := HBl.out
        exact ⟨N, h5, El.own_under o4 b5, rfl, Row.new _ _ _, hs, hbl, HWs.out, by omega⟩)
      clear o4 g4 b5 H3
      go_upto_region 7 with fail
      refine forget (fun Y => Hid (∃ M, Sa W1 b w2 m R (.slice Ar R.length cr) w3.heap.size A1 N.length cap M w4.heap.size Y)) H5 ?_
      clear H5
      generalize w4.heap.size = gc at *
      generalize w3.heap.size = bn at *
      generalize hn : N.length = n at *
      clear hn
      rintro Y5 H5
      have q0 := (H5.out.choose_spec.box.cell 0).trans rfl
      go_wp2_with fail
      clear q0
      go_loopw [55] (fun t' wr => ∃ i : Nat, i ≤ n ∧ t' = .int .i64 (i : Int) ∧ Hid (∃ M, Sa W1 b w2 m R (.slice Ar R.length cr) bn A1 n cap M gc wr)) (fun t' _ => n - (intOf t').toNat)
      case atStart => exact ⟨0, Nat.zero_le _, rfl, H5⟩
      case round =>
        clear H5
        obtain ⟨i, hi, rfl, H6⟩ := hrel
        by_cases hlt : i < n
        · obtain ⟨g, hA⟩ := own_addr H6.out.choose_spec.own (by omega)
          subst hA
          have k1 : (0 : Int) ≤ (i : Int) := by omega
          have k2 : (i : Int) < (n : Int) := by omega
          have HS := Lib.hid (show ∀ M Z, Sa W1 b w2 m R (.slice Ar R.length cr) bn (some ⟨g, 0, none⟩) n cap M gc Z → Z.cell? ⟨gc, 0, none⟩ = some (.slice (some ⟨g, 0, none⟩) n cap) from fun M Z hz => (hz.box.cell 0).trans rfl)
          have HD := Lib.hid (show ∀ W : World, Below W.heap.size W W.drew from fun _ => ⟨rfl, rfl, rfl, Nat.le_refl _, fun _ _ => rfl⟩)
          go_upto_region 10 with fail
          obtain ⟨M, hM⟩ := H6.out
          have HC5 := Lib.hid hM
          clear hM H6
          refine wp_region_held_drew (S := fun Z : World => Z.cell? ⟨gc, 0, none⟩ = some (.slice (some ⟨g, 0, none⟩) n cap)) (by kernel_rfl) (HS.out _ _ (HC5.out.under (HD.out _))) (fun hHeld => ?_)
          have HC6 := Lib.hid (HC5.out.under (HD.out wr))
          clear HC5
          generalize wr.drew = X at *
          refine tk 0 (oi := ⟨some 58, _, _, _, _, none⟩) rfl ?_
          try go_frame
          refine tk 1 (oi := ⟨some 59, _, _, _, _, none⟩) rfl ?_
          try go_frame
          refine tk 2 (oi := ⟨some 60, _, _, _, _, none⟩) rfl ?_
          try go_frame
          refine tk 3 (oi := ⟨some 61, _, _, _, _, none⟩) rfl ?_
          try go_frame
          refine wpAnyH_ready (rs := [4]) (by kernel_rfl) (by simp) ?_
          refine AllReadyH.cons (o := ⟨some 62, _, _, _, _, none⟩) rfl (fun K hK => ?_) AllReadyH.nil
          go_simp
          refine (n_any W1 b _ 100 HC6.out.pl.src (by omega) (by omega)).mono ?_
          rintro e w6 ⟨y, ⟨y1, y2⟩, rfl, s6, g6⟩
          go_wp2_with fail
          have HC7 := Lib.hid (HC6.out.step s6 g6)
          clear s6 g6 HC6 hHeld
          refine hK.out _ _ (HS.out _ _ HC7.out) (fun hHeld => ?_)
          clear hK K
          try simp only [Act.put, List.setIfInBounds_toArray, List.set_cons_zero, List.set_cons_succ]
          refine tk 5 (oi := ⟨some 63, _, _, _, _, none⟩) rfl ?_
          try go_frame
          refine tk 6 (oi := ⟨some 64, _, _, _, _, none⟩) rfl ?_
          try go_frame
          refine wpAnyH_ready (rs := [7]) (by kernel_rfl) (by simp) ?_
          refine AllReadyH.cons (o := ⟨none, _, _, _, _, none⟩) rfl (fun K hK => ?_) AllReadyH.nil
          obtain ⟨⟨u4, c4⟩, f4⟩ := HC7.out.facts hlt 4 (by omega)
          obtain ⟨M8, hC8⟩ := HC7.out.put4 hlt y
          have HC8 := Lib.hid hC8
          clear hC8
          go_simp
          refine hK.out _ _ (HS.out _ _ HC8.out) (fun hHeld2 => ?_)
          clear hK K hHeld hHeld2 c4 f4 HC7
          try simp only [Act.put, List.setIfInBounds_toArray, List.set_cons_zero, List.set_cons_succ]
          refine wpAnyH_done (by kernel_rfl) ?_ _
          generalize w6.setCell ⟨g, i * 5 + 4, none⟩ (.int .i64 y) = w7 at *
          go_wp2_with fail
          refine (n_any W1 b _ 9 HC8.out.pl.src (by omega) (by omega)).mono ?_
          rintro e w8 ⟨x, ⟨x1, x2⟩, rfl, s8, g8⟩
          have HC9 := Lib.hid (HC8.out.step s8 g8)
          clear s8 g8 HC8
          by_cases hx0 : x = 0
          · subst hx0
            go_upto_region 12 with fail
            refine wp_region_held_drew (S := fun Z : World => Z.cell? ⟨gc, 0, none⟩ = some (.slice (some ⟨g, 0, none⟩) n cap)) (by kernel_rfl) (HS.out _ _ (HC9.out.under (HD.out _))) (fun hHeld => ?_)
            have HC6 := Lib.hid (HC9.out.under (HD.out w8))
            clear HC9
            generalize w8.drew = X at *
            refine tk 0 (oi := ⟨some 68, _, _, _, _, none⟩) rfl ?_
            try go_frame
            refine tk 1 (oi := ⟨some 69, _, _, _, _, none⟩) rfl ?_
            try go_frame
            refine tk 2 (oi := ⟨some 70, _, _, _, _, none⟩) rfl ?_
            try go_frame
            refine tk 3 (oi := ⟨some 71, _, _, _, _, none⟩) rfl ?_
            try go_frame
            refine wpAnyH_ready (rs := [4]) (by kernel_rfl) (by simp) ?_
            refine AllReadyH.cons (o := ⟨some 72, _, _, _, _, none⟩) rfl (fun K hK => ?_) AllReadyH.nil
            go_simp
            refine (range_any W1 b _ 0 13 HC6.out.pl.src (by omega) (by omega) (by omega) (by omega)).mono ?_
            rintro e w6 ⟨y, ⟨y1, y2⟩, rfl, s6, g6⟩
            go_wp2_with fail
            have HC7 := Lib.hid (HC6.out.step s6 g6)
            clear s6 g6 HC6 hHeld
            refine hK.out _ _ (HS.out _ _ HC7.out) (fun hHeld => ?_)
            clear hK K
            try simp only [Act.put, List.setIfInBounds_toArray, List.set_cons_zero, List.set_cons_succ]
            refine tk 5 (oi := ⟨some 73, _, _, _, _, none⟩) rfl ?_
            try go_frame
            refine tk 6 (oi := ⟨some 74, _, _, _, _, none⟩) rfl ?_
            try go_frame
            refine wpAnyH_ready (rs := [7]) (by kernel_rfl) (by simp) ?_
            refine AllReadyH.cons (o := ⟨none, _, _, _, _, none⟩) rfl (fun K hK => ?_) AllReadyH.nil
            obtain ⟨⟨u4, c4⟩, f4⟩ := HC7.out.facts hlt 2 (by omega)
            obtain ⟨M9, hC8⟩ := HC7.out.put2 hlt y
            have HC8 := Lib.hid hC8
            clear hC8
            go_simp
            refine hK.out _ _ (HS.out _ _ HC8.out) (fun hHeld2 => ?_)
            clear hK K hHeld hHeld2 c4 f4 HC7
            try simp only [Act.put, List.setIfInBounds_toArray, List.set_cons_zero, List.set_cons_succ]
            refine wpAnyH_done (by kernel_rfl) ?_ _
            have H10 : Hid (∃ M, Sa W1 b w2 m R (.slice Ar R.length cr) bn (some ⟨g, 0, none⟩) n cap M gc (w6.setCell ⟨g, i * 5 + 2, none⟩ (.int .i64 y))) := Lib.hid ⟨_, HC8.out⟩
            clear HC8
            generalize w6.setCell ⟨g, i * 5 + 2, none⟩ (.int .i64 y) = w7 at *
            go_wp2_with fail
            go_roundw
            case rel => exact ⟨i + 1, by omega, by go_num, H10⟩
            case measure => simp [intOf]; omega
          · have kx : (x == 0) = false := beq_eq_false_iff_ne.2 hx0
            have H10 : Hid (∃ M, Sa W1 b w2 m R (.slice Ar R.length cr) bn (some ⟨g, 0, none⟩) n cap M gc w8) := Lib.hid ⟨_, HC9.out⟩
            clear HC9 hx0
            go_wp2_with fail
            go_roundw
            case rel => exact ⟨i + 1, by omega, by go_num, H10⟩
            case measure => simp [intOf]; omega
        · obtain rfl : i = n := by omega
          have k1 : ¬ (i : Int) < (i : Int) := by omega
          obtain ⟨M, hM⟩ := H6.out
          have HA0 := Lib.hid hM
          clear hM H6
          have HX := Lib.hid (show ∀ Z, Below W1.heap.size W1 Z → (Z.cell? ⟨gp, 0, none⟩ = some (.int .i64 k) ∧ Z.cell? ⟨gp, 1, none⟩ = some (.string nm) ∧ Z.cell? ⟨gp, 2, none⟩ = some (.int .i64 t) ∧ Z.cell? ⟨gp, 3, none⟩ = some (.int .i64 F) ∧ Z.cell? ⟨gp, 4, none⟩ = some (.int .i64 A) ∧ Z.cell? ⟨gp, 5, none⟩ = some (.int .i64 B) ∧ Z.cell? ⟨gp, 6, none⟩ = some (.int .i64 C) ∧ Z.cell? ⟨gp, 7, none⟩ = some (.slice U L.length cu)) from fun Z hz => row8 (HI1.out.under hz).rp)
          go_upto_region 14 with fail
          have HA1 := Lib.hid (HA0.out.under (show Below wr.heap.size wr wr.drew from ⟨rfl, rfl, rfl, Nat.le_refl _, fun _ _ => rfl⟩))
          refine wp_region_held_drew (S := fun Z : World => Z.cell? ⟨gp, 0, none⟩ = some (.int .i64 k) ∧ Z.cell? ⟨gp, 1, none⟩ = some (.string nm) ∧ Z.cell? ⟨gp, 2, none⟩ = some (.int .i64 t) ∧ Z.cell? ⟨gp, 3, none⟩ = some (.int .i64 F) ∧ Z.cell? ⟨gp, 4, none⟩ = some (.int .i64 A) ∧ Z.cell? ⟨gp, 5, none⟩ = some (.int .i64 B) ∧ Z.cell? ⟨gp, 6, none⟩ = some (.int .i64 C) ∧ Z.cell? ⟨gp, 7, none⟩ = some (.slice U L.length cu)) (by kernel_rfl) (HX.out _ HA1.out.pl.src.below) (fun hHeld => ?_)
          clear HA0
          generalize wr.drew = X at *
          refine tk 0 (oi := ⟨some 76, _, _, _, _, none⟩) rfl ?_
          try go_frame
          refine tk 1 (oi := ⟨some 77, _, _, _, _, none⟩) rfl ?_
          try go_frame
          refine tk 2 (oi := ⟨some 78, _, _, _, _, none⟩) rfl ?_
          try go_frame
          refine tk 4 (oi := ⟨some 80, _, _, _, _, none⟩) rfl ?_
          try go_frame
          refine tk 5 (oi := ⟨some 81, _, _, _, _, none⟩) rfl ?_
          try go_frame
          refine tk 6 (oi := ⟨some 82, _, _, _, _, none⟩) rfl ?_
          try go_frame
          refine tk 10 (oi := ⟨some 86, _, _, _, _, none⟩) rfl ?_
          try go_frame
          refine wpAnyH_ready (rs := [3]) (by kernel_rfl) (by simp) ?_
          refine AllReadyH.cons (o := ⟨some 79, _, _, _, _, none⟩) rfl (fun K hK => ?_) AllReadyH.nil
          go_simp
          refine (report_any W1 b _ m HA1.out.pl.src m1 m2).mono ?_
          rintro e x1 ⟨k2, nm2, t2, F2, A2, B2, C2, u2, L2, hv2, -, rfl, hgl2⟩
          have hbX := src_lt HA1.out.pl.src
          have HA2 := Lib.hid (HA1.out.step hgl2.src hgl2.gro)
          have HO2 : Hid (Ow b [⟨k2, nm2, t2, F2, A2, B2, C2, u2, L2⟩] x1) := Lib.hid (fun r hr => by rw [List.mem_singleton.1 hr]; exact ⟨_, hbX, hgl2.own⟩)
          obtain ⟨U2, c2, rfl⟩ := row_form hgl2.own
          clear hgl2 hv2 HA1 hbX
          go_wp2_with fail
          refine hK.out _ _ (HX.out _ HA2.out.pl.src.below) (fun hHeld => ?_)
          clear hK K
          try simp only [Act.put, List.setIfInBounds_toArray, List.set_cons_zero, List.set_cons_succ]
          refine wpAnyH_ready (rs := [7]) (by kernel_rfl) (by simp) ?_
          refine AllReadyH.cons (o := ⟨some 83, _, _, _, _, none⟩) rfl (fun K hK => ?_) AllReadyH.nil
          go_simp
          refine (report_any W1 b _ m HA2.out.pl.src m1 m2).mono ?_
          rintro e x2 ⟨k3, nm3, t3, F3, A3, B3, C3, u3, L3, hv3, -, rfl, hgl3⟩
          have HA3 := Lib.hid (HA2.out.step hgl3.src hgl3.gro)
          have HO3 := Lib.hid (HO2.out.step hgl3.gro)
          have HR3 := Lib.hid (El.RdIn.own hgl3.own)
          obtain ⟨U3, c3, rfl⟩ := row_form hgl3.own
          have HV3 : Hid (nm3.size ≤ 40 ∧ L3.length ≤ 11 ∧ 0 ≤ C3 ∧ C3 ≤ 1000000) := Lib.hid ⟨Vd.short hv3, vld_le11 hv3.list, Vd.cbd6 hv3⟩
          clear hgl3 hv3 HA2 HO2
          go_wp2_with fail
          refine hK.out _ _ (HX.out _ HA3.out.pl.src.below) (fun hHeld => ?_)
          clear hK K
          try simp only [Act.put, List.setIfInBounds_toArray, List.set_cons_zero, List.set_cons_succ]
          refine wpAnyH_ready (rs := [8]) (by kernel_rfl) (by simp) ?_
          refine AllReadyH.cons (o := ⟨some 84, _, _, _, _, none⟩) rfl (fun K hK => ?_) AllReadyH.nil
          go_simp
          refine (bent_any W1 b _ k3 nm3 t3 F3 A3 B3 C3 (.slice U3 L3.length c3) L3 HA3.out.pl.src HR3.out HV3.out.2.1 HV3.out.1 HV3.out.2.2).mono ?_
          rintro e x3 ⟨k4, nm4, t4, F4, A4, B4, C4, u4, L4, -, -, rfl, hgl4⟩
          have hbX := src_lt HA3.out.pl.src
          have HA4 := Lib.hid (HA3.out.step hgl4.src hgl4.gro)
          obtain ⟨U4, c4, rfl⟩ := row_form hgl4.own
          have HO4 : Hid (Ow b [⟨k2, nm2, t2, F2, A2, B2, C2, .slice U2 L2.length c2, L2⟩, ⟨k4, nm4, t4, F4, A4, B4, C4, .slice U4 L4.length c4, L4⟩] x3) := Lib.hid (fun r hr => by
            rcases List.mem_cons.1 hr with rfl | hr
            · exact HO3.out.step hgl4.gro _ (List.mem_singleton.2 rfl)
            · rw [List.mem_singleton.1 hr]; exact ⟨_, hbX, hgl4.own⟩)
          clear hgl4 HA3 HO3 HR3 HV3 hbX
          go_wp2_with fail
          refine hK.out _ _ (HX.out _ HA4.out.pl.src.below) (fun hHeld => ?_)
          clear hK K
          try simp only [Act.put, List.setIfInBounds_toArray, List.set_cons_zero, List.set_cons_succ]
          refine wpAnyH_ready (rs := [9]) (by kernel_rfl) (by simp) ?_
          refine AllReadyH.cons (o := ⟨some 85, _, _, _, _, none⟩) rfl (fun K hK => ?_) AllReadyH.nil
          go_simp
          have b5 := (Below.refl x3.heap.size x3).alloc (Nat.le_refl _) (.cells (#[.int .i64 k, .string nm, .int .i64 t, .int .i64 F, .int .i64 A, .int .i64 B, .int .i64 C, .slice U L.length cu, .int .i64 k2, .string nm2, .int .i64 t2, .int .i64 F2, .int .i64 A2, .int .i64 B2, .int .i64 C2, .slice U2 L2.length c2, .int .i64 k4, .string nm4, .int .i64 t4, .int .i64 F4, .int .i64 A4, .int .i64 B4, .int .i64 C4, .slice U4 L4.length c4] : Array Value) 38)
          have B5 := Lib.hid b5
          have HBx3 := Lib.hid (src_lt HA4.out.pl.src)
          have J5 := Lib.hid (own_three x3 (⟨k, nm, t, F, A, B, C, .slice U L.length cu, L⟩ : Rp) (⟨k2, nm2, t2, F2, A2, B2, C2, .slice U2 L2.length c2, L2⟩ : Rp) (⟨k4, nm4, t4, F4, A4, B4, C4, .slice U4 L4.length c4, L4⟩ : Rp) (#[.int .i64 k, .string nm, .int .i64 t, .int .i64 F, .int .i64 A, .int .i64 B, .int .i64 C, .slice U L.length cu, .int .i64 k2, .string nm2, .int .i64 t2, .int .i64 F2, .int .i64 A2, .int .i64 B2, .int .i64 C2, .slice U2 L2.length c2, .int .i64 k4, .string nm4, .int .i64 t4, .int .i64 F4, .int .i64 A4, .int .i64 B4, .int .i64 C4, .slice U4 L4.length c4] : Array Value) rfl)
          have HA5 := Lib.hid (HA4.out.under b5)
          refine hK.out _ _ (HX.out _ HA5.out.pl.src.below) (fun hHeld => ?_)
          clear hK K b5
          try simp only [Act.put, List.setIfInBounds_toArray, List.set_cons_zero, List.set_cons_succ]
          have HNw := Lib.hid (own_news8 HA5.out.pl.own rfl)
          have HOn := Lib.hid (rps_one HA5.out.pl.ins)
          refine wpAnyH_ready (rs := [11]) (by kernel_rfl) (by simp) ?_
          refine AllReadyH.cons (o := ⟨some 87, _, _, _, _, none⟩) rfl (fun K hK => ?_) AllReadyH.nil
          refine step_append_opt rfl (.tmp 85) (.tmp 86) 25 rfl x3.heap.size 38 i0 (repV 0 ⟨#[]⟩ 0 0 0 0 0 (.slice none 0 0)) 8 88 Tryd.underlying25 hi0 hz0 hz1 hz2 rfl (by decide) (.slice (some ⟨x3.heap.size, 0, none⟩) 3 3) 3 (rpc [(⟨k, nm, t, F, A, B, C, .slice U L.length cu, L⟩ : Rp), (⟨k2, nm2, t2, F2, A2, B2, C2, .slice U2 L2.length c2, L2⟩ : Rp), (⟨k4, nm4, t4, F4, A4, B4, C4, .slice U4 L4.length c4, L4⟩ : Rp)]) rfl J5.out Ar R.length cr (rpc R) rfl (rpc_len R) HNw.out.1 HNw.out.2 HOn.out (by unfold maxLen; omega) (by omega) B5.out.size ?_
          intro v6 x6 p6 q6
          have B6 := Lib.hid (El.below_own B5.out B5.out.size J5.out q6)
          have p7 : x6.ownsRow x3.heap.size 38 8 v6 ((⟨k, nm, t, F, A, B, C, .slice U L.length cu, L⟩ : Rp) :: (⟨k2, nm2, t2, F2, A2, B2, C2, .slice U2 L2.length c2, L2⟩ : Rp) :: (⟨k4, nm4, t4, F4, A4, B4, C4, .slice U4 L4.length c4, L4⟩ : Rp) :: R).length (rpc ((⟨k, nm, t, F, A, B, C, .slice U L.length cu, L⟩ : Rp) :: (⟨k2, nm2, t2, F2, A2, B2, C2, .slice U2 L2.length c2, L2⟩ : Rp) :: (⟨k4, nm4, t4, F4, A4, B4, C4, .slice U4 L4.length c4, L4⟩ : Rp) :: R)) := by
            have h := p6
            rw [← rpc_app2] at h
            rw [show ((⟨k, nm, t, F, A, B, C, .slice U L.length cu, L⟩ : Rp) :: (⟨k2, nm2, t2, F2, A2, B2, C2, .slice U2 L2.length c2, L2⟩ : Rp) :: (⟨k4, nm4, t4, F4, A4, B4, C4, .slice U4 L4.length c4, L4⟩ : Rp) :: R).length = 3 + R.length by simp only [List.length_cons]; omega]
            exact h
          have HA6 := Lib.hid (HA4.out.under B6.out)
          have HO6 := Lib.hid (HO4.out.step (grown_below B6.out))
          have HIx := Lib.hid ((HI1.out.under HA6.out.pl.src.below).rd)
          have HQ : Hid (RpsIn x6 v6 ((⟨k, nm, t, F, A, B, C, .slice U L.length cu, L⟩ : Rp) :: (⟨k2, nm2, t2, F2, A2, B2, C2, .slice U2 L2.length c2, L2⟩ : Rp) :: (⟨k4, nm4, t4, F4, A4, B4, C4, .slice U4 L4.length c4, L4⟩ : Rp) :: R)) := Lib.hid (RpsIn.own p7 (fun r hr => by
            rcases List.mem_cons.1 hr with rfl | hr
            · exact HIx.out
            · rcases List.mem_cons.1 hr with rfl | hr
              · exact HO6.out.rd _ (by simp)
              · rcases List.mem_cons.1 hr with rfl | hr
                · exact HO6.out.rd _ (by simp)
                · obtain ⟨base, -, ho⟩ := HA6.out.pl.rds r hr; exact El.RdIn.own ho))
          have hbl : b < x3.heap.size := HBx3.out
          have HRq : Hid (∀ r ∈ ((⟨k, nm, t, F, A, B, C, .slice U L.length cu, L⟩ : Rp) :: (⟨k2, nm2, t2, F2, A2, B2, C2, .slice U2 L2.length c2, L2⟩ : Rp) :: (⟨k4, nm4, t4, F4, A4, B4, C4, .slice U4 L4.length c4, L4⟩ : Rp) :: R), El.RdIn W1 r.u r.L ∨ ∃ base, b < base ∧ x6.ownsRow base 81 2 r.u r.L.length (El.rdc r.L)) := Lib.hid (fun r hr => by
            rcases List.mem_cons.1 hr with rfl | hr
            · exact .inl HI1.out.rd
            · rcases List.mem_cons.1 hr with rfl | hr
              · exact .inr (HO6.out _ (by simp))
              · rcases List.mem_cons.1 hr with rfl | hr
                · exact .inr (HO6.out _ (by simp))
                · exact .inr (HA6.out.pl.rds r hr))
          have hQl : ((⟨k, nm, t, F, A, B, C, .slice U L.length cu, L⟩ : Rp) :: (⟨k2, nm2, t2, F2, A2, B2, C2, .slice U2 L2.length c2, L2⟩ : Rp) :: (⟨k4, nm4, t4, F4, A4, B4, C4, .slice U4 L4.length c4, L4⟩ : Rp) :: R).length ≤ 9 := by simp only [List.length_cons]; omega
          refine hK.out _ _ (HX.out _ HA6.out.pl.src.below) (fun hHeld => ?_)
          generalize ((⟨k, nm, t, F, A, B, C, .slice U L.length cu, L⟩ : Rp) :: (⟨k2, nm2, t2, F2, A2, B2, C2, .slice U2 L2.length c2, L2⟩ : Rp) :: (⟨k4, nm4, t4, F4, A4, B4, C4, .slice U4 L4.length c4, L4⟩ : Rp) :: R) = Q at *
          obtain ⟨Aq, cq, hvq, -⟩ := id HQ.out
          have hvq' : v6 = .slice Aq Q.length cq := hvq
          subst hvq'
          clear hK K p6 q6 hvq HIx HO4 HA4 HA5 B5 B6 J5 HNw HOn
          try simp only [Act.put, List.setIfInBounds_toArray, List.set_cons_zero, List.set_cons_succ]
          refine tk 12 (oi := ⟨some 15, _, _, _, _, none⟩) rfl ?_
          try go_frame
          refine wpAnyH_done (by kernel_rfl) ?_ _
          clear hHeld
          have q8 := ((HI1.out.under HA6.out.pl.src.below).cl.cell 0).trans rfl
          have q9 := (HA6.out.box.cell 0).trans rfl
          have HS0 : Hid (Sq W1 b w2 m R (.slice Ar R.length cr) bn A1 i cap M gc x3.heap.size Aq cq Q x6.heap.size #[.slice V N0.length cap0, .slice A1 i cap] (x6.alloc (.cells #[.slice V N0.length cap0, .slice A1 i cap] 24))) := Lib.hid (by
            have b15 := (Below.refl x6.heap.size x6).alloc (Nat.le_refl _) (.cells #[.slice V N0.length cap0, .slice A1 i cap] 24)
            have hlt := src_lt HA6.out.pl.src
            refine ⟨HA6.out.under b15, El.own_under p7 b15, hbl, fun r hr => ?_, Row.new _ _ _, hlt⟩
            rcases HRq.out r hr with h1 | ⟨base, hb, ho⟩
            · exact .inl h1
            · exact .inr ⟨base, hb, El.own_under ho b15⟩)
          clear HRq HA6 HO6 HQ p7
          go_upto_region 16 with fail
          refine forget (fun Y => Hid (Sq W1 b w2 m R (.slice Ar R.length cr) bn A1 i cap M gc x3.heap.size Aq cq Q x6.heap.size #[.slice V N0.length cap0, .slice A1 i cap] Y)) HS0 ?_
          clear HS0 q8 q9 hbl
          generalize x6.heap.size = gr at *
          generalize x3.heap.size = bl at *
          rintro Y0 HS0
          go_loopw [92] (fun t' wr => ∃ a : Nat, a ≤ 2 ∧ t' = .int .i64 (a : Int) ∧ Hid (Sq W1 b w2 m R (.slice Ar R.length cr) bn A1 i cap M gc bl Aq cq Q gr #[.slice V N0.length cap0, .slice A1 i cap] wr)) (fun t' _ => 2 - (intOf t').toNat)
          case atStart => exact ⟨0, Nat.zero_le _, rfl, HS0⟩
          case round =>
            clear HS0
            obtain ⟨a, ha, rfl, HS1⟩ := hrel
            by_cases hlt2 : a < 2
            · have a0 : (0 : Int) ≤ (a : Int) := by omega
              have a1 : (a : Int) < 2 := by omega
              have hD : ∃ (ud : Value) (Nd : List Cm.N5), wr.cell? ⟨gr, a, none⟩ = some ud ∧ Hid (∀ Y, Sq W1 b w2 m R (.slice Ar R.length cr) bn A1 i cap M gc bl Aq cq Q gr #[.slice V N0.length cap0, .slice A1 i cap] Y → NrIn Y ud Nd) := by
                rcases (by omega : a = 0 ∨ a = 1) with rfl | rfl
                · exact ⟨_, N0, (HS1.out.row.cell 0).trans rfl, Lib.hid (fun Y h => (HI1.out.under h.sa.pl.src.below).nr)⟩
                · exact ⟨_, M, (HS1.out.row.cell 1).trans rfl, Lib.hid (fun Y h => h.sa.nr)⟩
              obtain ⟨ud, Nd, d0, HDn⟩ := hD
              obtain ⟨Ad, cd, hud, -⟩ := id (HDn.out _ HS1.out)
              have hud' : ud = .slice Ad Nd.length cd := hud
              subst hud'
              clear hud
              have hbw := src_lt HS1.out.sa.pl.src
              have b1 := (Below.refl wr.heap.size wr).alloc (Nat.le_refl _) (.cells #[.slice Ad Nd.length cd] 24)
              have H2 : Hid (St W1 b w2 m R (.slice Ar R.length cr) bn A1 i cap M gc bl Aq cq Q gr #[.slice V N0.length cap0, .slice A1 i cap] wr.heap.size (.slice Ad Nd.length cd) (wr.alloc (.cells #[.slice Ad Nd.length cd] 24))) := Lib.hid ⟨HS1.out.under b1, Row.new _ _ _, hbw⟩
              clear b1 HS1 hbw
              go_upto_region 18 with fail
              refine forget (fun Y => Hid (St W1 b w2 m R (.slice Ar R.length cr) bn A1 i cap M gc bl Aq cq Q gr #[.slice V N0.length cap0, .slice A1 i cap] wr.heap.size (.slice Ad Nd.length cd) Y)) H2 ?_
              clear H2 d0
              generalize wr.heap.size = gd at *
              rintro Y2 H2
              go_wp2_with fail
              go_loopw [98] (fun t' wr => ∃ c : Nat, c ≤ Q.length ∧ t' = .int .i64 (c : Int) ∧ Hid (St W1 b w2 m R (.slice Ar R.length cr) bn A1 i cap M gc bl Aq cq Q gr #[.slice V N0.length cap0, .slice A1 i cap] gd (.slice Ad Nd.length cd) wr)) (fun t' _ => Q.length - (intOf t').toNat)
              case atStart => exact ⟨0, Nat.zero_le _, rfl, H2⟩
              case round =>
                clear H2
                obtain ⟨c, hc, rfl, H3⟩ := hrel
                by_cases hlt3 : c < Q.length
                · have k5 : (0 : Int) ≤ (c : Int) := by omega
                  have k6 : (c : Int) < (Q.length : Int) := by omega
                  obtain ⟨Aq', cq', e, -, -, hat⟩ := H3.out.sq.rps
                  injection e with e1 e2 e3
                  subst e1
                  obtain ⟨g, off, hAq, hgl, ⟨c0, c1, c2, c3, c4, c5, c6, c7⟩, hrd⟩ := hat c hlt3
                  subst hAq
                  have HRd := Lib.hid (fun Y (h : Sq W1 b w2 m R (.slice Ar R.length cr) bn A1 i cap M gc bl (some ⟨g, off, none⟩) cq Q gr #[.slice V N0.length cap0, .slice A1 i cap] Y) => h.rdOf (List.getElem_mem hlt3))
                  clear hat e3
                  generalize Q[c] = r at *
                  obtain ⟨rk, rn, rt, rF, rA, rB, rC, ru, rL⟩ := r
                  simp only at c0 c1 c2 c3 c4 c5 c6 c7 hrd HRd
                  obtain ⟨Ux, cx, eu, -⟩ := id hrd
                  have eu' : ru = .slice Ux rL.length cx := eu
                  subst eu'
                  clear hrd eu
                  have hbw := src_lt H3.out.sq.sa.pl.src
                  have b1 := (Below.refl wr.heap.size wr).alloc (Nat.le_refl _) (.cells (repC rk rn rt rF rA rB rC (.slice Ux rL.length cx)) 38)
                  have H4 : Hid (Su W1 b w2 m R (.slice Ar R.length cr) bn A1 i cap M gc bl (some ⟨g, off, none⟩) cq Q gr #[.slice V N0.length cap0, .slice A1 i cap] gd (.slice Ad Nd.length cd) wr.heap.size (repC rk rn rt rF rA rB rC (.slice Ux rL.length cx)) (wr.alloc (.cells (repC rk rn rt rF rA rB rC (.slice Ux rL.length cx)) 38))) := Lib.hid ⟨H3.out.under b1, Row.new _ _ _, hbw⟩
                  clear b1 H3 hbw
                  go_upto_region 21 with fail
                  refine forget (fun Y => Hid (Su W1 b w2 m R (.slice Ar R.length cr) bn A1 i cap M gc bl (some ⟨g, off, none⟩) cq Q gr #[.slice V N0.length cap0, .slice A1 i cap] gd (.slice Ad Nd.length cd) wr.heap.size (repC rk rn rt rF rA rB rC (.slice Ux rL.length cx)) Y)) H4 ?_
                  clear H4 c0 c1 c2 c3 c4 c5 c6 c7
                  generalize wr.heap.size = ge at *
                  rintro Y4 H4
                  obtain ⟨q0, q1, q2, q3, q4, q5, q6, q7⟩ := row8 H4.out.be
                  have q8 := (H4.out.st.bd.cell 0).trans rfl
                  have HC1 := Lib.hid (fun Y (h : Sq W1 b w2 m R (.slice Ar R.length cr) bn A1 i cap M gc bl (some ⟨g, off, none⟩) cq Q gr #[.slice V N0.length cap0, .slice A1 i cap] Y) => checkS_any _ Nd rk rn rt rF rA rB rC _ rL Y (HDn.out _ h) (HRd.out _ h) (HI1.out.under h.sa.pl.src.below).env)
                  have HC2 := Lib.hid (fun Y (h : Sq W1 b w2 m R (.slice Ar R.length cr) bn A1 i cap M gc bl (some ⟨g, off, none⟩) cq Q gr #[.slice V N0.length cap0, .slice A1 i cap] Y) => refCheck_any _ Nd rk rn rt rF rA rB rC _ rL Y (HDn.out _ h) (HRd.out _ h) (HI1.out.under h.sa.pl.src.below).env)
                  have HF1 := Lib.hid (fun Y c' (h : Sq W1 b w2 m R (.slice Ar R.length cr) bn A1 i cap M gc bl (some ⟨g, off, none⟩) cq Q gr #[.slice V N0.length cap0, .slice A1 i cap] Y) => farS_any _ Nd rk rn rt rF rA rB rC _ rL c' Y (HDn.out _ h) (HRd.out _ h) (HI1.out.under h.sa.pl.src.below).env)
                  have HF2 := Lib.hid (fun Y c' (h : Sq W1 b w2 m R (.slice Ar R.length cr) bn A1 i cap M gc bl (some ⟨g, off, none⟩) cq Q gr #[.slice V N0.length cap0, .slice A1 i cap] Y) => refFar_any _ Nd rk rn rt rF rA rB rC _ rL c' Y (HDn.out _ h) (HRd.out _ h) (HI1.out.under h.sa.pl.src.below).env)
                  generalize valS Nd rL (fam rF rA rB rC rt) = zz at *
                  generalize chkJ Nd rL (fam rF rA rB rC rt) = J at *
                  obtain ⟨fr, hfr⟩ : ∃ fr : Int → Int × Bool, ∀ c', farR Nd rL c' (fam rF rA rB rC rt) = fr c' := ⟨_, fun _ => rfl⟩
                  simp only [hfr] at HF1 HF2
                  clear hfr HDn HRd
                  go_wp2_with fail
                  refine (HC1.out _ H4.out.st.sq).mono ?_
                  rintro e y5 ⟨o1, rfl, g5, ho1⟩
                  obtain ⟨O1, f1, rfl⟩ := row_form ho1
                  have H5 := Lib.hid (And.intro (H4.out.under g5) (NmIn.own ho1))
                  clear g5 ho1 H4 HC1 q0 q1 q2 q3 q4 q5 q6 q7 q8
                  obtain ⟨q0, q1, q2, q3, q4, q5, q6, q7⟩ := row8 H5.out.1.be
                  have q8 := (H5.out.1.st.bd.cell 0).trans rfl
                  go_wp2_with fail
                  refine (HC2.out _ H5.out.1.st.sq).mono ?_
                  rintro e y6 ⟨o2, rfl, g6, ho2⟩
                  obtain ⟨O2, f2, rfl⟩ := row_form ho2
                  have H6 := Lib.hid (And.intro (H5.out.1.under g6) (And.intro (El.NmIn.under H5.out.2 g6) (NmIn.own ho2)))
                  clear g6 ho2 H5 HC2 q0 q1 q2 q3 q4 q5 q6 q7 q8
                  have HEq := Lib.hid (ints_any _ _ J J y6 H6.out.2.1 H6.out.2.2)
                  go_wp2_with fail
                  refine HEq.out.mono ?_
                  rintro e y7 ⟨he, g7⟩
                  obtain rfl : e = .returned (.bool true) := he.trans (by simp)
                  have H7 := Lib.hid (H6.out.1.under g7)
                  clear g7 H6 HEq
                  go_wp2_with fail
                  refine (range_any W1 b _ 1 11 H7.out.st.sq.sa.pl.src (by omega) (by omega) (by omega) (by omega)).mono ?_
                  rintro e y8 ⟨y, ⟨z1, z2⟩, rfl, s8, g8⟩
                  have H8 := Lib.hid (H7.out.step s8 g8)
                  clear s8 g8 H7
                  have b9 := (Below.refl y8.heap.size y8).alloc (Nat.le_refl _) (.cells #[.int .i64 code, .int .i64 y] 3)
                  have H9 : Hid (Su W1 b w2 m R (.slice Ar R.length cr) bn A1 i cap M gc bl (some ⟨g, off, none⟩) cq Q gr #[.slice V N0.length cap0, .slice A1 i cap] gd (.slice Ad Nd.length cd) ge (repC rk rn rt rF rA rB rC (.slice Ux rL.length cx)) (y8.alloc (.cells #[.int .i64 code, .int .i64 y] 3)) ∧ Row (y8.alloc (.cells #[.int .i64 code, .int .i64 y] 3)) y8.heap.size 3 #[.int .i64 code, .int .i64 y]) := Lib.hid ⟨H8.out.under b9, Row.new _ _ _⟩
                  clear b9 H8
                  go_upto_region 26 with fail
                  refine forget (fun Y => Hid (Su W1 b w2 m R (.slice Ar R.length cr) bn A1 i cap M gc bl (some ⟨g, off, none⟩) cq Q gr #[.slice V N0.length cap0, .slice A1 i cap] gd (.slice Ad Nd.length cd) ge (repC rk rn rt rF rA rB rC (.slice Ux rL.length cx)) Y ∧ Row Y y8.heap.size 3 #[.int .i64 code, .int .i64 y])) H9 ?_
                  clear H9
                  generalize y8.heap.size = gk at *
                  rintro Y9 H9
                  go_loopw [128] (fun t' wr => ∃ d : Nat, d ≤ 2 ∧ t' = .int .i64 (d : Int) ∧ Hid (Su W1 b w2 m R (.slice Ar R.length cr) bn A1 i cap M gc bl (some ⟨g, off, none⟩) cq Q gr #[.slice V N0.length cap0, .slice A1 i cap] gd (.slice Ad Nd.length cd) ge (repC rk rn rt rF rA rB rC (.slice Ux rL.length cx)) wr ∧ Row wr gk 3 #[.int .i64 code, .int .i64 y])) (fun t' _ => 2 - (intOf t').toNat)
                  case atStart => exact ⟨0, Nat.zero_le _, rfl, H9⟩
                  case round =>
                    clear H9
                    obtain ⟨d, hd, rfl, HA⟩ := hrel
                    by_cases hlt4 : d < 2
                    · have k7 : (0 : Int) ≤ (d : Int) := by omega
                      have k8 : (d : Int) < 2 := by omega
                      have hcc : ∃ c' : Int, wr.cell? ⟨gk, d, none⟩ = some (.int .i64 c') := by
                        rcases (by omega : d = 0 ∨ d = 1) with rfl | rfl
                        · exact ⟨_, (HA.out.2.cell 0).trans rfl⟩
                        · exact ⟨_, (HA.out.2.cell 1).trans rfl⟩
                      obtain ⟨c', cc⟩ := hcc
                      obtain ⟨q0, q1, q2, q3, q4, q5, q6, q7⟩ := row8 HA.out.1.be
                      have q8 := (HA.out.1.st.bd.cell 0).trans rfl
                      have HG1 := Lib.hid (HF1.out wr c' HA.out.1.st.sq)
                      have HG2 := Lib.hid (fun Y h => HF2.out Y c' h)
                      generalize fr c' = fc at *
                      obtain ⟨fx, fb⟩ := fc
                      go_wp2_with fail
                      refine HG1.out.mono ?_
                      rintro e yA ⟨rfl, gA⟩
                      have HB1 := Lib.hid (And.intro (HA.out.1.under gA) (HA.out.2.under gA))
                      clear gA HA HG1 q0 q1 q2 q3 q4 q5 q6 q7 q8 cc
                      obtain ⟨q0, q1, q2, q3, q4, q5, q6, q7⟩ := row8 HB1.out.1.be
                      have q8 := (HB1.out.1.st.bd.cell 0).trans rfl
                      go_wp2_with fail
                      refine (HG2.out _ HB1.out.1.st.sq).mono ?_
                      rintro e yB ⟨rfl, gB⟩
                      have HB3 := Lib.hid (And.intro (HB1.out.1.under gB) (HB1.out.2.under gB))
                      clear gB HB1 HG2 q0 q1 q2 q3 q4 q5 q6 q7 q8
                      go_wp2_with fail
                      go_roundw
                      case rel => exact ⟨d + 1, by omega, by go_num, HB3⟩
                      case measure => simp [intOf]; omega
                    · obtain rfl : d = 2 := by omega
                      have k8 : ¬ ((2 : Nat) : Int) < 2 := by omega
                      have HB3 := Lib.hid HA.out.1.st
                      clear HA
                      go_wp2_with fail
                      go_roundw
                      case rel => exact ⟨c + 1, by omega, by go_num, HB3⟩
                      case measure => simp [intOf]; omega
                · obtain rfl : c = Q.length := by omega
                  have k6 : ¬ (Q.length : Int) < (Q.length : Int) := by omega
                  have H4 := Lib.hid H3.out.sq
                  clear H3
                  go_wp2_with fail
                  go_roundw
                  case rel => exact ⟨a + 1, by omega, by go_num, H4⟩
                  case measure => simp [intOf]; omega
            · obtain rfl : a = 2 := by omega
              have a1 : ¬ ((2 : Nat) : Int) < 2 := by omega
              have HW := Lib.hid (HI1.out.under HS1.out.sa.pl.src.below)
              clear HS1
              go_wp2_with fail
              refine (awake15 wr HW.out.env).mono ?_
              rintro e w12 ⟨rfl, g12⟩
              have HB2 := Lib.hid (HW.out.below.trans (g12.mono HW.out.below.size))
              clear g12 HW
              go_wp2_with fail
              go_ret
              exact ⟨rfl, HGB.out ▸ HB2.out⟩
end Go.Proofs.YtlakgkoohdfiaaaDoor
