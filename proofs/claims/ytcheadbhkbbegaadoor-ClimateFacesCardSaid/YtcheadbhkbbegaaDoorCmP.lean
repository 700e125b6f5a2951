/- What the statements draw: a climate: the walk. -/
import Derived.Test.YtcheadbhkbbegaaDoorQaq
namespace Go.Proofs.YtcheadbhkbbegaaDoor
open Go.RowKit

set_option maxRecDepth 100000 in
set_option maxHeartbeats 4000000 in
theorem climate_any (W : World) (b : Nat) (w : World) (m : Int) (h : Src W b w) (m1 : 0 ≤ m) (m2 : m ≤ 52595999) :
    Calls Tryd.prog 15 #[.pointer (some ⟨b, 0, none⟩), .int .i64 m] w (ClO W b w) := by
  have hbl := src_lt h
  have hW := h.below.size
  have b0 := (Below.refl w.heap.size w).alloc (Nat.le_refl _) (.cells #[.slice none 0 0] 24)
  have I0 : Hid (Src W b (w.alloc (.cells #[.slice none 0 0] 24)) ∧ Below w.heap.size w (w.alloc (.cells #[.slice none 0 0] 24)) ∧ Row (w.alloc (.cells #[.slice none 0 0] 24)) w.heap.size 24 #[.slice none 0 0]) := Lib.hid ⟨h.under b0, b0, Row.new _ _ _⟩
  clear b0 h
  go_enter Tryd.func15, Tryd.ntmps15
  go_upto_region 1 with fail
  refine forget (fun Y => Hid (Src W b Y ∧ Below w.heap.size w Y ∧ Row Y w.heap.size 24 #[.slice none 0 0])) I0 ?_
  clear I0
  obtain ⟨gr, hgr⟩ : ∃ g, w.heap.size = g := ⟨_, rfl⟩
  rw [hgr]
  have HGR : Hid (w.heap.size = gr) := Lib.hid hgr
  clear hgr
  rintro Y HY
  go_wp2_with fail
  refine (placed_any W b _ m 6 HY.out.1 (by omega) m1 m2).mono ?_
  rintro e w2 ⟨R, v, rfl, hRl, HP⟩
  have HIn := Lib.hid HP.ins
  have HVL : Hid (∀ r ∈ R, El.Elt.vld r.L = 0) := Lib.hid (fun r hr => (HP.val r hr).2.2.1)
  have H2 : Hid (Src W b w2 ∧ w.grownBy w2 (some b) ∧ Row w2 gr 24 #[.slice none 0 0]) := Lib.hid ⟨HP.src, grown_tr (grown_below (HY.out.2.1.mono (by have := HGR.out; omega))) HP.gro, HY.out.2.2.grown HP.gro (fun e => by injection e with e; have := HGR.out; omega)⟩
  clear HP HY
  go_wp2_with fail
  refine (refLearn_any v R _ HIn.out (by omega)).mono ?_
  rintro e w3 ⟨u, rfl, hb3, ho3⟩
  have HBD := Lib.hid (lrn_bd R HVL.out)
  generalize (lrn R).1 = N at *
  generalize (lrn R).2 = er at *
  obtain ⟨A, cap, rfl⟩ := row_form ho3
  have b3 := (Below.refl w3.heap.size w3).alloc (Nat.le_refl _) (.cells #[.slice A N.length cap] 24)
  have hww : w.heap.size ≤ w3.heap.size := Nat.le_trans H2.out.2.1.size hb3.size
  have C0 : Hid (Cw W b w N (.slice A N.length cap) gr w3.heap.size 0 (w3.alloc (.cells #[.slice A N.length cap] 24))) := Lib.hid ⟨(H2.out.1.under hb3).under b3, grown_tr (grown_tr H2.out.2.1 (grown_below hb3)) (grown_below b3), El.own_under (own_less ho3 H2.out.2.1.size) b3, (H2.out.2.2.under hb3).under b3, Row.new _ _ _, by have := HGR.out; omega, hww, hbl, hW, fun n hn => HBD.out.2.1 n hn, HBD.out.2.2⟩
  have hN : N.length ≤ 200 := HBD.out.1
  clear H2 hb3 ho3 b3 hww HIn HVL HBD
  go_upto_region 2 with fail
  refine forget (fun Y => Hid (Cw W b w N (.slice A N.length cap) gr w3.heap.size 0 Y)) C0 ?_
  clear C0
  generalize w3.heap.size = gc at *
  rintro Y C0
  obtain ⟨L, hL⟩ : ∃ L, N.length = L := ⟨_, rfl⟩
  have C1 : Hid (∃ N1 : List Cm.N5, N1.length = L ∧ Cw W b w N1 (.slice A L cap) gr gc 0 Y) := Lib.hid ⟨N, hL, by rw [← hL]; exact C0.out⟩
  rw [hL] at hN ⊢
  clear C0 hL N
  have q0 : Y.cell? ⟨gc, 0, none⟩ = some (.slice A L cap) := by obtain ⟨N1, -, hc⟩ := C1.out; exact (hc.box.cell 0).trans rfl
  go_wp2_with fail
  go_loopw [18] (fun t wr => ∃ i : Nat, i ≤ L ∧ t = .int .i64 (i : Int) ∧ Hid (∃ N1 : List Cm.N5, N1.length = L ∧ Cw W b w N1 (.slice A L cap) gr gc i wr)) (fun t _ => L - (intOf t).toNat)
  case atStart => exact ⟨0, Nat.zero_le _, rfl, C1⟩
  case round =>
    clear C1 q0
    obtain ⟨i, hi, rfl, C1⟩ := hrel
    by_cases hlt : i < L
    · have k0 : (0 : Int) ≤ (i : Int) := by omega
      have k1 : (i : Int) < (L : Int) := by omega
      obtain ⟨N, hNL, hC⟩ := C1.out
      have HNL := Lib.hid hNL
      obtain ⟨g, rfl⟩ := own_addr (by rw [← hNL] at hC; exact hC.own) (by omega)
      have HC := Lib.hid hC
      clear C1 hC hNL
      go_wp2_with fail
      refine (n_any W b _ _ HC.out.src (by omega) (by omega)).mono ?_
      rintro e w5 ⟨x, ⟨x1, x2⟩, rfl, s5, g5⟩
      have HC5 := Lib.hid (HC.out.step s5 g5)
      clear s5 g5 HC
      by_cases hx0 : x = 0
      · subst hx0
        clear x1 x2
        go_upto_region 7 with fail
        have HS := Lib.hid (show ∀ N' k' Z, Cw W b w N' (.slice (some ⟨g, 0, none⟩) L cap) gr gc k' Z → Z.cell? ⟨gc, 0, none⟩ = some (.slice (some ⟨g, 0, none⟩) L cap) from fun N' k' Z hz => (hz.box.cell 0).trans rfl)
        have HD := Lib.hid (show ∀ W : World, Below W.heap.size W W.drew from fun _ => ⟨rfl, rfl, rfl, Nat.le_refl _, fun _ _ => rfl⟩)
        refine wp_region_held_drew (S := fun Z : World => Z.cell? ⟨gc, 0, none⟩ = some (.slice (some ⟨g, 0, none⟩) L cap)) (by kernel_rfl) (HS.out _ _ _ (HC5.out.under (HD.out _))) (fun hHeld => ?_)
        have HC6 := Lib.hid (HC5.out.under (HD.out w5))
        clear HC5
        generalize w5.drew = X at *
        refine tk 0 (oi := ⟨some 25, _, _, _, _, none⟩) rfl ?_
        try go_frame
        refine tk 1 (oi := ⟨some 26, _, _, _, _, none⟩) rfl ?_
        try go_frame
        refine tk 2 (oi := ⟨some 27, _, _, _, _, none⟩) rfl ?_
        try go_frame
        refine tk 3 (oi := ⟨some 28, _, _, _, _, none⟩) rfl ?_
        try go_frame
        refine wpAnyH_ready (rs := [4]) (by kernel_rfl) (by simp) ?_
        refine AllReadyH.cons (o := ⟨some 29, _, _, _, _, none⟩) rfl (fun K hK => ?_) AllReadyH.nil
        go_simp
        refine (n_any W b _ _ HC6.out.src (by omega) (by omega)).mono ?_
        rintro e w6 ⟨y, ⟨y1, y2⟩, rfl, s6, g6⟩
        go_wp2_with fail
        have HC7 := Lib.hid (HC6.out.step s6 g6)
        clear s6 g6 HC6 hHeld
        refine hK.out _ _ (HS.out _ _ _ HC7.out) (fun hHeld => ?_)
        clear hK K
        try simp only [Act.put, List.setIfInBounds_toArray, List.set_cons_zero, List.set_cons_succ]
        refine tk 5 (oi := ⟨some 30, _, _, _, _, none⟩) rfl ?_
        try go_frame
        refine tk 6 (oi := ⟨some 31, _, _, _, _, none⟩) rfl ?_
        try go_frame
        refine wpAnyH_ready (rs := [7]) (by kernel_rfl) (by simp) ?_
        refine AllReadyH.cons (o := ⟨none, _, _, _, _, none⟩) rfl (fun K hK => ?_) AllReadyH.nil
        obtain ⟨⟨c3, c4⟩, fz⟩ := HC7.out.facts HNL.out (i := i) (by have := HNL.out; omega)
        have f4 := fz (i * 5 + 4)
        obtain ⟨N2, hN2, hC8⟩ := HC7.out.spread HNL.out (i := i) (by have := HNL.out; omega) y (by omega) (by omega)
        have HM : Hid (∃ N1 : List Cm.N5, N1.length = L ∧ Cw W b w N1 (.slice (some ⟨g, 0, none⟩) L cap) gr gc (i + 1) (w6.setCell ⟨g, i * 5 + 4, none⟩ (.int .i64 y))) := Lib.hid ⟨N2, hN2, hC8⟩
        have HS8 := Lib.hid (HS.out _ _ _ hC8)
        clear fz hN2 hC8 c3
        go_simp
        refine hK.out _ _ HS8.out (fun hHeld2 => ?_)
        clear hK K hHeld hHeld2 HS8 c4 f4 HC7
        try simp only [Act.put, List.setIfInBounds_toArray, List.set_cons_zero, List.set_cons_succ]
        refine wpAnyH_done (by kernel_rfl) ?_ _
        generalize w6.setCell ⟨g, i * 5 + 4, none⟩ (.int .i64 y) = w7 at *
        go_wp2_with fail
        go_roundw
        case rel => exact ⟨i + 1, by omega, by go_num, HM⟩
        case measure => simp [intOf]; omega
      · have kx : (x == 0) = false := beq_eq_false_iff_ne.2 hx0
        by_cases hx1 : x = 1
        · subst hx1
          clear x1 x2
          go_upto_region 9 with fail
          have HS := Lib.hid (show ∀ N' k' Z, Cw W b w N' (.slice (some ⟨g, 0, none⟩) L cap) gr gc k' Z → Z.cell? ⟨gc, 0, none⟩ = some (.slice (some ⟨g, 0, none⟩) L cap) from fun N' k' Z hz => (hz.box.cell 0).trans rfl)
          have HD := Lib.hid (show ∀ W : World, Below W.heap.size W W.drew from fun _ => ⟨rfl, rfl, rfl, Nat.le_refl _, fun _ _ => rfl⟩)
          have hiN : i < N.length := by have := HNL.out; omega
          obtain ⟨a, ha⟩ : ∃ a, N[i].2.2.2.1 = a := ⟨_, rfl⟩
          have hab := (HC5.out.bnd _ (List.getElem_mem hiN)).2
          rw [ha] at hab
          have HA : Hid (∀ q : i < N.length, (N[i]'q).2.2.2.1 = a) := Lib.hid (fun _ => ha)
          clear ha
          have HIN := Lib.hid hiN
          refine wp_region_held_drew (S := fun Z : World => Z.cell? ⟨gc, 0, none⟩ = some (.slice (some ⟨g, 0, none⟩) L cap)) (by kernel_rfl) (HS.out _ _ _ (HC5.out.under (HD.out _))) (fun hHeld => ?_)
          have HC6 := Lib.hid (HC5.out.under (HD.out w5))
          clear HC5 hiN
          generalize w5.drew = X at *
          refine tk 0 (oi := ⟨some 34, _, _, _, _, none⟩) rfl ?_
          try go_frame
          refine tk 1 (oi := ⟨some 35, _, _, _, _, none⟩) rfl ?_
          try go_frame
          refine tk 2 (oi := ⟨some 36, _, _, _, _, none⟩) rfl ?_
          try go_frame
          refine tk 3 (oi := ⟨some 37, _, _, _, _, none⟩) rfl ?_
          try go_frame
          refine tk 4 (oi := ⟨some 38, _, _, _, _, none⟩) rfl ?_
          try go_frame
          refine tk 6 (oi := ⟨some 40, _, _, _, _, none⟩) rfl ?_
          try go_frame
          refine wpAnyH_ready (rs := [5, 7]) (by kernel_rfl) (by simp) ?_
          refine AllReadyH.cons (o := ⟨some 39, _, _, _, _, none⟩) rfl (fun K hK => ?_) (AllReadyH.cons (o := ⟨some 41, _, _, _, _, none⟩) rfl (fun K hK => ?_) AllReadyH.nil)
          · have c3 := (HC6.out.facts HNL.out HIN.out).1.1
            rw [HA.out HIN.out] at c3
            go_simp
            refine hK.out _ _ hHeld (fun hHeld => ?_)
            clear hK K c3
            try simp only [Act.put, List.setIfInBounds_toArray, List.set_cons_zero, List.set_cons_succ]
            refine wpAnyH_ready (rs := [7]) (by kernel_rfl) (by simp) ?_
            refine AllReadyH.cons (o := ⟨some 41, _, _, _, _, none⟩) rfl (fun K hK => ?_) AllReadyH.nil
            go_simp
            refine (range_any W b _ _ _ HC6.out.src (by omega) (by omega) (by omega) (by omega)).mono ?_
            rintro e w6 ⟨y, ⟨y1, y2⟩, rfl, s6, g6⟩
            go_wp2_with fail
            have HC7 := Lib.hid (HC6.out.step s6 g6)
            clear s6 g6 HC6 hHeld
            refine hK.out _ _ (HS.out _ _ _ HC7.out) (fun hHeld => ?_)
            clear hK K
            try simp only [Act.put, List.setIfInBounds_toArray, List.set_cons_zero, List.set_cons_succ]
            have y9 : IntKind.i64.wrap (a + y) = a + y := IntWalk.i64_in _ (by omega)
            refine tk 8 (oi := ⟨some 42, _, _, _, _, none⟩) rfl ?_
            try go_frame
            refine tk 9 (oi := ⟨some 43, _, _, _, _, none⟩) rfl ?_
            try go_frame
            refine tk 10 (oi := ⟨some 44, _, _, _, _, none⟩) rfl ?_
            try go_frame
            refine wpAnyH_ready (rs := [11]) (by kernel_rfl) (by simp) ?_
            refine AllReadyH.cons (o := ⟨none, _, _, _, _, none⟩) rfl (fun K hK => ?_) AllReadyH.nil
            obtain ⟨⟨c3, c4⟩, fz⟩ := HC7.out.facts HNL.out HIN.out
            have f3 := fz (i * 5 + 3)
            obtain ⟨N2, hN2, hC8⟩ := HC7.out.mean HNL.out HIN.out y (by omega) (by omega)
            rw [HA.out HIN.out] at hC8 c3
            have HM : Hid (∃ N1 : List Cm.N5, N1.length = L ∧ Cw W b w N1 (.slice (some ⟨g, 0, none⟩) L cap) gr gc (i + 1) (w6.setCell ⟨g, i * 5 + 3, none⟩ (.int .i64 (a + y)))) := Lib.hid ⟨N2, hN2, hC8⟩
            have HS8 := Lib.hid (HS.out _ _ _ hC8)
            clear fz hN2 hC8 c4
            go_simp
            refine hK.out _ _ HS8.out (fun hHeld2 => ?_)
            clear hK K hHeld hHeld2 HS8 c3 f3 HC7
            try simp only [Act.put, List.setIfInBounds_toArray, List.set_cons_zero, List.set_cons_succ]
            refine wpAnyH_done (by kernel_rfl) ?_ _
            generalize w6.setCell ⟨g, i * 5 + 3, none⟩ (.int .i64 (a + y)) = w7 at *
            go_wp2_with fail
            go_roundw
            case rel => exact ⟨i + 1, by omega, by go_num, HM⟩
            case measure => simp [intOf]; omega
          · go_simp
            refine (range_any W b _ _ _ HC6.out.src (by omega) (by omega) (by omega) (by omega)).mono ?_
            rintro e w6 ⟨y, ⟨y1, y2⟩, rfl, s6, g6⟩
            go_wp2_with fail
            have HC7 := Lib.hid (HC6.out.step s6 g6)
            clear s6 g6 HC6 hHeld
            refine hK.out _ _ (HS.out _ _ _ HC7.out) (fun hHeld => ?_)
            clear hK K
            try simp only [Act.put, List.setIfInBounds_toArray, List.set_cons_zero, List.set_cons_succ]
            refine wpAnyH_ready (rs := [5]) (by kernel_rfl) (by simp) ?_
            refine AllReadyH.cons (o := ⟨some 39, _, _, _, _, none⟩) rfl (fun K hK => ?_) AllReadyH.nil
            have c3 := (HC7.out.facts HNL.out HIN.out).1.1
            rw [HA.out HIN.out] at c3
            go_simp
            refine hK.out _ _ hHeld (fun hHeld => ?_)
            clear hK K c3
            try simp only [Act.put, List.setIfInBounds_toArray, List.set_cons_zero, List.set_cons_succ]
            have y9 : IntKind.i64.wrap (a + y) = a + y := IntWalk.i64_in _ (by omega)
            refine tk 8 (oi := ⟨some 42, _, _, _, _, none⟩) rfl ?_
            try go_frame
            refine tk 9 (oi := ⟨some 43, _, _, _, _, none⟩) rfl ?_
            try go_frame
            refine tk 10 (oi := ⟨some 44, _, _, _, _, none⟩) rfl ?_
            try go_frame
            refine wpAnyH_ready (rs := [11]) (by kernel_rfl) (by simp) ?_
            refine AllReadyH.cons (o := ⟨none, _, _, _, _, none⟩) rfl (fun K hK => ?_) AllReadyH.nil
            obtain ⟨⟨c3, c4⟩, fz⟩ := HC7.out.facts HNL.out HIN.out
            have f3 := fz (i * 5 + 3)
            obtain ⟨N2, hN2, hC8⟩ := HC7.out.mean HNL.out HIN.out y (by omega) (by omega)
            rw [HA.out HIN.out] at hC8 c3
            have HM : Hid (∃ N1 : List Cm.N5, N1.length = L ∧ Cw W b w N1 (.slice (some ⟨g, 0, none⟩) L cap) gr gc (i + 1) (w6.setCell ⟨g, i * 5 + 3, none⟩ (.int .i64 (a + y)))) := Lib.hid ⟨N2, hN2, hC8⟩
            have HS8 := Lib.hid (HS.out _ _ _ hC8)
            clear fz hN2 hC8 c4
            go_simp
            refine hK.out _ _ HS8.out (fun hHeld2 => ?_)
            clear hK K hHeld hHeld2 HS8 c3 f3 HC7
            try simp only [Act.put, List.setIfInBounds_toArray, List.set_cons_zero, List.set_cons_succ]
            refine wpAnyH_done (by kernel_rfl) ?_ _
            generalize w6.setCell ⟨g, i * 5 + 3, none⟩ (.int .i64 (a + y)) = w7 at *
            go_wp2_with fail
            go_roundw
            case rel => exact ⟨i + 1, by omega, by go_num, HM⟩
            case measure => simp [intOf]; omega
        · have ky : (x == 1) = false := beq_eq_false_iff_ne.2 hx1
          have HM : Hid (∃ N1 : List Cm.N5, N1.length = L ∧ Cw W b w N1 (.slice (some ⟨g, 0, none⟩) L cap) gr gc (i + 1) w5) := Lib.hid ⟨N, HNL.out, HC5.out.more⟩
          clear HC5 HNL
          go_wp2_with fail
          go_roundw
          case rel => exact ⟨i + 1, by omega, by go_num, HM⟩
          case measure => simp [intOf]; omega
    · obtain rfl : i = L := by omega
      have k1 : ¬ (i : Int) < (i : Int) := by omega
      obtain ⟨N, hNL, hC⟩ := C1.out
      have HNL := Lib.hid hNL
      have HC := Lib.hid hC
      have q0 := (hC.box.cell 0).trans rfl
      have f0 := hC.res.thaw 0
      have y0 := (hC.res.cell 0).trans rfl
      have HX := Lib.hid hC.last
      have HKy := Lib.hid hC.keys
      clear C1 hC hNL HC
      go_wp2_with fail
      exact bodyPost_ret (v := .agg #[.slice A i cap]) (by have z0 := (HX.out.2.cell 0).trans rfl; simp [results, Tryd.results15, z0, go_sem]) rfl (ClO.of (by omega) HX.out.1.1 HX.out.1.2.1 HX.out.1.2.2.1 (by rw [HNL.out]; exact hN) HX.out.1.2.2.2 HKy.out)
end Go.Proofs.YtcheadbhkbbegaaDoor
