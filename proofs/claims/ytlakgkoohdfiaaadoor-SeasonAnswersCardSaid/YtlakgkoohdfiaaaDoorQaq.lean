/- Texts of this proof. -/
import Derived.Test.YtlakgkoohdfiaaaDoorQap
import Derived.Test.YtlakgkoohdfiaaaDoorQao
import Derived.Test.YtlakgkoohdfiaaaDoorCmN
namespace Go.Proofs.YtlakgkoohdfiaaaDoor
open Go.RowKit

set_option maxRecDepth 100000 in
set_option maxHeartbeats 4000000 in
theorem climate_any (W : World) (b : Nat) (w : World) (m : Int) (h : Src W b w) (m1 : 0 ≤ m) (m2 : m ≤ 52595999) :
    Calls Tryd.prog 15 #[.pointer (some ⟨b, 0, none⟩), .int .i64 m] w (ClO W b w) := by
  have hbl := src_lt h
  have hW := h.below.size
  have b0 := (Below.refl w.heap.size w).alloc (Nat.le_refl _) (.cells #[.slice none 0 0] 24)
  have I0 : Hid (Src W b (w.alloc (.cells #[.slice none 0 0] 24)) ∧ Below w.heap.size w (w.alloc (.cells #[.slice none 0 0] 24)) ∧ Row (w.alloc (.cells #[.slice none 0 0] 24)) w.heap.size 24 #[.slice none 0 0]) := Lib.hid ⟨h.under b0, b0, Row.new _ _ _⟩
  clear b0 h
  go_enter Tryd.func15, Tryd.ntmps15
  go_upto_region 1 with fail
  refine forget (fun Y => Hid (Src W b Y ∧ Below w.heap.size w Y ∧ Row Y w.heap.size 24 #[.slice none 0 0])) I0 ?_
  clear I0
  obtain ⟨gr, hgr⟩ : ∃ g, w.heap.size = g := ⟨_, rfl⟩
  rw [hgr]
  have HGR : Hid (w.heap.size = gr) := Lib.hid hgr
  clear hgr
  rintro Y HY
  go_wp2_with fail
  refine (placed_any W b _ m 6 HY.out.1 (by omega) m1 m2).mono ?_
  rintro e w2 ⟨R, v, rfl, hRl, HP⟩
  have HIn := Lib.hid HP.ins
  have HVL : Hid (∀ r ∈ R, El.Elt.vld r.L = 0) := Lib.hid (fun r hr => (HP.val r hr).2.2.1)
  have H2 : Hid (Src W b w2 ∧ w.grownBy w2 (some b) ∧ Row w2 gr 24 #[.slice none 0 0]) := Lib.hid ⟨HP.src, grown_tr (grown_below (HY.out.2.1.mono (by have := HGR.out; omega))) HP.gro, HY.out.2.2.grown HP.gro (fun e => by injection e with e; have := HGR.out; omega)⟩
  clear HP HY
  go_wp2_with fail
  refine (refLearn_any v R _ HIn.out (by omega)).mono ?_
  rintro e w3 ⟨u, rfl, hb3, ho3⟩
  have HBD := Lib.hid (lrn_bd R HVL.out)
  generalize (lrn R).1 = N at *
  generalize (lrn R).2 = er at *
  obtain ⟨A, cap, rfl⟩ := row_form ho3
  have b3 := (Below.refl w3.heap.size w3).alloc (Nat.le_refl _) (.cells #[.slice A N.length cap] 24)
  have hww : w.heap.size ≤ w3.heap.size := Nat.le_trans H2.out.2.1.size hb3.size
  have C0 : Hid (Cw W b w N (.slice A N.length cap) gr w3.heap.size 0 (w3.alloc (.cells #[.slice A N.length cap] 24))) := Lib.hid ⟨(H2.out.1.under hb3).under b3, grown_tr (grown_tr H2.out.2.1 (grown_below hb3)) (grown_below b3), El.own_under (own_less ho3 H2.out.2.1.size) b3, (H2.out.2.2.under hb3).under b3, Row.new _ _ _, by have := HGR.out; omega, hww, hbl, hW, fun n hn => HBD.out.2.1 n hn, HBD.out.2.2⟩
  have hN : N.length ≤ 200 := HBD.out.1
  clear H2 hb3 ho3 b3 hww HIn HVL HBD
  go_upto_region 2 with fail
  refine forget (fun Y => Hid (Cw W b w N (.slice A N.length cap) gr w3.heap.size 0 Y)) C0 ?_
  clear C0
  generalize w3.heap.size = gc at *
  rintro Y C0
  obtain ⟨L, hL⟩ : ∃ L, N.length = L := ⟨_, rfl⟩
  have C1 : Hid (∃ N1 : List Cm.N5, N1.length = L ∧ Cw W b w N1 (.slice A L cap) gr gc 0 Y) := Lib.hid ⟨N, hL, by rw [← hL]; exact C0.out⟩
  rw [hL] at hN ⊢
  clear C0 hL N
  have q0 : Y.cell? ⟨gc, 0, none⟩ = some (.slice A L cap) := by obtain ⟨N1, -, hc⟩ := C1.out; exact (hc.box.cell 0).trans rfl
  go_wp2_with fail
  go_loopw [18] (fun t wr => ∃ i : Nat, i ≤ L ∧ t = .int .i64 (i : Int) ∧ Hid (∃ N1 : List Cm.N5, N1.length = L ∧ Cw W b w N1 (.slice A L cap) gr gc i wr)) (fun t _ => L - (intOf t).toNat)
  case atStart => exact ⟨0, Nat.zero_le _, rfl, C1⟩
  case round =>
    clear C1 q0
    obtain ⟨i, hi, rfl, C1⟩ := hrel
    by_cases hlt : i < L
    · have k0 : (0 : Int) ≤ (i : Int) := by omega
      have k1 : (i : Int) < (L : Int) := by omega
      obtain ⟨N, hNL, hC⟩ := C1.out
      have HNL := Lib.hid hNL
      obtain ⟨g, rfl⟩ := own_addr (by rw [← hNL] at hC; exact hC.own) (by omega)
      have HC := Lib.hid hC
      clear C1 hC hNL
      go_wp2_with fail
      refine (n_any W b _ _ HC.out.src (by omega) (by omega)).mono ?_
      rintro e w5 ⟨x, ⟨x1, x2⟩, rfl, s5, g5⟩
      have HC5 := Lib.hid (HC.out.step s5 g5)
      clear s5 g5 HC
      by_cases hx0 : x = 0
      · subst hx0
        clear x1 x2
        go_upto_region 7 with fail
        have HS := Lib.hid (show ∀ N' k' Z, Cw W b w N' (.slice (some ⟨g, 0, none⟩) L cap) gr gc k' Z → Z.cell? ⟨gc, 0, none⟩ = some (.slice (some ⟨g, 0, none⟩) L cap) from fun N' k' Z hz => (hz.box.cell 0).trans rfl)
        have HD := Lib.hid (show ∀ W : World, Below W.heap.size W W.drew from fun _ => ⟨rfl, rfl, rfl, Nat.le_refl _, fun _ _ => rfl⟩)
        refine wp_region_held_drew (S := fun Z : World => Z.cell? ⟨gc, 0, none⟩ = some (.slice (some ⟨g, 0, none⟩) L cap)) (by kernel_rfl) (HS.out _ _ _ (HC5.out.under (HD.out _))) (fun hHeld => ?_)
        have HC6 := Lib.hid (HC5.out.under (HD.out w5))
        clear HC5
        generalize w5.drew = X at *
        refine tk 0 (oi := ⟨some 25, _, _, _, _, none⟩) rfl ?_
        try go_frame
        refine tk 1 (oi := ⟨some 26, _, _, _, _, none⟩) rfl ?_
        try go_frame
        refine tk 2 (oi := ⟨some 27, _, _, _, _, none⟩) rfl ?_
        try go_frame
        refine tk 3 (oi := ⟨some 28, _, _, _, _, none⟩) rfl ?_
        try go_frame
        refine wpAnyH_ready (rs := [4]) (by kernel_rfl) (by simp) ?_
        refine AllReadyH.cons (o := ⟨some 29, _, _, _, _, none⟩) rfl (fun K hK => ?_) AllReadyH.nil
        go_simp
        refine (n_any W b _ _ HC6.out.src (by omega) (by omega)).mono ?_
        rintro e w6 ⟨y, ⟨y1, y2⟩, rfl, s6, g6⟩
        go_wp2_with fail
        have HC7 := Lib.hid (HC6.out.step s6 g6)
        clear s6 g6 HC6 hHeld
        refine hK.out _ _ (HS.out _ _ _ HC7.out) (fun hHeld => ?_)
        clear hK K
        try simp only [Act.put, List.setIfInBounds_toArray, List.set_cons_zero, List.set_cons_succ]
        refine tk 5 (oi := ⟨some 30, _, _, _, _, none⟩) rfl ?_
        try go_frame
        refine tk 6 (oi := ⟨some 31, _, _, _, _, none⟩) rfl ?_
        try go_frame
        refine wpAnyH_ready (rs := [7]) (by kernel_rfl) (by simp) ?_
        refine AllReadyH.cons (o := ⟨none, _, _, _, _, none⟩) rfl (fun K hK => ?_) AllReadyH.nil
        obtain ⟨⟨c3, c4⟩, fz⟩ := HC7.out.facts HNL.out (i := i) (by have := HNL.out; omega)
        have f4 := fz (i * 5 + 4)
        obtain ⟨N2, hN2, hC8⟩ := HC7.out.spread HNL.out (i := i) (by have := HNL.out; omega) y (by omega) (by omega)
        have HM : Hid (∃ N1 : List Cm.N5, N1.length = L ∧ Cw W b w N1 (.slice (some ⟨g, 0, none⟩) L cap) gr gc (i + 1) (w6.setCell ⟨g, i * 5 + 4, none⟩ (.int .i64 y))) := Lib.hid ⟨N2, hN2, hC8⟩
        have HS8 := Lib.hid (HS.out _ _ _ hC8)
        clear fz hN2 hC8 c3
        go_simp
        refine hK.out _ _ HS8.out (fun hHeld2 => ?_)
        clear hK K hHeld hHeld2 HS8 c4 f4 HC7
        try simp only [Act.put, List.setIfInBounds_toArray, List.set_cons_zero, List.set_cons_succ]
        refine wpAnyH_done (by kernel_rfl) ?_ _
        generalize w6.setCell ⟨g, i * 5 + 4, none⟩ (.int .i64 y) = w7 at *
        go_wp2_with fail
        go_roundw
        case rel => exact ⟨i + 1, by omega, by go_num, HM⟩
        case measure => simp [intOf]; omega
      · have kx : (x == 0) = false := beq_eq_false_iff_ne.2 hx0
        by_cases hx1 : x = 1
        · subst hx1
          clear x1 x2
          go_upto_region 9 with fail
          have HS := Lib.hid (show ∀ N' k' Z, Cw W b w N' (.slice (some ⟨g, 0, none⟩) L cap) gr gc k' Z → Z.cell? ⟨gc, 0, none⟩ = some (.slice (some ⟨g, 0, none⟩) L cap) from fun N' k' Z hz => (hz.box.cell 0).trans rfl)
          have HD := Lib.hid (show ∀ W : World, Below W.heap.size W W.drew from fun _ => ⟨rfl, rfl, rfl, Nat.le_refl _, fun _ _ => rfl⟩)
          have hiN : i < N.length := by have := HNL.out; omega
          obtain ⟨a, ha⟩ : ∃ a, N[i].2.2.2.1 = a := ⟨_, rfl⟩
          have hab := (HC5.out.bnd _ (List.getElem_mem hiN)).2
          rw [ha] at hab
          have HA : Hid (∀ q : i < N.length, (N[i]'q).2.2.2.1 = a) := Lib.hid (fun _ => ha)
          clear ha
          have HIN := Lib.hid hiN
          refine wp_region_held_drew (S := fun Z : World => Z.cell? ⟨gc, 0, none⟩ = some (.slice (some ⟨g, 0, none⟩) L cap)) (by kernel_rfl) (HS.out _ _ _ (HC5.out.under (HD.out _))) (fun hHeld => ?_)
          have HC6 := Lib.hid (HC5.out.under (HD.out w5))
          clear HC5 hiN
          generalize w5.drew = X at *
          refine tk 0 (oi := ⟨some 34, _, _, _, _, none⟩) rfl ?_
          try go_frame
          refine tk 1 (oi := ⟨some 35, _, _, _, _, none⟩) rfl ?_
          try go_frame
          refine tk 2 (oi := ⟨some 36, _, _, _, _, none⟩) rfl ?_
          try go_frame
          refine tk 3 (oi := ⟨some 37, _, _, _, _, none⟩) rfl ?_
          try go_frame
          refine tk 4 (oi := ⟨some 38, _, _, _, _, none⟩) rfl ?_
          try go_frame
          refine tk 6 (oi := ⟨some 40, _, _, _, _, none⟩) rfl ?_
          try go_frame
          refine wpAnyH_ready (rs := [5, 7]) (by kernel_rfl) (by simp) ?_
          refine AllReadyH.cons (o := ⟨some 39, _, _, _, _, none⟩) rfl (fun K hK => ?_) (AllReadyH.cons (o := ⟨some 41, _, _, _, _, none⟩) rfl (fun K hK => ?_) AllReadyH.nil)
          · have c3 := (HC6.out.facts HNL.out HIN.out).1.1
            rw [HA.out HIN.out] at c3
            go_simp
            refine hK.out _ _ hHeld (fun hHeld => ?_)
            clear hK K c3
            try simp only [Act.put, List.setIfInBounds_toArray, List.set_cons_zero, List.set_cons_succ]
            refine wpAnyH_ready (rs := [7]) (by kernel_rfl) (by simp) ?_
            refine AllReadyH.cons (o := ⟨some 41, _, _, _, _, none⟩) rfl (fun K hK => ?_) AllReadyH.nil
            go_simp
            refine (range_any W b _ _ _ HC6.out.src (by omega) (by omega) (by omega) (by omega)).mono ?_
            rintro e w6 ⟨y, ⟨y1, y2⟩, rfl, s6, g6⟩
            go_wp2_with fail
            have HC7 := Lib.hid (HC6.out.step s6 g6)
            clear s6 g6 HC6 hHeld
            refine hK.out _ _ (HS.out _ _ _ HC7.out) (fun hHeld => ?_)
            clear hK K
            try simp only [Act.put, List.setIfInBounds_toArray, List.set_cons_zero, List.set_cons_succ]
            have y9 : IntKind.i64.wrap (a + y) = a + y := IntWalk.i64_in _ (by omega)
            refine tk 8 (oi := ⟨some 42, _, _, _, _, none⟩) rfl ?_
            try go_frame
            refine tk 9 (oi := ⟨some 43, _, _, _, _, none⟩) rfl ?_
            try go_frame
            refine tk 10 (oi := ⟨some 44, _, _, _, _, none⟩) rfl ?_
            try go_frame
            refine wpAnyH_ready (rs := [11]) (by kernel_rfl) (by simp) ?_
            refine AllReadyH.cons (o := ⟨none, _, _, _, _, none⟩) rfl (fun K hK => ?_) AllReadyH.nil
            obtain ⟨⟨c3, c4⟩, fz⟩ := HC7.out.facts HNL.out HIN.out
            have f3 := fz (i * 5 + 3)
            obtain ⟨N2, hN2, hC8⟩ := HC7.out.mean HNL.out HIN.out y (by omega) (by omega)
            rw [HA.out HIN.out] at hC8 c3
            have HM : Hid (∃ N1 : List Cm.N5, N1.length = L ∧ Cw W b w N1 (.slice (some ⟨g, 0, none⟩) L cap) gr gc (i + 1) (w6.setCell ⟨g, i * 5 + 3, none⟩ (.int .i64 (a + y)))) := Lib.hid ⟨N2, hN2, hC8⟩
            have HS8 := Lib.hid (HS.out _ _ _ hC8)
            clear fz hN2 hC8 c4
            go_simp
            refine hK.out _ _ HS8.out (fun hHeld2 => ?_)
            clear hK K hHeld hHeld2 HS8 c3 f3 HC7
            try simp only [Act.put, List.setIfInBounds_toArray, List.set_cons_zero, List.set_cons_succ]
            refine wpAnyH_done (by kernel_rfl) ?_ _
            generalize w6.setCell ⟨g, i * 5 + 3, none⟩ (.int .i64 (a + y)) = w7 at *
            go_wp2_with fail
            go_roundw
            case rel => exact ⟨i + 1, by omega, by go_num, HM⟩
            case measure => simp [intOf]; omega
          · go_simp
            refine (range_any W b _ _ _ HC6.out.src (by omega) (by omega) (by omega) (by omega)).mono ?_
            rintro e w6 ⟨y, ⟨y1, y2⟩, rfl, s6, g6⟩
            go_wp2_with fail
            have HC7 := Lib.hid (HC6.out.step s6 g6)
            clear s6 g6 HC6 hHeld
            refine hK.out _ _ (HS.out _ _ _ HC7.out) (fun hHeld => ?_)
            clear hK K
            try simp only [Act.put, List.setIfInBounds_toArray, List.set_cons_zero, List.set_cons_succ]
            refine wpAnyH_ready (rs := [5]) (by kernel_rfl) (by simp) ?_
            refine AllReadyH.cons (o := ⟨some 39, _, _, _, _, none⟩) rfl (fun K hK => ?_) AllReadyH.nil
            have c3 := (HC7.out.facts HNL.out HIN.out).1.1
            rw [HA.out HIN.out] at c3
            go_simp
            refine hK.out _ _ hHeld (fun hHeld => ?_)
            clear hK K c3
            try simp only [Act.put, List.setIfInBounds_toArray, List.set_cons_zero, List.set_cons_succ]
            have y9 : IntKind.i64.wrap (a + y) = a + y := IntWalk.i64_in _ (by omega)
            refine tk 8 (oi := ⟨some 42, _, _, _, _, none⟩) rfl ?_
            try go_frame
            refine tk 9 (oi := ⟨some 43, _, _, _, _, none⟩) rfl ?_
            try go_frame
            refine tk 10 (oi := ⟨some 44, _, _, _, _, none⟩) rfl ?_
            try go_frame
            refine wpAnyH_ready (rs := [11]) (by kernel_rfl) (by simp) ?_
            refine AllReadyH.cons (o := ⟨none, _, _, _, _, none⟩) rfl (fun K hK => ?_) AllReadyH.nil
            obtain ⟨⟨c3, c4⟩, fz⟩ := HC7.out.facts HNL.out HIN.out
            have f3 := fz (i * 5 + 3)
            obtain ⟨N2, hN2, hC8⟩ := HC7.out.mean HNL.out HIN.out y (by omega) (by omega)
            rw [HA.out HIN.out] at hC8 c3
            have HM : Hid (∃ N1 : List Cm.N5, N1.length = L ∧ Cw W b w N1 (.slice (some ⟨g, 0, none⟩) L cap) gr gc (i + 1) (w6.setCell ⟨g, i * 5 + 3, none⟩ (.int .i64 (a + y)))) := Lib.hid ⟨N2, hN2, hC8⟩
            have HS8 := Lib.hid (HS.out _ _ _ hC8)
            clear fz hN2 hC8 c4
            go_simp
            refine hK.out _ _ HS8.out (fun hHeld2 => ?_)
            clear hK K hHeld hHeld2 HS8 c3 f3 HC7
            try simp only [Act.put, List.setIfInBounds_toArray, List.set_cons_zero, List.set_cons_succ]
            refine wpAnyH_done (by kernel_rfl) ?_ _
            generalize w6.setCell ⟨g, i * 5 + 3, none⟩ (.int .i64 (a + y)) = w7 at *
            go_wp2_with fail
            go_roundw
            case rel => exact ⟨i + 1, by omega, by go_num, HM⟩
            case measure => simp [intOf]; omega
        · have ky : (x == 1) = false := beq_eq_false_iff_ne.2 hx1
          have HM : Hid (∃ N1 : List Cm.N5, N1.length = L ∧ Cw W b w N1 (.slice (some ⟨g, 0, none⟩) L cap) gr gc (i + 1) w5) := Lib.hid ⟨N, HNL.out, HC5.out.more⟩
          clear HC5 HNL
          go_wp2_with fail
          go_roundw
          case rel => exact ⟨i + 1, by omega, by go_num, HM⟩
          case measure => simp [intOf]; omega
    · obtain rfl : i = L := by omega
      have k1 : ¬ (i : Int) < (i : Int) := by omega
      obtain ⟨N, hNL, hC⟩ := C1.out
      have HNL := Lib.hid hNL
      have HC := Lib.hid hC
      have q0 := (hC.box.cell 0).trans rfl
      have f0 := hC.res.thaw 0
      have y0 := (hC.res.cell 0).trans rfl
      have HX := Lib.hid hC.last
      have HKy := Lib.hid hC.keys
      clear C1 hC hNL HC
      go_wp2_with fail
      exact bodyPost_ret (v := .agg #[.slice A i cap]) (by have z0 := (HX.out.2.cell 0).trans rfl; simp [results, Tryd.results15, z0, go_sem]) rfl (ClO.of (by omega) HX.out.1.1 HX.out.1.2.1 HX.out.1.2.2.1 (by rw [HNL.out]; exact hN) HX.out.1.2.2.2 HKy.out)
end Go.Proofs.YtlakgkoohdfiaaaDoor

namespace Go.Proofs.YtlakgkoohdfiaaaDoor
open Go.RowKit

theorem fam_at {f : Nat} {A B C t M : Int} (hv : Pl.Ico.Vld f A B C) (ht : Ck.Cal.rng t = true) (hm : mth t = M) : fam f A B C t = (((Pl.Ico.nf f A B C : Nat) : Int), M, 0) := by
  unfold fam
  rw [if_pos ⟨Pl.vb_of hv, ht⟩, hm]
  rfl
theorem fam_on {f g : Nat} {A B C t M : Int} (hv : Pl.Ico.Vld f A B C) (hg : g ∈ Pl.Ico.fcs f A B C 20) (ht : Ck.Cal.rng t = true) (hm : mth t = M) :
    fam g (Pl.Ico.wt f A B C (Pl.Ico.cor g 0)) (Pl.Ico.wt f A B C (Pl.Ico.cor g 1)) (Pl.Ico.wt f A B C (Pl.Ico.cor g 2)) t = (((Pl.Ico.nf f A B C : Nat) : Int), M, 0) := by
  obtain ⟨h1, h2⟩ := Pl.Ico.mem_fcs.1 hg
  rw [fam_at (Pl.Ico.vld_on hv h1 h2) ht hm, Pl.Ico.nf_same (Pl.Ico.wt_on hv h1 h2)]
theorem first_vld {y m d h i : Int} (hv : Ck.Cal.vld y m d h i = true) : Ck.Cal.vld y m 1 0 0 = true := by
  obtain ⟨h1, h2, h3, h4⟩ := Ck.Cal.vld_iff.1 hv
  exact Ck.Cal.vld_iff.2 ⟨h1, by omega, by omega, by omega, by omega, by omega, by omega⟩
theorem rng_vld {y m d h i : Int} (hv : Ck.Cal.vld y m d h i = true) : Ck.Cal.rng (Ck.Cal.num y m d h i) = true := by
  have := Ck.Cal.num_bd hv
  unfold Ck.Cal.rng; simpa using this
theorem own_at {w : World} {base n cap g : Nat} {N : List Cm.N5} (h : w.ownsRow base 50 5 (.slice (some ⟨g, 0, none⟩) n cap) N.length (nrc N)) (hn : N.length = n) {i : Nat} (hi : i < N.length) : w.cell? ⟨g, i * 5 + 1, none⟩ = some (.int .i64 N[i].2.1) := by
  subst hn
  rw [h.cellAt _ (by omega), nrc_at N i hi 1 (by omega)]; rfl
/-- What is known while the law draws. -/
structure Pq (W : World) (b base : Nat) (N : List Cm.N5) (v : Value) (gc : Nat) (Y : World) : Prop where
  src : Src W b Y
  own : Y.ownsRow base 50 5 v N.length (nrc N)
  box : Row Y gc 24 #[v]
  hb : b < base
  hc : b < gc
section
variable {W Y Y' : World} {b base gc gp : Nat} {N : List Cm.N5} {v : Value} {cs : Array Value}
theorem Pq.step (h : Pq W b base N v gc Y) (hs : Src W b Y') (hg : Y.grownBy Y' (some b)) : Pq W b base N v gc Y' :=
  ⟨hs, own_heap h.own (fun i hi => hg.block i (row_size h.own hi) (fun e => by injection e with e; have := row_base h.own hi; have := h.hb; omega)),
    h.box.grown hg (fun e => by injection e with e; have := h.hc; omega), h.hb, h.hc⟩
theorem Pq.under (h : Pq W b base N v gc Y) (hb : Below Y.heap.size Y Y') : Pq W b base N v gc Y' := h.step (h.src.under hb) (grown_below hb)
/-- .. with the place. -/
structure Pp (W : World) (b base : Nat) (N : List Cm.N5) (v : Value) (gc gp : Nat) (cs : Array Value) (Y : World) : Prop where
  q : Pq W b base N v gc Y
  pl : Row Y gp 27 cs
  hp : b < gp
theorem Pp.step (h : Pp W b base N v gc gp cs Y) (hs : Src W b Y') (hg : Y.grownBy Y' (some b)) : Pp W b base N v gc gp cs Y' :=
  ⟨h.q.step hs hg, h.pl.grown hg (fun e => by injection e with e; have := h.hp; omega), h.hp⟩
theorem Pp.under (h : Pp W b base N v gc gp cs Y) (hb : Below Y.heap.size Y Y') : Pp W b base N v gc gp cs Y' := h.step (h.q.src.under hb) (grown_below hb)
theorem Pp.put (h : Pp W b base N v gc gp cs Y) (j : Nat) (x : Value) : Pp W b base N v gc gp (cs.setIfInBounds j x) (Y.setCell ⟨gp, j, none⟩ x) := by
  have h1 := h.hp
  have h2 := h.q.src.base
  exact ⟨⟨Pl.src_set h.q.src gp j x (by omega) (by omega), own_heap h.q.own (fun i hi => Below.heap_setCell Y ⟨gp, j, none⟩ x i (fun e => row_not h.q.own h.pl (by decide) (by have e' : i = gp := e; rw [← e']; exact hi))), h.q.box.far (row_ne h.pl h.q.box (by decide)) x, h.q.hb, h.q.hc⟩, h.pl.put j x, h.hp⟩
theorem Pp.put4 {c0 c1 c2 c3 : Value} (h : Pp W b base N v gc gp #[c0, c1, c2, c3] Y) (x0 x1 x2 x3 : Value) : Pp W b base N v gc gp #[x0, x1, x2, x3] ((((Y.setCell ⟨gp, 0, none⟩ x0).setCell ⟨gp, 1, none⟩ x1).setCell ⟨gp, 2, none⟩ x2).setCell ⟨gp, 3, none⟩ x3) := (((h.put 0 x0).put 1 x1).put 2 x2).put 3 x3
end
/-- What is known in the law's loop. -/
structure Pt (W : World) (base : Nat) (N : List Cm.N5) (v : Value) (gc gn : Nat) (r : Cm.N5) (Y : World) : Prop where
  below : Below W.heap.size W Y
  own : Y.ownsRow base 50 5 v N.length (nrc N)
  box : Row Y gc 24 #[v]
  nrm : Row Y gn 50 #[.int .i64 r.1, .int .i64 r.2.1, .int .i64 r.2.2.1, .int .i64 r.2.2.2.1, .int .i64 r.2.2.2.2]
theorem Pt.under {W Y Y' : World} {base gc gn : Nat} {N : List Cm.N5} {v : Value} {r : Cm.N5} (h : Pt W base N v gc gn r Y) (hb : Below Y.heap.size Y Y') : Pt W base N v gc gn r Y' :=
  ⟨h.below.trans (hb.mono h.below.size), El.own_under h.own hb, h.box.under hb, h.nrm.under hb⟩
theorem Has.under {w w' : World} {f : Nat} {a b c : Int} {g : Nat} (h : Pl.Has w f a b c g) (hg : g < w.heap.size) (hb : Below w.heap.size w w') : Pl.Has w' f a b c g :=
  h.keep (fun j => by unfold World.cell?; rw [hb.block g hg])
end Go.Proofs.YtlakgkoohdfiaaaDoor

namespace Go.Proofs.YtlakgkoohdfiaaaDoor
open Go.RowKit

theorem NmIn.own {w : World} {base : Nat} {v : Value} {C : List Int} (h : w.ownsRow base 3 1 v C.length (nmc C)) : El.NmIn w v C := by
  have h' := h
  rcases h.2 with ⟨rfl, h0⟩ | ⟨g, cap, cur, rfl, _, hh, hle, hmax, _, _⟩
  · have := List.eq_nil_of_length_eq_zero h0
    subst this
    exact ⟨none, 0, rfl, Nat.le_refl _, by omega, fun i hi => by simp at hi⟩
  · refine ⟨some ⟨g, 0, none⟩, cap, rfl, hle, by unfold maxLen at hmax; omega, fun i hi => ⟨g, 0, rfl, (Array.getElem?_eq_some_iff.1 hh).1, ?_⟩⟩
    rw [Nat.zero_add, h'.cellAt i (by omega)]
    exact nmc_at hi
theorem NmIn.at {w : World} {A : Option Addr} {n c : Nat} {C : List Int} (h : El.NmIn w (.slice A n c) C) {i : Nat} (hi : i < C.length) : ∃ g off, A = some ⟨g, off, none⟩ ∧ g < w.heap.size ∧ w.cell? ⟨g, off + i, none⟩ = some (.int .i64 C[i]) := by
  obtain ⟨A', cap, e, -, -, h3⟩ := h
  injection e with e1 e2 e3
  subst e1
  exact h3 i hi
def eqTo (a b : List Int) (n : Nat) : Prop := ∀ j, j < n → a[j]? = b[j]?
theorem eqTo_all {a b : List Int} (hl : a.length = b.length) (h : eqTo a b a.length) : a = b := by
  refine List.ext_getElem? fun j => ?_
  rcases Nat.lt_or_ge j a.length with q | q
  · exact h j q
  · rw [List.getElem?_eq_none q, List.getElem?_eq_none (by omega)]
set_option maxHeartbeats 4000000 in
theorem ints_any (u v : Value) (a b : List Int) (w : World) (ha : El.NmIn w u a) (hb : El.NmIn w v b) :
    Calls Tryd.prog 35 #[u, v] w fun e w' => e = .returned (.bool (decide (a = b))) ∧ Below w.heap.size w w' := by
  obtain ⟨A, c1, rfl, m1, m2, -⟩ := id ha
  obtain ⟨B, c2, rfl, m3, m4, -⟩ := id hb
  have HA := Lib.hid ha; clear ha
  have HB := Lib.hid hb; clear hb
  obtain ⟨z, hz⟩ : ∃ z, decide (a = b) = z := ⟨_, rfl⟩
  have HZ := Lib.hid hz
  rw [hz]; clear hz
  by_cases hn : a.length = b.length
  · have HN := Lib.hid hn
    rw [← hn] at HB m3 ⊢
    clear hn
    go_enter Tryd.func35, Tryd.ntmps35
    go_wp2_with fail
    go_loopw [5] (fun t wr => ∃ i : Nat, i ≤ a.length ∧ t = .int .i64 (i : Int) ∧ Hid (eqTo a b i) ∧ Hid (Below w.heap.size w wr)) (fun t _ => a.length - (intOf t).toNat)
    case atStart => exact ⟨0, by omega, rfl, Lib.hid (fun i hi => by omega), Lib.hid (Below.refl _ _)⟩
    case round =>
      obtain ⟨i, hi, rfl, HT, HW⟩ := hrel
      by_cases hlt : i < a.length
      · have k0 : (i : Int) < (a.length : Int) := by omega
        have k1 : (0 : Int) ≤ (i : Int) := by omega
        have hib : i < b.length := by have := HN.out; omega
        obtain ⟨g, o1, rfl, -, p1⟩ := NmIn.at (HA.out.under HW.out) hlt
        obtain ⟨g', o2, rfl, -, q1⟩ := NmIn.at (HB.out.under HW.out) hib
        have HST := Lib.hid (show a[i] = b[i] → eqTo a b (i + 1) from fun h j hj => by
          rcases (by omega : j < i ∨ j = i) with hj' | rfl
          · exact HT.out j hj'
          · rw [List.getElem?_eq_getElem hlt, List.getElem?_eq_getElem hib, h])
        have HNO := Lib.hid (show a[i] ≠ b[i] → ¬ a = b from fun h h' => by subst h'; exact h rfl)
        generalize a[i] = x at *
        generalize b[i] = y at *
        clear hib
        go_upto_region 6 with fail
        refine wp_region_held_drew (S := fun w' : World => w'.cell? ⟨g, o1 + i, none⟩ = some (.int .i64 x) ∧ w'.cell? ⟨g', o2 + i, none⟩ = some (.int .i64 y)) (by kernel_rfl) ⟨p1, q1⟩ (fun hHeld => ?_)
        refine tk 0 (oi := ⟨some 17, _, _, _, _, none⟩) rfl ?_
        try go_frame
        refine tk 1 (oi := ⟨some 18, _, _, _, _, none⟩) rfl ?_
        try go_frame
        refine tk 2 (oi := ⟨some 19, _, _, _, _, none⟩) rfl ?_
        try go_frame
        refine tk 3 (oi := ⟨some 20, _, _, _, _, none⟩) rfl ?_
        try go_frame
        refine tk 4 (oi := ⟨some 21, _, _, _, _, none⟩) rfl ?_
        try go_frame
        refine tk 5 (oi := ⟨some 22, _, _, _, _, none⟩) rfl ?_
        try go_frame
        refine tk 6 (oi := ⟨some 23, _, _, _, _, none⟩) rfl ?_
        try go_frame
        refine tk 7 (oi := ⟨some 24, _, _, _, _, none⟩) rfl ?_
        try go_frame
        refine tk 8 (oi := ⟨some 25, _, _, _, _, none⟩) rfl ?_
        try go_frame
        refine wpAnyH_done (by kernel_rfl) ?_ _
        have HB2 := Lib.hid (HW.out.trans (show Below w.heap.size wr wr.drew from ⟨rfl, rfl, rfl, Nat.le_refl _, fun _ _ => rfl⟩))
        clear hHeld p1 q1
        by_cases hxy : x = y
        · have HS2 := Lib.hid (HST.out hxy)
          subst hxy
          clear HST HNO
          go_wp2_with fail
          go_roundw
          case rel => exact ⟨i + 1, by omega, by go_num, HS2, HB2⟩
          case measure => simp [intOf]; omega
        · have hc : (x == y) = false := by rw [beq_eq_false_iff_ne]; exact hxy
          have HN2 := Lib.hid (HNO.out hxy)
          clear HST HNO
          go_wp2_with fail
          go_ret
          exact ⟨by rw [← HZ.out, decide_eq_false HN2.out]; rfl, HB2.out⟩
      · have k0 : ¬ (i : Int) < (a.length : Int) := by omega
        have HY := Lib.hid (show a = b from eqTo_all HN.out (fun j hj => HT.out j (by omega)))
        go_wp2_with fail
        go_ret
        exact ⟨by rw [← HZ.out, decide_eq_true HY.out]; rfl, HW.out⟩
  · have k9 : ((a.length : Int) == (b.length : Int)) = false := by rw [beq_eq_false_iff_ne]; omega
    have HN := Lib.hid (show ¬ a = b from fun h => hn (by rw [h])); clear hn
    go_enter Tryd.func35, Tryd.ntmps35
    go_wp2_with fail
    go_ret
    exact ⟨by rw [← HZ.out, decide_eq_false HN.out]; rfl, Below.refl _ _⟩
theorem mth_0 : mth 0 = 1 := mth_eq (y := 2000) (m := 1) (d := 1) (hh := 0) (i := 0) (by decide) (by decide)
theorem mth_60 : mth 60 = 1 := mth_eq (y := 2000) (m := 1) (d := 1) (hh := 1) (i := 0) (by decide) (by decide)
theorem mth_100 : mth 100 = 1 := mth_eq (y := 2000) (m := 1) (d := 1) (hh := 1) (i := 40) (by decide) (by decide)
theorem fam_0 : fam 0 840 0 0 0 = (0, 1, 0) := by
  have h := fam_at (f := 0) (A := 840) (B := 0) (C := 0) (t := 0) (by unfold Pl.Ico.Vld; omega) (by decide) mth_0
  rw [show Pl.Ico.nf 0 840 0 0 = 0 by decide +kernel] at h
  exact h
theorem fam_100 : fam 1 840 0 0 100 = (0, 1, 0) := by
  have h := fam_at (f := 1) (A := 840) (B := 0) (C := 0) (t := 100) (by unfold Pl.Ico.Vld; omega) (by decide) mth_100
  rw [show Pl.Ico.nf 1 840 0 0 = 0 by decide +kernel] at h
  exact h
end Go.Proofs.YtlakgkoohdfiaaaDoor


namespace Go.Proofs.YtlakgkoohdfiaaaDoor
open Go.RowKit

theorem wpList_append_nothing {P : Program} (w : World) {ops : Array Oper} {rest : List Oper} {o : Oper} {a : Act} {Q : Exit → Act → World → Prop} (hgd : o.guard = none) (s x : Operand) (t : TypeId)
    (ho : o.op = .call { callee := .builtin .append, args := #[s, x], argTypes := #[t, t] }) (e : TypeId) (i : TypeInfo) (ht : P.underlying t = some (.slice e)) (hi : P.info? e = some i)
    (base : Option Addr) (n c : Nat) (hle : n ≤ c) (hs : a.eval s = .slice base n c) (v : Value) (hx : a.eval x = v) (src : Go.Src P i.size t v 0 [] w)
    (hK : wpList P ops Q rest (a.put o.dst (.slice base n c)) w) : wpList P ops Q (o :: rest) a w := by
  refine wpList_plain hgd fun K hK' => ?_
  have hrun := run_append_nothing (P := P) w t t o.type e i ht hi base n c hle v src
  unfold Oper.wp
  simp [execOp, ho, resolve, invoke, builtin, hs, hx, hrun, Result.andThen]
  exact hK' _ _ hK
theorem below_new {w w' : World} (hg : w.grownBy w' none) : Below w.heap.size w w' := (Below.refl _ w).grown hg (Nat.le_refl _) (by simp)
theorem nmc_one (C : List Int) : ∀ u ∈ nmc C, u.oneCell' = true := by
  intro u hu
  obtain ⟨x, -, rfl⟩ := List.mem_map.1 hu
  rfl
/-- The list with x put in at k. -/
def insK (k : Nat) (x : Int) (P : List Int) : List Int := P.take k ++ x :: P.drop k
theorem insK_len {k : Nat} {x : Int} {P : List Int} (h : k ≤ P.length) : (insK k x P).length = P.length + 1 := by unfold insK; simp; omega
theorem insK_perm (k : Nat) (x : Int) (P : List Int) : (insK k x P).Perm (x :: P) := by
  unfold insK
  exact List.perm_middle.trans (List.Perm.cons x (by rw [List.take_append_drop]))
/-- The first n numbers. -/
def upto (n : Nat) : List Int := (List.range n).map fun (j : Nat) => (j : Int)
theorem upto_succ (n : Nat) : upto (n + 1) = upto n ++ [(n : Int)] := by unfold upto; rw [List.range_succ, List.map_append]; rfl
theorem upto_len (n : Nat) : (upto n).length = n := by unfold upto; simp
theorem insK_upto {k n : Nat} {P : List Int} (h : P.Perm (upto n)) : (insK k (n : Int) P).Perm (upto (n + 1)) := by
  rw [upto_succ]
  exact (insK_perm k n P).trans ((List.Perm.cons _ h).trans (List.perm_append_singleton _ _).symm)
theorem nmc_len (C : List Int) : (nmc C).length = C.length * 1 := by unfold nmc; rw [List.length_map]; omega
theorem nmc_app (A B : List Int) : nmc (A ++ B) = nmc A ++ nmc B := List.map_append
theorem nmc_cells {w : World} {base g n cap : Nat} {P : List Int} (h : w.ownsRow base 3 1 (.slice (some ⟨g, 0, none⟩) n cap) n (nmc P)) (hn : n = P.length) : ∀ j u, (nmc P)[j]? = some u → w.cell? ⟨g, j, none⟩ = some u := by
  intro j u hu
  have hj := (List.getElem?_eq_some_iff.1 hu).1
  rw [nmc_len] at hj
  rw [h.cellAt j (by omega)]
  exact hu
theorem nmc_cut {P : List Int} (k : Nat) : ∀ (j : Nat) (u : Value), (nmc (P.drop k))[j]? = some u → (nmc P)[k + j]? = some u := by
  intro j u hu
  unfold nmc at hu ⊢
  rw [List.getElem?_map, List.getElem?_drop] at hu
  rw [List.getElem?_map]
  exact hu
theorem nmc_beg {P : List Int} (k : Nat) : ∀ (j : Nat) (u : Value), (nmc (P.take k))[j]? = some u → (nmc P)[j]? = some u := by
  intro j u hu
  have hj := (List.getElem?_eq_some_iff.1 hu).1
  rw [nmc_len, List.length_take] at hj
  unfold nmc at hu ⊢
  rw [List.getElem?_map, List.getElem?_take, if_pos (by omega)] at hu
  rw [List.getElem?_map]
  exact hu
/-- What is known while the order grows. -/
structure Orr (W : World) (b : Nat) (w0 : World) (P : List Int) (u : Value) (w : World) : Prop where
  src : Src W b w
  gro : w0.grownBy w (some b)
  own : ∃ base, w0.heap.size ≤ base ∧ w.ownsRow base 3 1 u P.length (nmc P)
  nz : P = [] → u = .slice none 0 0
theorem Orr.step {W w0 w w' : World} {b : Nat} {P : List Int} {u : Value} (h : Orr W b w0 P u w) (hs : Src W b w') (hg : w.grownBy w' (some b)) : Orr W b w0 P u w' := by
  obtain ⟨cs, hr⟩ := El.src_row h.src
  obtain ⟨base, h1, h2⟩ := h.own
  exact ⟨hs, grown_trans h.gro hg, ⟨base, h1, h2.kept hg (.inr (fun e => El.own_ne h2 hr (by decide) e.symm))⟩, h.nz⟩
theorem Orr.next {W w0 w w' : World} {b base : Nat} {P Q : List Int} {u v : Value} {m : Nat} (h : Orr W b w0 P u w) (hb : Below w.heap.size w w') (ho : w'.ownsRow base 3 1 v m (nmc Q)) (hm : m = Q.length) (hbase : w.heap.size ≤ base) (hq : 0 < m) : Orr W b w0 Q v w' :=
  ⟨h.src.under hb, grown_trans h.gro (grown_below hb), ⟨base, Nat.le_trans h.gro.size hbase, by rw [← hm]; exact ho⟩, fun e => by rw [e] at hm; simp at hm; omega⟩
theorem own_some {w : World} {base n : Nat} {v : Value} {C : List Int} (h : w.ownsRow base 3 1 v n (nmc C)) (hn : 0 < n) : ∃ g cap, v = .slice (some ⟨g, 0, none⟩) n cap ∧ g < w.heap.size ∧ (∀ (j : Nat) (u : Value), (nmc C)[j]? = some u → w.cell? ⟨g, j, none⟩ = some u) ∧ cap ≤ maxLen := by
  have h' := h
  rcases h.2 with ⟨_, h0⟩ | ⟨g, cap, cur, rfl, _, hh, hle, hmax, _, _⟩
  · omega
  · refine ⟨g, cap, rfl, (Array.getElem?_eq_some_iff.1 hh).1, fun j u hu => ?_, hmax⟩
    have hj := (List.getElem?_eq_some_iff.1 hu).1
    have := h.1
    rw [h'.cellAt j (by omega)]
    exact hu
/-- What Order leaves. -/
def Ordd (W : World) (b : Nat) (w : World) (n : Nat) (e : Ending) (w' : World) : Prop := ∃ u P, e = .returned u ∧ P.Perm (upto n) ∧ Orr W b w P u w'
set_option maxRecDepth 100000 in
set_option maxHeartbeats 4000000 in
theorem ordr_any (W : World) (b : Nat) (w : World) (n : Nat) (h : Src W b w) (hn : n ≤ 1000) :
    Calls Tryd.prog 44 #[.pointer (some ⟨b, 0, none⟩), .int .i64 n] w (Ordd W b w n) := by
  obtain ⟨i0, hi, hz0, hz1, hz2⟩ := info_parts infoIntC
  go_enter Tryd.func44, Tryd.ntmps44
  go_wp2_with fail
  go_loopw [5, 6] (fun u t wr => ∃ (i : Nat) (P : List Int), i ≤ n ∧ t = .int .i64 i ∧ P.Perm (upto i) ∧ Orr W b w P u wr) (fun _ t _ => n - (intOf t).toNat)
  case atStart => exact ⟨0, [], Nat.zero_le _, rfl, List.Perm.refl _, h, grown_refl _ _, ⟨w.heap.size, Nat.le_refl _, World.ownsRow_nil _ _ _ _⟩, fun _ => rfl⟩
  case round =>
    clear h
    obtain ⟨i, P, hin, rfl, hp, hS⟩ := hrel
    have HPl : P.length = i := by rw [hp.length_eq, upto_len]
    have HP := Lib.hid hp; clear hp
    by_cases hlt : i < n
    · have hi1 : (i : Int) < (n : Int) := by omega
      obtain ⟨base, hb1, hown⟩ := hS.own
      rcases hown.2 with ⟨rfl, h0⟩ | ⟨g, cap, cur, rfl, hge, hh, hle, hmax, hsz, htk⟩
      · have hP0 : P = [] := List.eq_nil_of_length_eq_zero h0
        subst hP0
        have hi0 : i = 0 := by simpa using HPl.symm
        subst hi0
        clear hown hb1 h0 HPl
        go_wp2_with fail
        refine (n_any W b _ _ hS.src (by omega) (by omega)).mono ?_
        rintro e w1 ⟨x, ⟨x1, x2⟩, rfl, s1, g1⟩
        have S1 := Lib.hid (hS.step s1 g1)
        clear hS s1 g1
        obtain rfl : x = 0 := by omega
        clear x1 x2
        go_wp2_with (at_builtin; first | (refine wpList_append_nothing _ rfl (.tmp 20) (.tmp 23) 28 rfl 3 i0 Tryd.underlying28 hi _ 1 1 (Nat.le_refl _) rfl _ rfl (Go.Src.ofNil _ Tryd.underlying28 0) ?_) | go_loud (refine wpList_append_grows _ rfl (.tmp 28) (.tmp 29) 28 rfl 3 i0 _ 1 8 Tryd.underlying28 hi hz0 hz1 hz2 rfl (by decide) none 0 0 [] rfl (fun _ => ⟨rfl, rfl⟩) rfl (fun b h => by cases h) ⟨w1.heap.size, 0, none⟩ 1 1 (nmc [0]) rfl rfl (World.news_of_block (cs := #[.int .i64 0]) (t := 3) (fr := (0, 0)) (heap_alloc_new w1 _)) (nmc_one _) (by omega) (by decide) (by decide) ?_; intro v' w' hown hgr; have HW := Lib.hid hown; have HG := Lib.hid hgr; clear hown hgr))
        go_roundw
        case rel => exact ⟨1, [0], by omega, rfl, List.Perm.refl _, S1.out.next (((Below.refl _ _).alloc (Nat.le_refl _) _).trans ((below_new HG.out).mono (by simp))) HW.out rfl (by simp) (by omega)⟩
        case measure => simp [intOf]; omega
      · subst HPl
        have hPp : 0 < P.length := by
          rcases Nat.eq_zero_or_pos P.length with h0 | h0
          · exfalso
            have := hS.nz (List.eq_nil_of_length_eq_zero h0)
            cases this
          · exact h0
        clear hown hb1 hge hh hsz htk
        have hiP : (P.length : Int) + 1 ≤ 100000000 := by omega
        have hP2 : (0 : Int) ≤ (P.length : Int) := by omega
        go_wp2_with fail
        refine (n_any W b _ _ hS.src (by omega) (by omega)).mono ?_
        rintro e w1 ⟨x, ⟨x1, x2⟩, rfl, s1, g1⟩
        have HS1 := hS.step s1 g1
        obtain ⟨base1, hb1, hown1⟩ := HS1.own
        have HCE := Lib.hid (nmc_cells hown1 rfl)
        have hgl : g < w1.heap.size := by
          rcases hown1.2 with ⟨e, _⟩ | ⟨g', cap', cur', e, _, hh', _⟩
          · cases e
          · injection e with e1 e2 e3
            injection e1 with e1
            injection e1 with e1
            subst e1
            exact (Array.getElem?_eq_some_iff.1 hh').1
        have S1 := Lib.hid HS1
        have HGL := Lib.hid hgl
        clear hS s1 g1 hown1 hb1 HS1 hgl
        obtain ⟨k, rfl⟩ := Int.eq_ofNat_of_zero_le x1
        have hk : k ≤ P.length := by omega
        have HKP := Lib.hid (insK_upto (k := k) HP.out)
        have HIL := Lib.hid (insK_len (x := (P.length : Int)) hk)
        clear x1 x2
        have KL := Lib.hid (show k ≤ P.length ∧ P.length ≤ 1000 ∧ P.length ≤ cap ∧ cap ≤ maxLen from ⟨hk, by omega, hle, hmax⟩)
        have k0 : (0 : Int) ≤ (k : Int) := by omega
        have k1 : (k : Int) ≤ (P.length : Int) := by omega
        have k2 : (k : Int) ≤ (cap : Int) := by omega
        have c1 : (P.length : Int) ≤ (cap : Int) := by omega
        have BA : Hid (Below w1.heap.size w1 (w1.alloc (.cells #[.int .i64 (P.length : Int)] 3))) := Lib.hid ((Below.refl _ _).alloc (Nat.le_refl _) _)
        have HA : Hid (∀ (j : Nat) (u : Value), (nmc P)[j]? = some u → (w1.alloc (.cells #[.int .i64 (P.length : Int)] 3)).cell? ⟨g, j, none⟩ = some u) := Lib.hid (fun j u hu => (BA.out.cell (p := ⟨g, j, none⟩) HGL.out).trans (HCE.out j u hu))
        by_cases hkl : k < P.length
        · have k3 : ¬ cap = k := by omega
          have HDL : Hid ((nmc (P.drop k)).length = (P.length - k) * 1 ∧ (nmc (P.take k)).length = k * 1) := Lib.hid ⟨by rw [nmc_len, List.length_drop], by rw [nmc_len, List.length_take]; omega⟩
          have HDL3 : Hid ((nmc ((P.length : Int) :: P.drop k)).length = (1 + (P.length - k)) * 1) := Lib.hid (by rw [nmc_len, List.length_cons, List.length_drop]; omega)
          clear hPp hle hmax hk
          go_wp2_with (at_builtin; first | go_loud (refine wpList_append_grows _ rfl (.tmp 20) (.tmp 23) 28 rfl 3 i0 _ 1 8 Tryd.underlying28 hi hz0 hz1 hz2 rfl (by decide) (some ⟨w1.heap.size, 0, none⟩) 1 1 (nmc [(P.length : Int)]) rfl (fun h => by cases h) rfl (fun b h => by cases h; exact (World.news_of_block (cs := #[.int .i64 (P.length : Int)]) (t := 3) (fr := (0, 0)) (heap_alloc_new w1 _))) ⟨g, k, none⟩ (P.length - k) (cap - k) (nmc (P.drop k)) rfl HDL.out.1 (fun j u hu => by rw [Addr.add_lit]; exact HA.out _ u (nmc_cut k j u hu)) (nmc_one _) (by omega) (by have := KL.out; unfold maxLen; omega) (by have := KL.out; omega) ?_; intro v2 w2 hown2 hgr2; have HO2 := Lib.hid hown2; have HG2 := Lib.hid (below_new hgr2); have HN2 := Lib.hid (own_some (C := (P.length : Int) :: P.drop k) (n := 1 + (P.length - k)) hown2 (Nat.lt_of_lt_of_le Nat.zero_lt_one (Nat.le_add_right _ _))); obtain ⟨g2, cap2, rfl, hg2, hc2, hm2⟩ := HN2.out; clear hown2 hgr2 HN2) | go_loud (refine wpList_append_grows _ rfl (.tmp 28) (.tmp 29) 28 rfl 3 i0 _ 1 8 Tryd.underlying28 hi hz0 hz1 hz2 rfl (by decide) (some ⟨g, 0, none⟩) k k (nmc (P.take k)) rfl (fun h => by cases h) HDL.out.2 (fun b h j u hu => by cases h; rw [Addr.add_lit, Nat.zero_add, (HG2.out.cell (p := ⟨g, j, none⟩) (Nat.lt_of_lt_of_le HGL.out BA.out.size))]; exact HA.out _ u (nmc_beg k j u hu)) ⟨g2, 0, none⟩ (1 + (P.length - k)) cap2 (nmc ((P.length : Int) :: P.drop k)) rfl HDL3.out (fun j u hu => by rw [Addr.add_lit, Nat.zero_add]; exact hc2 j u hu) (nmc_one _) (by omega) (by have := KL.out; unfold maxLen; omega) (by have := KL.out; omega) ?_; intro v3 w3 hown3 hgr3; have HO3 := Lib.hid hown3; have HG3 := Lib.hid (below_new hgr3); clear hown3 hgr3))
          go_roundw
          case rel => exact ⟨P.length + 1, insK k (P.length : Int) P, by omega, by go_num, HKP.out, S1.out.next (Q := insK k (P.length : Int) P) ((BA.out.trans (HG2.out.mono BA.out.size)).trans (HG3.out.mono (BA.out.trans (HG2.out.mono BA.out.size)).size)) (by have h := HO3.out; rw [← nmc_app] at h; exact h) (by rw [HIL.out]; omega) (BA.out.trans (HG2.out.mono BA.out.size)).size (by omega)⟩
          case measure => simp [intOf]; omega
        · obtain rfl : k = P.length := by omega
          clear hk hkl k1 k2
          by_cases hcap : cap = P.length
          · subst hcap
            go_wp2_with (at_builtin; first | (refine wpList_append_nothing _ rfl (.tmp 20) (.tmp 23) 28 rfl 3 i0 Tryd.underlying28 hi _ 1 1 (Nat.le_refl _) rfl _ rfl (Go.Src.ofSlice _ Tryd.underlying28 _ 0 _ [] (by simp) (fun j u h => by simp at h) (fun u h => by cases h)) ?_) | go_loud (refine wpList_append_grows _ rfl (.tmp 28) (.tmp 29) 28 rfl 3 i0 _ 1 8 Tryd.underlying28 hi hz0 hz1 hz2 rfl (by decide) (some ⟨g, 0, none⟩) P.length P.length (nmc P) rfl (fun h => by cases h) (nmc_len _) (fun b h j u hu => by cases h; rw [Addr.add_lit, Nat.zero_add]; exact HA.out j u hu) ⟨w1.heap.size, 0, none⟩ 1 1 (nmc [(P.length : Int)]) rfl rfl (World.news_of_block (cs := #[.int .i64 (P.length : Int)]) (t := 3) (fr := (0, 0)) (heap_alloc_new w1 _)) (nmc_one _) (by omega) (by unfold maxLen; omega) (by omega) ?_; intro v3 w3 hown3 hgr3; have HO3 := Lib.hid hown3; have HG3 := Lib.hid (below_new hgr3); clear hown3 hgr3))
            go_roundw
            case rel => exact ⟨P.length + 1, insK P.length (P.length : Int) P, by omega, by go_num, HKP.out, S1.out.next (Q := insK P.length (P.length : Int) P) (BA.out.trans (HG3.out.mono BA.out.size)) (by have h := HO3.out; rw [← nmc_app] at h; rw [show insK P.length (P.length : Int) P = P ++ [(P.length : Int)] by unfold insK; rw [List.take_length, List.drop_length]]; exact h) (by rw [HIL.out]) BA.out.size (by omega)⟩
            case measure => simp [intOf]; omega
          · have k3 : ¬ cap = P.length := hcap
            clear hcap
            go_wp2_with (at_builtin; first | (refine wpList_append_nothing _ rfl (.tmp 20) (.tmp 23) 28 rfl 3 i0 Tryd.underlying28 hi _ 1 1 (Nat.le_refl _) rfl _ rfl (Go.Src.ofSlice _ Tryd.underlying28 _ 0 _ [] (by simp) (fun j u h => by simp at h) (fun u h => by cases h)) ?_) | go_loud (refine wpList_append_grows _ rfl (.tmp 28) (.tmp 29) 28 rfl 3 i0 _ 1 8 Tryd.underlying28 hi hz0 hz1 hz2 rfl (by decide) (some ⟨g, 0, none⟩) P.length P.length (nmc P) rfl (fun h => by cases h) (nmc_len _) (fun b h j u hu => by cases h; rw [Addr.add_lit, Nat.zero_add]; exact HA.out j u hu) ⟨w1.heap.size, 0, none⟩ 1 1 (nmc [(P.length : Int)]) rfl rfl (World.news_of_block (cs := #[.int .i64 (P.length : Int)]) (t := 3) (fr := (0, 0)) (heap_alloc_new w1 _)) (nmc_one _) (by omega) (by unfold maxLen; omega) (by omega) ?_; intro v3 w3 hown3 hgr3; have HO3 := Lib.hid hown3; have HG3 := Lib.hid (below_new hgr3); clear hown3 hgr3))
            go_roundw
            case rel => exact ⟨P.length + 1, insK P.length (P.length : Int) P, by omega, by go_num, HKP.out, S1.out.next (Q := insK P.length (P.length : Int) P) (BA.out.trans (HG3.out.mono BA.out.size)) (by have h := HO3.out; rw [← nmc_app] at h; rw [show insK P.length (P.length : Int) P = P ++ [(P.length : Int)] by unfold insK; rw [List.take_length, List.drop_length]]; exact h) (by rw [HIL.out]) BA.out.size (by omega)⟩
            case measure => simp [intOf]; omega
    · have hie : i = n := by omega
      subst hie
      have HS := Lib.hid hS; clear hS
      go_wp2_with fail
      go_ret
      exact ⟨_, P, rfl, HP.out, HS.out⟩
end Go.Proofs.YtlakgkoohdfiaaaDoor
