/- The walk of ClimateFaces. -/
import Derived.Test.YtcheadbhkbbegaaDoorLfB
namespace Go.Proofs.YtcheadbhkbbegaaDoor
open Go.RowKit Go.Maps

set_option maxRecDepth 100000 in
set_option maxHeartbeats 8000000 in
theorem climateFaces_any (l : Value) (w : World) (hE : Env w) (hI : ListIn w l) :
    Calls Tryd.prog 6 #[l] w fun e w' => e = .returned (.bool true) ∧ Below w.heap.size w w' := by
  have HE := Lib.hid hE
  obtain ⟨i0, hi0, hz0, hz1, hz2⟩ := info_parts infoReport
  obtain ⟨i1, hi1, hy0, hy1, hy2⟩ := info_parts infoNormal
  clear hE
  go_enter Tryd.func6, Tryd.ntmps6
  go_wp2_with fail
  refine (new_any w l hI).mono ?_
  rintro e w1 ⟨rfl, s1, b1⟩
  obtain ⟨b, hb⟩ : ∃ b, w.heap.size = b := ⟨_, rfl⟩
  rw [hb] at s1 ⊢
  have HB := Lib.hid hb
  clear b1 hb hI
  go_wp2_with fail
  refine (minute_any w b _ s1).mono ?_
  rintro e w2 ⟨m, ⟨m1, m2⟩, rfl, s2, -⟩
  clear s1
  go_wp2_with fail
  refine (placed_any w b w2 m 4 s2 (by omega) m1 m2).mono ?_
  rintro e w3 ⟨R0, vr, rfl, hRl, hPL⟩
  have HBl := Lib.hid (src_lt s2)
  have HP1 := Lib.hid hPL
  clear hPL
  go_wp2_with fail
  refine (placed_any w b w3 m 4 HP1.out.src (by omega) m1 m2).mono ?_
  rintro e w4 ⟨S0, vs, rfl, hSl, hPS⟩
  obtain ⟨A, c1, rfl⟩ := row_form HP1.out.own
  obtain ⟨B, c2, rfl⟩ := row_form hPS.own
  have H4 : Hid (Fw w b m w2.heap.size A R0.length c1 R0 w3.heap.size B S0.length c2 S0 w4) := Lib.hid (by
    have h1 := HP1.out.step HBl.out hPS.src hPS.gro
    have hbl := HBl.out
    exact ⟨hPS.src, rfl, rfl, h1.own, hPS.own, h1.rds, hPS.rds, h1.val, hPS.val, hbl, by have := HP1.out.gro.size; omega, fun i hi => row_size HP1.out.own hi⟩)
  generalize hn1 : R0.length = n1 at *
  generalize hn2 : S0.length = n2 at *
  generalize w2.heap.size = b1 at *
  generalize w3.heap.size = b2 at *
  clear HP1 hPS s2 HBl
  go_wp2_with fail
  go_loopw [32] (fun t' wr => ∃ (i : Nat) (R : List Rp), i ≤ n1 ∧ t' = .int .i64 (i : Int) ∧ Hid (Ev 0 R i) ∧ Hid (Fw w b m b1 A n1 c1 R b2 B n2 c2 S0 wr)) (fun t' _ => n1 - (intOf t').toNat)
  case atStart => exact ⟨0, R0, Nat.zero_le _, rfl, Lib.hid (fun j hj h => by omega), H4⟩
  case round =>
    clear H4
    obtain ⟨i, R, hi, rfl, HV, H5⟩ := hrel
    by_cases hlt : i < n1
    · have k0 : (0 : Int) ≤ (i : Int) := by omega
      have k1 : (i : Int) < (n1 : Int) := by omega
      go_wp2_with fail
      refine (n_any w b _ 10 H5.out.src (by omega) (by omega)).mono ?_
      rintro e w6 ⟨x, ⟨x0, x1⟩, rfl, s6, g6⟩
      have H6 := Lib.hid (H5.out.step s6 g6)
      clear H5 s6 g6
      obtain ⟨g, hA⟩ := own_addr H6.out.o1 (by omega)
      subst hA
      have hiR : i < R.length := by rw [H6.out.l1]; exact hlt
      obtain ⟨⟨u3, a3⟩, f3⟩ := own_cells8 H6.out.o1 H6.out.l1 hiR 3 (by omega)
      obtain ⟨⟨u4, a4⟩, f4⟩ := own_cells8 H6.out.o1 H6.out.l1 hiR 4 (by omega)
      obtain ⟨⟨u5, a5⟩, f5⟩ := own_cells8 H6.out.o1 H6.out.l1 hiR 5 (by omega)
      obtain ⟨⟨u6, a6⟩, f6⟩ := own_cells8 H6.out.o1 H6.out.l1 hiR 6 (by omega)
      have H7 := Lib.hid (H6.out.put1 (F := 2 * x + 0) hiR (by omega) (by omega))
      have HV7 := Lib.hid (HV.out.set hiR x0 x1)
      generalize R.set i (atP R[i] (2 * x + 0)) = R7 at *
      clear H6 HV
      rw [Int.add_zero] at H7
      unfold putP at H7
      go_wp2_with fail
      go_roundw
      case rel => exact ⟨i + 1, R7, by omega, by go_num, HV7, H7⟩
      case measure => simp [intOf]; omega
    · obtain rfl : i = n1 := by omega
      have k1 : ¬ (i : Int) < (i : Int) := by omega
      rw [← H5.out.l1] at HV
      go_wp2_with fail
      go_loopw [46] (fun t' wr => ∃ (j : Nat) (S : List Rp), j ≤ n2 ∧ t' = .int .i64 (j : Int) ∧ Hid (Ev 1 S j) ∧ Hid (Fw w b m b1 A i c1 R b2 B n2 c2 S wr)) (fun t' _ => n2 - (intOf t').toNat)
      case atStart => exact ⟨0, S0, Nat.zero_le _, rfl, Lib.hid (fun j hj h => by omega), H5⟩
      case round =>
        clear H5
        obtain ⟨j, S, hj, rfl, HU, H5⟩ := hrel
        by_cases hlt : j < n2
        · have k0 : (0 : Int) ≤ (j : Int) := by omega
          have k2 : (j : Int) < (n2 : Int) := by omega
          go_wp2_with fail
          refine (n_any w b _ 10 H5.out.src (by omega) (by omega)).mono ?_
          rintro e w6 ⟨x, ⟨x0, x1⟩, rfl, s6, g6⟩
          have H6 := Lib.hid (H5.out.step s6 g6)
          clear H5 s6 g6
          obtain ⟨g, hA⟩ := own_addr H6.out.o2 (by omega)
          subst hA
          have hiR : j < S.length := by rw [H6.out.l2]; exact hlt
          obtain ⟨⟨u3, a3⟩, f3⟩ := own_cells8 H6.out.o2 H6.out.l2 hiR 3 (by omega)
          obtain ⟨⟨u4, a4⟩, f4⟩ := own_cells8 H6.out.o2 H6.out.l2 hiR 4 (by omega)
          obtain ⟨⟨u5, a5⟩, f5⟩ := own_cells8 H6.out.o2 H6.out.l2 hiR 5 (by omega)
          obtain ⟨⟨u6, a6⟩, f6⟩ := own_cells8 H6.out.o2 H6.out.l2 hiR 6 (by omega)
          have H7 := Lib.hid (H6.out.put2 (F := 2 * x + 1) hiR (by omega) (by omega))
          have HU7 := Lib.hid (HU.out.set hiR x0 x1)
          generalize S.set j (atP S[j] (2 * x + 1)) = S7 at *
          clear H6 HU
          unfold putP at H7
          rw [show 2 * x + 1 = 1 + 2 * x by omega] at H7
          go_wp2_with fail
          go_roundw
          case rel => exact ⟨j + 1, S7, by omega, by go_num, HU7, H7⟩
          case measure => simp [intOf]; omega
        · obtain rfl : j = n2 := by omega
          have k2 : ¬ (j : Int) < (j : Int) := by omega
          rw [← H5.out.l2] at HU
          have HDs := Lib.hid (ev_dis HV.out HU.out)
          clear HV HU
          have HErr : Hid (errC R = 0 ∧ errC S = 0 ∧ errC (R ++ S) = 0) := Lib.hid ⟨errC_of H5.out.p1, errC_of H5.out.p2, errC_of (m := m) (fun r hr => (List.mem_append.1 hr).elim (H5.out.p1 r) (H5.out.p2 r))⟩
          have HVL : Hid (∀ r ∈ R ++ S, r.L.length ≤ 40) := Lib.hid (fun r hr => by
            have : Pd m r := (List.mem_append.1 hr).elim (H5.out.p1 r) (H5.out.p2 r)
            have := vld_le11 this.2.2.1
            omega)
          have hl1 : R.length ≤ 4 := by rw [H5.out.l1]; omega
          have hl2 : S.length ≤ 4 := by rw [H5.out.l2]; omega
          have HF1 := Lib.hid (lrn_few HErr.out.1 (by omega))
          have HF2 := Lib.hid (lrn_few HErr.out.2.1 (by omega))
          have HF3 := Lib.hid (lrn_few HErr.out.2.2 (by rw [List.length_append]; omega))
          have HAl := Lib.hid (outC_app_len HDs.out 2640)
          have HAm := Lib.hid (fun (n : Cm.N5) (h : n ∈ outC (R ++ S) 2640) => outC_app_mem HDs.out h)
          have HSz : Hid ((outC R 2640).length ≤ 200 ∧ (outC S 2640).length ≤ 200) := Lib.hid ⟨(Cm.vldN_ok (by have := lrn_vld (R := R); rw [HF1.out] at this; exact this)).1, (Cm.vldN_ok (by have := lrn_vld (R := S); rw [HF2.out] at this; exact this)).1⟩
          clear HDs HErr
          generalize outC R 2640 = N1 at *
          generalize outC S 2640 = N2 at *
          generalize outC (R ++ S) 2640 = N3 at *
          go_wp2_with fail
          refine (learn_any (.slice A i c1) R _ (HE.out.under H5.out.src.below) H5.out.in1 (by omega) (fun r hr => HVL.out r (List.mem_append_left _ hr))).mono ?_
          rintro e w7 ⟨v, rfl, g7, o7⟩
          rw [HF1.out] at o7 ⊢
          obtain ⟨A1, d1, rfl⟩ := row_form o7
          dsimp only at o7 ⊢
          have b7 := (Below.refl w7.heap.size w7).alloc (Nat.le_refl _) (.cells #[.slice A1 N1.length d1] 24)
          have H7 : Hid (Fw w b m b1 A i c1 R b2 B j c2 S (w7.alloc (.cells #[.slice A1 N1.length d1] 24)) ∧ NrIn (w7.alloc (.cells #[.slice A1 N1.length d1] 24)) (.slice A1 N1.length d1) N1 ∧ Row (w7.alloc (.cells #[.slice A1 N1.length d1] 24)) w7.heap.size 24 #[.slice A1 N1.length d1]) := Lib.hid ⟨(H5.out.under g7).under b7, (NrIn.own o7).under b7, Row.new _ _ _⟩
          clear o7 g7 b7 H5
          go_upto_region 15 with fail
          refine forget (fun Y => Hid (Fw w b m b1 A i c1 R b2 B j c2 S Y ∧ NrIn Y (.slice A1 N1.length d1) N1 ∧ Row Y w7.heap.size 24 #[.slice A1 N1.length d1])) H7 ?_
          clear H7
          generalize w7.heap.size = ga at *
          rintro Y7 H7
          go_wp2_with fail
          refine (learn_any (.slice B j c2) S _ (HE.out.under H7.out.1.src.below) H7.out.1.in2 (by omega) (fun r hr => HVL.out r (List.mem_append_right _ hr))).mono ?_
          rintro e w8 ⟨v, rfl, g8, o8⟩
          rw [HF2.out] at o8 ⊢
          obtain ⟨A2, d2, rfl⟩ := row_form o8
          dsimp only at o8 ⊢
          have b8 := (Below.refl w8.heap.size w8).alloc (Nat.le_refl _) (.cells #[.slice A2 N2.length d2] 24)
          have H8 : Hid (Fw w b m b1 A i c1 R b2 B j c2 S (w8.alloc (.cells #[.slice A2 N2.length d2] 24)) ∧ (NrIn (w8.alloc (.cells #[.slice A2 N2.length d2] 24)) (.slice A1 N1.length d1) N1 ∧ Row (w8.alloc (.cells #[.slice A2 N2.length d2] 24)) ga 24 #[.slice A1 N1.length d1]) ∧ NrIn (w8.alloc (.cells #[.slice A2 N2.length d2] 24)) (.slice A2 N2.length d2) N2 ∧ Row (w8.alloc (.cells #[.slice A2 N2.length d2] 24)) w8.heap.size 24 #[.slice A2 N2.length d2]) := Lib.hid ⟨(H7.out.1.under g8).under b8, ⟨(H7.out.2.1.under g8).under b8, (H7.out.2.2.under g8).under b8⟩, (NrIn.own o8).under b8, Row.new _ _ _⟩
          clear o8 g8 b8 H7
          go_upto_region 16 with fail
          refine forget (fun Y => Hid (Fw w b m b1 A i c1 R b2 B j c2 S Y ∧ (NrIn Y (.slice A1 N1.length d1) N1 ∧ Row Y ga 24 #[.slice A1 N1.length d1]) ∧ NrIn Y (.slice A2 N2.length d2) N2 ∧ Row Y w8.heap.size 24 #[.slice A2 N2.length d2])) H8 ?_
          clear H8
          generalize w8.heap.size = gb at *
          rintro Z H8
          have b9 := (Below.refl Z.heap.size Z).alloc (Nat.le_refl _) (.cells #[] 38)
          have B9 := Lib.hid b9
          have HO0 := Lib.hid (own_empty8 Z)
          have H9 := Lib.hid (H8.out.1.under b9)
          have HN1 := Lib.hid (own_news8 H9.out.o1 H9.out.l1)
          have HL1 : Hid ((rpc R).length = i * 8 ∧ (rpc S).length = j * 8) := Lib.hid ⟨by rw [rpc_len, H8.out.1.l1], by rw [rpc_len, H8.out.1.l2]⟩
          have HO1 : Hid ((∀ u ∈ rpc R, u.oneCell' = true) ∧ ∀ u ∈ rpc S, u.oneCell' = true) := Lib.hid ⟨rps_one H8.out.1.in1, rps_one H8.out.1.in2⟩
          have hi4 : i ≤ 4 := by rw [← H8.out.1.l1]; exact hl1
          have hj4 : j ≤ 4 := by rw [← H8.out.1.l2]; exact hl2
          clear b9
          go_wp2_with (at_builtin; first | go_loud (refine wpList_append_opt rfl (.tmp 70) (.tmp 71) 25 rfl Z.heap.size 38 i0 (repV 0 ⟨#[]⟩ 0 0 0 0 0 (.slice none 0 0)) 8 88 Tryd.underlying25 hi0 hz0 hz1 hz2 rfl (by decide) (.slice (some ⟨Z.heap.size, 0, none⟩) 0 0) 0 [] rfl HO0.out A i c1 (rpc R) rfl HL1.out.1 HN1.out.1 HN1.out.2 HO1.out.1 (by unfold maxLen; omega) (by omega) B9.out.size ?_; intro v1 x1 p1 q1; have HX1 := Lib.hid p1; have BX1 := Lib.hid (El.below_own B9.out B9.out.size HO0.out q1); have HN2 := Lib.hid (own_news8 (H8.out.1.under BX1.out).o2 H8.out.1.l2); clear p1 q1) | go_loud (refine wpList_append_opt rfl (.tmp 72) (.tmp 73) 25 rfl Z.heap.size 38 i0 (repV 0 ⟨#[]⟩ 0 0 0 0 0 (.slice none 0 0)) 8 88 Tryd.underlying25 hi0 hz0 hz1 hz2 rfl (by decide) v1 (0 + i) ([] ++ rpc R) rfl HX1.out B j c2 (rpc S) rfl HL1.out.2 HN2.out.1 HN2.out.2 HO1.out.2 (by unfold maxLen; omega) (by omega) BX1.out.size ?_; intro v2 x2 p2 q2; have HX2 := Lib.hid p2; have BX2 := Lib.hid (El.below_own BX1.out BX1.out.size HX1.out q2); clear p2 q2))
          have HRS : Hid (RpsIn x2 v2 (R ++ S)) := Lib.hid (RpsIn.own (by have h := HX2.out; rw [List.nil_append, ← rpc_app2, Nat.zero_add, ← H8.out.1.l1, ← H8.out.1.l2, ← List.length_append] at h; exact h) (fun r hr => by
            rcases List.mem_append.1 hr with hr | hr
            · obtain ⟨base, -, ho⟩ := H8.out.1.d1 r hr; exact El.RdIn.under (El.RdIn.own ho) BX2.out
            · obtain ⟨base, -, ho⟩ := H8.out.1.d2 r hr; exact El.RdIn.under (El.RdIn.own ho) BX2.out))
          refine (learn_any v2 (R ++ S) x2 (HE.out.under (H8.out.1.under BX2.out).src.below) HRS.out (by rw [List.length_append]; omega) HVL.out).mono ?_
          rintro e w9 ⟨v, rfl, g9, o9⟩
          rw [HF3.out] at o9 ⊢
          obtain ⟨A3, d3, rfl⟩ := row_form o9
          dsimp only at o9 ⊢
          have b10 := (Below.refl w9.heap.size w9).alloc (Nat.le_refl _) (.cells #[.slice A3 N3.length d3] 24)
          have H10 : Hid (Lg w N1 A1 d1 ga N2 A2 d2 gb N3 A3 d3 w9.heap.size (w9.alloc (.cells #[.slice A3 N3.length d3] 24))) := Lib.hid (by
            have hb : Below Z.heap.size Z (w9.alloc (.cells #[.slice A3 N3.length d3] 24)) := (BX2.out.trans (g9.mono BX2.out.size)).trans (b10.mono (BX2.out.trans (g9.mono BX2.out.size)).size)
            exact ⟨(H8.out.1.under hb).src.below, H8.out.2.1.1.under hb, H8.out.2.1.2.under hb, H8.out.2.2.1.under hb, H8.out.2.2.2.under hb, (NrIn.own o9).under b10, Row.new _ _ _⟩)
          clear o9 g9 b10 HX1 BX1 HN2 HX2 BX2 HRS H8 H9 HN1 HL1 HO1 HO0 B9 HF1 HF2 HF3 HVL hi4 hj4 hl1 hl2
          go_upto_region 17 with fail
          refine forget (fun Y => Hid (Lg w N1 A1 d1 ga N2 A2 d2 gb N3 A3 d3 w9.heap.size Y)) H10 ?_
          clear H10
          generalize w9.heap.size = gc at *
          rintro Y10 H10
          have q0 := (H10.out.r1.cell 0).trans rfl
          have q1 := (H10.out.r2.cell 0).trans rfl
          have q2 := (H10.out.r3.cell 0).trans rfl
          have l1 : N1.length ≤ 200 := HSz.out.1
          have l2 : N2.length ≤ 200 := HSz.out.2
          have kL : ((N3.length : Int) != (N1.length : Int) + (N2.length : Int)) = false := by rw [bne_eq_false_iff_eq]; have := HAl.out; omega
          have l3' : N3.length ≤ 400 := by have := HAl.out; omega
          go_wp2_with fail
          clear q0 q1 q2 kL
          go_loopw [104] (fun t' wr => ∃ k : Nat, k ≤ N3.length ∧ t' = .int .i64 (k : Int) ∧ Hid (Lg w N1 A1 d1 ga N2 A2 d2 gb N3 A3 d3 gc wr)) (fun t' _ => N3.length - (intOf t').toNat)
          case atStart => exact ⟨0, Nat.zero_le _, rfl, H10⟩
          case round =>
            clear H10
            obtain ⟨k, hk, rfl, H11⟩ := hrel
            by_cases hlt : k < N3.length
            · obtain ⟨g, off, hA, hgl, c0, c1', c2', c3, c4⟩ := NrIn.at H11.out.i3 hlt
              subst hA
              have k0 : (0 : Int) ≤ (k : Int) := by omega
              have k3 : (k : Int) < (N3.length : Int) := by omega
              have HIn := Lib.hid (HAm.out _ (List.getElem_mem hlt))
              generalize N3[k] = n at *
              obtain ⟨n0, n1, n2, n3, n4⟩ := n
              simp only at c0 c1' c2' c3 c4
              have b1 := (Below.refl wr.heap.size wr).alloc (Nat.le_refl _) (.cells #[.int .i64 n0, .int .i64 n1, .int .i64 n2, .int .i64 n3, .int .i64 n4] 50)
              have I1 : Hid (Lg w N1 A1 d1 ga N2 A2 d2 gb N3 (some ⟨g, off, none⟩) d3 gc (wr.alloc (.cells #[.int .i64 n0, .int .i64 n1, .int .i64 n2, .int .i64 n3, .int .i64 n4] 50)) ∧ Row (wr.alloc (.cells #[.int .i64 n0, .int .i64 n1, .int .i64 n2, .int .i64 n3, .int .i64 n4] 50)) wr.heap.size 50 #[.int .i64 n0, .int .i64 n1, .int .i64 n2, .int .i64 n3, .int .i64 n4]) := Lib.hid ⟨H11.out.under b1, Row.new _ _ _⟩
              clear b1 H11
              go_upto_region 22 with fail
              refine forget (fun Y => Hid (Lg w N1 A1 d1 ga N2 A2 d2 gb N3 (some ⟨g, off, none⟩) d3 gc Y ∧ Row Y wr.heap.size 50 #[.int .i64 n0, .int .i64 n1, .int .i64 n2, .int .i64 n3, .int .i64 n4])) I1 ?_
              clear I1 c0 c1' c2' c3 c4
              generalize wr.heap.size = gn at *
              rintro Y I1
              have q0 := (I1.out.1.r1.cell 0).trans rfl
              have q1 := (I1.out.1.r2.cell 0).trans rfl
              have I2 := Lib.hid (And.intro (I1.out.1.under (show Below Y.heap.size Y Y.drew from ⟨rfl, rfl, rfl, Nat.le_refl _, fun _ _ => rfl⟩)) (I1.out.2.under (show Below Y.heap.size Y Y.drew from ⟨rfl, rfl, rfl, Nat.le_refl _, fun _ _ => rfl⟩)))
              go_upto_region 23 with fail
              refine wp_region_held_drew (S := fun w' : World => w'.cell? ⟨ga, 0, none⟩ = some (.slice A1 N1.length d1) ∧ w'.cell? ⟨gb, 0, none⟩ = some (.slice A2 N2.length d2)) (by kernel_rfl) ⟨q0, q1⟩ (fun hHeld => ?_)
              clear I1 q0 q1
              generalize Y.drew = X at *
              have b2 := (Below.refl X.heap.size X).alloc (Nat.le_refl _) (.cells #[] 50)
              have B2 := Lib.hid b2
              have J0 := Lib.hid (own_empty X)
              have HQ1 := Lib.hid (nr_news (I2.out.1.i1.under b2))
              refine tk 1 (oi := ⟨some 109, _, _, _, _, none⟩) rfl ?_
              try go_frame
              refine tk 2 (oi := ⟨some 110, _, _, _, _, none⟩) rfl ?_
              try go_frame
              refine tk 4 (oi := ⟨some 112, _, _, _, _, none⟩) rfl ?_
              try go_frame
              refine tk 5 (oi := ⟨some 113, _, _, _, _, none⟩) rfl ?_
              try go_frame
              refine tk 8 (oi := ⟨some 116, _, _, _, _, none⟩) rfl ?_
              try go_frame
              refine wpAnyH_ready (rs := [0]) (by kernel_rfl) (by simp) ?_
              refine AllReadyH.cons (o := ⟨some 108, _, _, _, _, none⟩) rfl (fun KK hKK => ?_) AllReadyH.nil
              go_simp
              refine hKK.out _ _ ⟨((I2.out.1.under B2.out).r1.cell 0).trans rfl, ((I2.out.1.under B2.out).r2.cell 0).trans rfl⟩ (fun hHeld => ?_)
              clear hKK KK b2
              try simp only [Act.put, List.setIfInBounds_toArray, List.set_cons_zero, List.set_cons_succ]
              refine wpAnyH_ready (rs := [3]) (by kernel_rfl) (by simp) ?_
              refine AllReadyH.cons (o := ⟨some 111, _, _, _, _, none⟩) rfl (fun KK hKK => ?_) AllReadyH.nil
              refine step_append_opt rfl (.tmp 108) (.tmp 110) 22 rfl X.heap.size 50 i1 (nV (0, 0, 0, 0, 0)) 5 40 Tryd.underlying22 hi1 hy0 hy1 hy2 rfl (by decide) (.slice (some ⟨X.heap.size, 0, none⟩) 0 0) 0 [] rfl J0.out A1 N1.length d1 (nrc N1) rfl (nrc_len5 N1) HQ1.out.2.1 HQ1.out.2.2 (nrc_one N1) (by unfold maxLen; omega) (by omega) B2.out.size ?_
              intro v1 x1 p1 q1
              have B3 := Lib.hid (El.below_own B2.out B2.out.size J0.out q1)
              have J1 := Lib.hid p1
              have HQ2 := Lib.hid (nr_news (I2.out.1.i2.under B3.out))
              clear p1 q1
              refine hKK.out _ _ ⟨((I2.out.1.under B3.out).r1.cell 0).trans rfl, ((I2.out.1.under B3.out).r2.cell 0).trans rfl⟩ (fun hHeld => ?_)
              clear hKK KK
              try simp only [Act.put, List.setIfInBounds_toArray, List.set_cons_zero, List.set_cons_succ]
              refine wpAnyH_ready (rs := [6]) (by kernel_rfl) (by simp) ?_
              refine AllReadyH.cons (o := ⟨some 114, _, _, _, _, none⟩) rfl (fun KK hKK => ?_) AllReadyH.nil
              refine step_append_opt rfl (.tmp 111) (.tmp 113) 22 rfl X.heap.size 50 i1 (nV (0, 0, 0, 0, 0)) 5 40 Tryd.underlying22 hi1 hy0 hy1 hy2 rfl (by decide) v1 (0 + N1.length) ([] ++ nrc N1) rfl J1.out A2 N2.length d2 (nrc N2) rfl (nrc_len5 N2) HQ2.out.2.1 HQ2.out.2.2 (nrc_one N2) (by unfold maxLen; omega) (by omega) B3.out.size ?_
              intro v2 x2 p2 q2
              have B4 := Lib.hid (El.below_own B3.out B3.out.size J1.out q2)
              have p3 : x2.ownsRow X.heap.size 50 5 v2 (N1 ++ N2).length (nrc (N1 ++ N2)) := by
                have h := p2
                rw [List.nil_append, Nat.zero_add, ← List.length_append, ← nrc_app2] at h
                exact h
              obtain ⟨A9, d9, rfl⟩ := row_form p3
              have hNN : (N1 ++ N2).length ≤ 400 := by rw [List.length_append]; omega
              generalize hNQ : N1 ++ N2 = NN at *
              have I3 : Hid (Lg w N1 A1 d1 ga N2 A2 d2 gb N3 (some ⟨g, off, none⟩) d3 gc x2 ∧ NrIn x2 (.slice A9 NN.length d9) NN ∧ Row x2 gn 50 #[.int .i64 n0, .int .i64 n1, .int .i64 n2, .int .i64 n3, .int .i64 n4]) := Lib.hid ⟨I2.out.1.under B4.out, NrIn.own p3, I2.out.2.under B4.out⟩
              refine hKK.out _ _ ⟨(I3.out.1.r1.cell 0).trans rfl, (I3.out.1.r2.cell 0).trans rfl⟩ (fun hHeld => ?_)
              clear hKK KK p2 q2 p3 I2 B2 B3 B4 J0 J1 HQ1 HQ2 hNQ
              try simp only [Act.put, List.setIfInBounds_toArray, List.set_cons_zero, List.set_cons_succ]
              refine tk 7 (oi := ⟨some 115, _, _, _, _, none⟩) rfl ?_
              try go_frame
              refine wpAnyH_done (by kernel_rfl) ?_ _
              clear hHeld
              go_wp2_with fail
              go_loopw [17, 116] (fun fv t' wr => ∃ (j : Nat) (fb : Bool), j ≤ NN.length ∧ fv = .bool fb ∧ t' = .int .i64 (j : Int) ∧ Hid (fb = decide ((n0, n1, n2, n3, n4) ∈ NN.take j)) ∧ Hid (Lg w N1 A1 d1 ga N2 A2 d2 gb N3 (some ⟨g, off, none⟩) d3 gc wr ∧ NrIn wr (.slice A9 NN.length d9) NN ∧ Row wr gn 50 #[.int .i64 n0, .int .i64 n1, .int .i64 n2, .int .i64 n3, .int .i64 n4])) (fun _ t' _ => NN.length - (intOf t').toNat)
              case atStart => exact ⟨0, false, Nat.zero_le _, rfl, rfl, Lib.hid (by simp), I3⟩
              case round =>
                clear I3
                obtain ⟨j, fb, hj, rfl, rfl, HF, I4⟩ := hrel
                by_cases hjl : j < NN.length
                · obtain ⟨gz, oz, hA, hgz, e0, e1, e2, e3, e4⟩ := NrIn.at I4.out.2.1 hjl
                  subst hA
                  have j0 : (0 : Int) ≤ (j : Int) := by omega
                  have j1 : (j : Int) < (NN.length : Int) := by omega
                  have HTk := Lib.hid (in_take (n := (n0, n1, n2, n3, n4)) hjl)
                  generalize NN[j] = mm at *
                  obtain ⟨m0, m1, m2, m3, m4⟩ := mm
                  simp only at e0 e1 e2 e3 e4
                  have b1 := (Below.refl wr.heap.size wr).alloc (Nat.le_refl _) (.cells #[.int .i64 m0, .int .i64 m1, .int .i64 m2, .int .i64 m3, .int .i64 m4] 50)
                  have I5 : Hid ((Lg w N1 A1 d1 ga N2 A2 d2 gb N3 (some ⟨g, off, none⟩) d3 gc (wr.alloc (.cells #[.int .i64 m0, .int .i64 m1, .int .i64 m2, .int .i64 m3, .int .i64 m4] 50)) ∧ NrIn (wr.alloc (.cells #[.int .i64 m0, .int .i64 m1, .int .i64 m2, .int .i64 m3, .int .i64 m4] 50)) (.slice (some ⟨gz, oz, none⟩) NN.length d9) NN ∧ Row (wr.alloc (.cells #[.int .i64 m0, .int .i64 m1, .int .i64 m2, .int .i64 m3, .int .i64 m4] 50)) gn 50 #[.int .i64 n0, .int .i64 n1, .int .i64 n2, .int .i64 n3, .int .i64 n4]) ∧ Row (wr.alloc (.cells #[.int .i64 m0, .int .i64 m1, .int .i64 m2, .int .i64 m3, .int .i64 m4] 50)) wr.heap.size 50 #[.int .i64 m0, .int .i64 m1, .int .i64 m2, .int .i64 m3, .int .i64 m4]) := Lib.hid ⟨⟨I4.out.1.under b1, I4.out.2.1.under b1, I4.out.2.2.under b1⟩, Row.new _ _ _⟩
                  clear b1 I4
                  go_upto_region 26 with fail
                  refine forget (fun Y => Hid ((Lg w N1 A1 d1 ga N2 A2 d2 gb N3 (some ⟨g, off, none⟩) d3 gc Y ∧ NrIn Y (.slice (some ⟨gz, oz, none⟩) NN.length d9) NN ∧ Row Y gn 50 #[.int .i64 n0, .int .i64 n1, .int .i64 n2, .int .i64 n3, .int .i64 n4]) ∧ Row Y wr.heap.size 50 #[.int .i64 m0, .int .i64 m1, .int .i64 m2, .int .i64 m3, .int .i64 m4])) I5 ?_
                  clear I5 e0 e1 e2 e3 e4
                  generalize wr.heap.size = gm at *
                  rintro Y5 I5
                  obtain ⟨y0, y1, y2, y3, y4⟩ := row5 I5.out.1.2.2
                  obtain ⟨z0, z1, z2, z3, z4⟩ := row5 I5.out.2
                  have I6 := Lib.hid I5.out.1
                  clear I5
                  cases fb with
                  | true =>
                    have HS5 : Hid (true = decide ((n0, n1, n2, n3, n4) ∈ NN.take (j + 1))) := Lib.hid (decide_eq_true (HTk.out.2 (.inl (of_decide_eq_true HF.out.symm)))).symm
                    clear HF HTk
                    go_wp2_with fail
                    go_roundw
                    case rel => exact ⟨j + 1, true, by omega, rfl, by go_num, HS5, I6⟩
                    case measure => simp [intOf]; omega
                  | false =>
                    rcases five_cases n0 n1 n2 n3 n4 m0 m1 m2 m3 m4 with ⟨rfl, rfl, rfl, rfl, rfl⟩ | h | ⟨rfl, h⟩ | ⟨rfl, rfl, h⟩ | ⟨rfl, rfl, rfl, h⟩ | ⟨rfl, rfl, rfl, rfl, h⟩
                    · have HS5 : Hid (true = decide ((m0, m1, m2, m3, m4) ∈ NN.take (j + 1))) := Lib.hid (decide_eq_true (HTk.out.2 (.inr rfl))).symm
                      clear HF HTk
                      go_wp2_with fail
                      go_roundw
                      case rel => exact ⟨j + 1, true, by omega, rfl, by go_num, HS5, I6⟩
                      case measure => simp [intOf]; omega
                    · have HS5 : Hid (false = decide ((n0, n1, n2, n3, n4) ∈ NN.take (j + 1))) := Lib.hid (decide_eq_false (fun hh => (HTk.out.1 hh).elim (of_decide_eq_false HF.out.symm) (fun e => by simp only [Prod.mk.injEq] at e; omega))).symm
                      clear HF HTk
                      go_wp2_with fail
                      go_roundw
                      case rel => exact ⟨j + 1, false, by omega, rfl, by go_num, HS5, I6⟩
                      case measure => simp [intOf]; omega
                    · have HS5 : Hid (false = decide ((m0, n1, n2, n3, n4) ∈ NN.take (j + 1))) := Lib.hid (decide_eq_false (fun hh => (HTk.out.1 hh).elim (of_decide_eq_false HF.out.symm) (fun e => by simp only [Prod.mk.injEq] at e; omega))).symm
                      clear HF HTk
                      go_wp2_with fail
                      go_roundw
                      case rel => exact ⟨j + 1, false, by omega, rfl, by go_num, HS5, I6⟩
                      case measure => simp [intOf]; omega
                    · have HS5 : Hid (false = decide ((m0, m1, n2, n3, n4) ∈ NN.take (j + 1))) := Lib.hid (decide_eq_false (fun hh => (HTk.out.1 hh).elim (of_decide_eq_false HF.out.symm) (fun e => by simp only [Prod.mk.injEq] at e; omega))).symm
                      clear HF HTk
                      go_wp2_with fail
                      go_roundw
                      case rel => exact ⟨j + 1, false, by omega, rfl, by go_num, HS5, I6⟩
                      case measure => simp [intOf]; omega
                    · have HS5 : Hid (false = decide ((m0, m1, m2, n3, n4) ∈ NN.take (j + 1))) := Lib.hid (decide_eq_false (fun hh => (HTk.out.1 hh).elim (of_decide_eq_false HF.out.symm) (fun e => by simp only [Prod.mk.injEq] at e; omega))).symm
                      clear HF HTk
                      go_wp2_with fail
                      go_roundw
                      case rel => exact ⟨j + 1, false, by omega, rfl, by go_num, HS5, I6⟩
                      case measure => simp [intOf]; omega
                    · have HS5 : Hid (false = decide ((m0, m1, m2, m3, n4) ∈ NN.take (j + 1))) := Lib.hid (decide_eq_false (fun hh => (HTk.out.1 hh).elim (of_decide_eq_false HF.out.symm) (fun e => by simp only [Prod.mk.injEq] at e; omega))).symm
                      clear HF HTk
                      go_wp2_with fail
                      go_roundw
                      case rel => exact ⟨j + 1, false, by omega, rfl, by go_num, HS5, I6⟩
                      case measure => simp [intOf]; omega
                · obtain rfl : j = NN.length := by omega
                  have j1 : ¬ (NN.length : Int) < (NN.length : Int) := by omega
                  obtain rfl : fb = true := by rw [HF.out, List.take_length]; exact decide_eq_true HIn.out
                  have I6 := Lib.hid I4.out.1
                  clear I4 HF
                  go_wp2_with fail
                  go_roundw
                  case rel => exact ⟨k + 1, by omega, by go_num, I6⟩
                  case measure => simp [intOf]; omega
            · obtain rfl : k = N3.length := by omega
              have k3 : ¬ (N3.length : Int) < (N3.length : Int) := by omega
              have HW := Lib.hid H11.out.below
              clear H11
              go_wp2_with fail
              refine (awake13 wr (HE.out.under HW.out)).mono ?_
              rintro e w12 ⟨rfl, g12⟩
              have HB2 := Lib.hid (HW.out.trans (g12.mono HW.out.size))
              clear g12 HW
              go_wp2_with fail
              go_ret
              exact ⟨rfl, HB2.out⟩
end Go.Proofs.YtcheadbhkbbegaaDoor
