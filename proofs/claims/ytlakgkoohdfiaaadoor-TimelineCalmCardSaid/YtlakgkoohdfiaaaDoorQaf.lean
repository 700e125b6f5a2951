/- Texts of this proof. -/
import Derived.Test.YtlakgkoohdfiaaaDoorPRefB
namespace Go.Proofs.YtlakgkoohdfiaaaDoor.Pl
open Go.RowKit

set_option maxRecDepth 100000 in
set_option maxHeartbeats 2000000 in
theorem on_any (f n : Nat) (a b c : Int) (r : Bool) (w : World) (hv : Ico.Vld f a b c) (hlt : n < 20) (hr : Ico.ok f a b c n = r) :
    Calls Tryd.prog 117 #[.int .i64 n, .agg (wa f a b c)] w fun e w' => e = .returned (.tuple #[.agg #[.int .i64 n, .int .i64 (Ico.wt f a b c (Ico.cor n 0)), .int .i64 (Ico.wt f a b c (Ico.cor n 1)), .int .i64 (Ico.wt f a b c (Ico.cor n 2))], .bool r]) ∧ Below w.heap.size w w' := by
  obtain ⟨y1, y2⟩ := Ico.wt_bd hv (Ico.cor n 0)
  obtain ⟨z1, z2⟩ := Ico.wt_bd hv (Ico.cor n 1)
  obtain ⟨x1, x2⟩ := Ico.wt_bd hv (Ico.cor n 2)
  have R : Hid ((Ico.wt f a b c (Ico.cor n 0) + Ico.wt f a b c (Ico.cor n 1) + Ico.wt f a b c (Ico.cor n 2) == 840) = r) := Lib.hid (by rw [← hr]; unfold Ico.ok Ico.sm; rw [Bool.eq_iff_iff]; simp)
  clear hr hv
  go_enter Tryd.func117, Tryd.ntmps117
  go_upto_region 2 with (go_at_call 136; refine (refCorners_yes _ _ hlt).mono ?_; rintro e w4 ⟨rfl, hb4⟩)
  have r1 : Row w4 w.heap.size 65 (wa f a b c) := ((Row.new w _ _).alloc _).under hb4
  have r2 : Row w4 (w.heap.size + 1) 27 #[.int .i64 0, .int .i64 0, .int .i64 0, .int .i64 0] := (Row.newAt (by simp)).under hb4
  have b1 : Below w.heap.size w w4 := (((Below.refl _ _).alloc (Nat.le_refl _) _).alloc (by simp) _).trans (hb4.mono (by simp; omega))
  refine forget (fun Y => Below w.heap.size w Y ∧ Row Y w.heap.size 65 (wa f a b c) ∧ Row Y (w.heap.size + 1) 27 #[.int .i64 0, .int .i64 0, .int .i64 0, .int .i64 0] ∧ Row Y w4.heap.size 192 #[.int .i64 (Ico.cor n 0), .int .i64 (Ico.cor n 1), .int .i64 (Ico.cor n 2)]) ⟨b1.alloc b1.size _, r1.alloc _, r2.alloc _, Row.new _ _ _⟩ ?_
  clear r1 r2 b1 hb4
  generalize w4.heap.size = go at *
  rintro Y ⟨bY, r1, r2, r4⟩
  have hge : w.heap.size ≤ w.heap.size + 1 := by omega
  generalize w.heap.size + 1 = gr at *
  obtain ⟨q0, q1, q2⟩ := row3 r4
  have l0 := Ico.cor_lt n 0
  have l1 := Ico.cor_lt n 1
  have l2 := Ico.cor_lt n 2
  have m0 := (r1.cell (Ico.cor n 0)).trans (wa_at f a b c _ l0)
  have m1 := (r1.cell (Ico.cor n 1)).trans (wa_at f a b c _ l1)
  have m2 := (r1.cell (Ico.cor n 2)).trans (wa_at f a b c _ l2)
  have n0 : (0 : Int) ≤ (Ico.cor n 0 : Int) ∧ (Ico.cor n 0 : Int) < 12 := by omega
  have n1 : (0 : Int) ≤ (Ico.cor n 1 : Int) ∧ (Ico.cor n 1 : Int) < 12 := by omega
  have n2 : (0 : Int) ≤ (Ico.cor n 2 : Int) ∧ (Ico.cor n 2 : Int) < 12 := by omega
  obtain ⟨n00, n01⟩ := n0
  obtain ⟨n10, n11⟩ := n1
  obtain ⟨n20, n21⟩ := n2
  have R2 := Lib.hid r2; clear r2 r1 r4
  obtain ⟨gw, hgw⟩ : ∃ g, w.heap.size = g := ⟨_, rfl⟩
  rw [hgw] at m0 m1 m2 ⊢
  have HGW := Lib.hid hgw; clear hgw
  go_region_held3 (fun w' => (w'.cell? ⟨go, 0, none⟩ = some (.int .i64 (Ico.cor n 0)) ∧ w'.cell? ⟨go, 1, none⟩ = some (.int .i64 (Ico.cor n 1)) ∧ w'.cell? ⟨go, 2, none⟩ = some (.int .i64 (Ico.cor n 2))) ∧ w'.cell? ⟨gw, Ico.cor n 0, none⟩ = some (.int .i64 (Ico.wt f a b c (Ico.cor n 0))) ∧ w'.cell? ⟨gw, Ico.cor n 1, none⟩ = some (.int .i64 (Ico.wt f a b c (Ico.cor n 1))) ∧ w'.cell? ⟨gw, Ico.cor n 2, none⟩ = some (.int .i64 (Ico.wt f a b c (Ico.cor n 2))))
    (go_keep) (fail)
  go_upto_region 3 with fail
  have hlr := R2.out.lt
  refine forget (fun Z => Below w.heap.size w Z ∧ Row Z gr 27 #[.int .i64 0, .int .i64 0, .int .i64 0, .int .i64 0] ∧ Row Z Y.heap.size 27 #[.int .i64 n, .int .i64 (Ico.wt f a b c (Ico.cor n 0)), .int .i64 (Ico.wt f a b c (Ico.cor n 1)), .int .i64 (Ico.wt f a b c (Ico.cor n 2))] ∧ gr ≠ Y.heap.size) ⟨(bY.alloc bY.size _).drew, (R2.out.alloc _).drew, (Row.new _ _ _).drew, by omega⟩ ?_
  clear R2 q0 q1 q2 m0 m1 m2 n00 n01 n10 n11 n20 n21 l0 l1 l2 bY hlr
  generalize Y.heap.size = gq at *
  rintro Z ⟨bZ, rr, rq, hne⟩
  generalize hA : Ico.wt f a b c (Ico.cor n 0) = A at *
  generalize hB : Ico.wt f a b c (Ico.cor n 1) = B at *
  generalize hC : Ico.wt f a b c (Ico.cor n 2) = C at *
  have HA := Lib.hid hA; clear hA
  have HB := Lib.hid hB; clear hB
  have HC := Lib.hid hC; clear hC
  obtain ⟨c0, c1, c2, c3⟩ := row4 rq
  obtain ⟨d0, d1, d2, d3⟩ := row4 rr
  have t0 := rr.thaw 0
  have t1 := rr.thaw 1
  have t2 := rr.thaw 2
  have t3 := rr.thaw 3
  have RR := Lib.hid rr; clear rr rq
  rw [HGW.out] at bZ hge
  go_region
  go_wp2_with fail
  refine bodyPost_ret (v := .tuple #[.agg #[.int .i64 n, .int .i64 A, .int .i64 B, .int .i64 C], .bool (A + B + C == 840)]) (by simp [results, Tryd.results117, d0, d1, d2, d3, go_sem]) rfl ⟨by rw [HA.out, HB.out, HC.out, R.out], ?_⟩
  rw [HGW.out]
  exact (set4_below bZ hge).drew
end Go.Proofs.YtlakgkoohdfiaaaDoor.Pl


namespace Go.Proofs.YtlakgkoohdfiaaaDoor.Pl
open Go.RowKit

set_option maxRecDepth 100000 in
set_option maxHeartbeats 2000000 in
theorem refAddresses_no (F a b c : Int) (w : World) (hv : vb F a b c = false) :
    Calls Tryd.prog 93 #[.agg #[.int .i64 F, .int .i64 a, .int .i64 b, .int .i64 c]] w fun e w' => e = .returned (.tuple #[.slice none 0 0, .int .i64 1]) ∧ Below w.heap.size w w' := by
  go_enter Tryd.func93, Tryd.ntmps93
  go_wp2_with (go_at_call 74; refine (refValid_from _ _ _ _ w _ ((Below.refl _ _).alloc (Nat.le_refl _) _)).mono ?_; rintro e w2 ⟨rfl, hb2⟩)
  go_ret2
  exact ⟨rfl, hb2⟩
set_option maxRecDepth 100000 in
set_option maxHeartbeats 2000000 in
theorem refAddresses_yes (f : Nat) (a b c : Int) (w : World) (hv : Ico.Vld f a b c) :
    Calls Tryd.prog 93 #[.agg #[.int .i64 f, .int .i64 a, .int .i64 b, .int .i64 c]] w fun e w' => ∃ v, e = .returned (.tuple #[v, .int .i64 0]) ∧ Below w.heap.size w w' ∧ w'.ownsRow w.heap.size 27 4 v (Ico.fcs f a b c 20).length (pls f a b c 20) := by
  obtain ⟨i0, hi, hz0, hz1, hz2⟩ := info_parts infoPlace
  have v1 := vb_of hv
  have HV := Lib.hid hv
  have hf := hv.1
  clear hv
  go_enter Tryd.func93, Tryd.ntmps93
  go_wp2_with fail
  have k0 := Row.new w #[.int .i64 f, .int .i64 a, .int .i64 b, .int .i64 c] 27
  refine (refValid_from _ _ _ _ _ _ (Below.refl _ _)).mono ?_
  rintro e w2 ⟨rfl, hb2⟩
  have k2 := k0.under hb2
  have b2 : Below w.heap.size w w2 := ((Below.refl _ _).alloc (Nat.le_refl _) _).trans (hb2.mono (by simp))
  clear k0 hb2
  obtain ⟨p0, p1, p2, p3⟩ := row4 k2
  go_wp2_with fail
  refine (refWeights_is _ _ _ _ _ _ (Below.refl _ _) hf).mono ?_
  rintro e w3 ⟨rfl, hb3⟩
  have b3 := b2.trans (hb3.mono b2.size)
  clear b2 hb3 k2 p0 p1 p2 p3
  go_wp2_with fail
  have G0 : Going w f a b c w3.heap.size 0 (.slice none 0 0) (w3.alloc (.cells (wa f a b c) 65)) := ⟨b3.alloc b3.size _, Row.new _ _ _, World.ownsRow_nil _ _ _ _⟩
  clear b3
  generalize w3.heap.size = gw at *
  go_loopw [5, 6] (fun v i wr => ∃ n : Nat, n ≤ 20 ∧ i = .int .i64 n ∧ Going w f a b c gw n v wr) (fun _ i _ => 20 - (intOf i).toNat)
  case atStart => exact ⟨0, by omega, rfl, G0⟩
  case round =>
    clear G0
    obtain ⟨n, hn, rfl, G⟩ := hrel
    by_cases hlt : n < 20
    · obtain ⟨⟨c0, c1, c2, c3, c4, c5⟩, c6, c7, c8, c9, c10, c11⟩ := row12 G.row
      have HG := Lib.hid G; clear G
      have hl := Ico.fcs_len_le f a b c n
      cases ho : Ico.ok f a b c n
      · have ON := Lib.hid (fun w => on_any f n a b c _ w HV.out hlt ho); have HO := Lib.hid ho; clear ho
        go_wp2_with fail
        refine (ON.out _).mono ?_
        rintro e w5 ⟨rfl, hb5⟩
        go_wp2_with fail
        go_roundw
        case rel => exact ⟨n + 1, by omega, by go_num, ((HG.out.under hb5).alloc _).no HO.out⟩
        case measure => simp [intOf]; omega
      · have ON := Lib.hid (fun w => on_any f n a b c _ w HV.out hlt ho); have HO := Lib.hid ho; clear ho
        go_wp2_with fail
        refine (ON.out _).mono ?_
        rintro e w4 ⟨rfl, hb4⟩
        go_upto_region 10 with fail
        have G5 := (HG.out.under hb4).alloc (.cells #[.int .i64 n, .int .i64 (Ico.wt f a b c (Ico.cor n 0)), .int .i64 (Ico.wt f a b c (Ico.cor n 1)), .int .i64 (Ico.wt f a b c (Ico.cor n 2))] 27)
        have r5 := Row.new w4 #[.int .i64 n, .int .i64 (Ico.wt f a b c (Ico.cor n 0)), .int .i64 (Ico.wt f a b c (Ico.cor n 1)), .int .i64 (Ico.wt f a b c (Ico.cor n 2))] 27
        refine forget (fun Z => Going w f a b c gw n «u5» Z ∧ Row Z w4.heap.size 27 #[.int .i64 n, .int .i64 (Ico.wt f a b c (Ico.cor n 0)), .int .i64 (Ico.wt f a b c (Ico.cor n 1)), .int .i64 (Ico.wt f a b c (Ico.cor n 2))]) ⟨G5, r5⟩ ?_
        clear HG G5 r5 hb4 c0 c1 c2 c3 c4 c5 c6 c7 c8 c9 c10 c11
        generalize w4.heap.size = gq at *
        rintro w5 ⟨G5, r5⟩
        obtain ⟨q0, q1, q2, q3⟩ := row4 r5
        have G6 := G5.alloc (.cells #[.int .i64 n, .int .i64 (Ico.wt f a b c (Ico.cor n 0)), .int .i64 (Ico.wt f a b c (Ico.cor n 1)), .int .i64 (Ico.wt f a b c (Ico.cor n 2))] 27)
        have r6 := Row.new w5 #[.int .i64 n, .int .i64 (Ico.wt f a b c (Ico.cor n 0)), .int .i64 (Ico.wt f a b c (Ico.cor n 1)), .int .i64 (Ico.wt f a b c (Ico.cor n 2))] 27
        have R6 := Lib.hid r6; clear r6 r5
        have HG := Lib.hid G6; clear G6 G5
        go_wp2_with (at_builtin; refine wpList_append_own _ rfl (.tmp 25) (.tmp 27) 47 rfl w.heap.size 27 i0 _ 4 32 Tryd.underlying47 hi hz0 hz1 hz2 rfl (by decide) _ _ _ rfl HG.out.own ⟨w5.heap.size, 0, none⟩ 1 1 (pl f a b c n) rfl rfl (row_news R6.out) (pl_one f a b c n) (by unfold maxLen; omega) (by omega) HG.out.below.size ?_)
        intro v' w6 hown hgr _
        have G7 := HG.out.yes HO.out hown hgr
        clear hown hgr
        have HG7 := Lib.hid G7; clear G7
        go_wp2_with fail
        go_roundw
        case rel => exact ⟨n + 1, by omega, by go_num, HG7.out⟩
        case measure => simp [intOf]; omega
    · obtain rfl : n = 20 := by omega
      have HG := Lib.hid G; clear G
      go_wp2_with fail
      go_ret2
      exact ⟨_, rfl, HG.out.below, HG.out.own⟩
/-- What Addresses leaves: a list in a block of its own. -/
theorem refAddresses_open (f : Nat) (a b c : Int) (w : World) (hv : Ico.Vld f a b c) :
    Calls Tryd.prog 93 #[.agg #[.int .i64 f, .int .i64 a, .int .i64 b, .int .i64 c]] w fun e w' => ∃ g cap, e = .returned (.tuple #[.slice (some ⟨g, 0, none⟩) (Ico.fcs f a b c 20).length cap, .int .i64 0]) ∧ Below w.heap.size w w' ∧
      w.heap.size ≤ g ∧ g < w'.heap.size ∧ (Ico.fcs f a b c 20).length ≤ cap ∧ cap ≤ 9223372036854775807 ∧ Has w' f a b c g :=
  (refAddresses_yes f a b c w hv).mono fun e w' ⟨v, he, hb, ho⟩ => by
    obtain ⟨g, cap, rfl, h1, h2, h3, h4, h5⟩ := own_open ho (Ico.fcs_pos hv)
    refine ⟨g, cap, he, hb, h1, h2, h3, by unfold maxLen at h4; exact h4, fun i hi => ⟨?_, ?_, ?_, ?_⟩⟩
    · exact h5 _ _ ((flat4 (pl_len f a b c) _ i 0 (by omega) hi).trans rfl)
    · exact h5 _ _ ((flat4 (pl_len f a b c) _ i 1 (by omega) hi).trans rfl)
    · exact h5 _ _ ((flat4 (pl_len f a b c) _ i 2 (by omega) hi).trans rfl)
    · exact h5 _ _ ((flat4 (pl_len f a b c) _ i 3 (by omega) hi).trans rfl)
set_option maxHeartbeats 1000000 in
theorem refNormal_no (F a b c : Int) (w : World) (hv : vb F a b c = false) :
    Calls Tryd.prog 62 #[.agg #[.int .i64 F, .int .i64 a, .int .i64 b, .int .i64 c]] w fun e w' => e = .returned (.tuple #[.agg #[.int .i64 0, .int .i64 0, .int .i64 0, .int .i64 0], .int .i64 1]) ∧ Below w.heap.size w w' := by
  go_enter Tryd.func62, Tryd.ntmps62
  go_wp2_with fail
  refine (refAddresses_no _ _ _ _ _ hv).mono ?_
  rintro e w2 ⟨rfl, hb2⟩
  obtain ⟨hc, hz⟩ := bcell hb2
  go_wp2_with fail
  exact bodyPost_ret (v := .tuple #[.agg #[.int .i64 0, .int .i64 0, .int .i64 0, .int .i64 0], .int .i64 1]) (by simp [results, Tryd.results62, hc, go_sem]) rfl ⟨rfl, (((((((Below.refl _ _).alloc (Nat.le_refl _) _).alloc (by simp) _).trans (hb2.mono (by simp; omega))).setCell (by simp) _).setCell (by simp) _).setCell (by simp) _).setCell (by simp) _⟩
set_option maxHeartbeats 1000000 in
theorem refNormal_yes (f : Nat) (a b c : Int) (w : World) (hv : Ico.Vld f a b c) :
    Calls Tryd.prog 62 #[.agg #[.int .i64 f, .int .i64 a, .int .i64 b, .int .i64 c]] w fun e w' => e = .returned (.tuple #[.agg #[.int .i64 (Ico.nf f a b c : Nat), .int .i64 (nw f a b c 0), .int .i64 (nw f a b c 1), .int .i64 (nw f a b c 2)], .int .i64 0]) ∧ Below w.heap.size w w' := by
  have HV := Lib.hid hv; clear hv
  go_enter Tryd.func62, Tryd.ntmps62
  go_wp2_with fail
  refine (refAddresses_open _ _ _ _ _ HV.out).mono ?_
  rintro e w2 ⟨g, cap, rfl, hb2, g1, g2, g3, g4, hH⟩
  obtain ⟨hc, hz⟩ := bcell hb2
  obtain ⟨q0, q1, q2, q3⟩ := hH.first HV.out
  have hp := Ico.fcs_pos HV.out
  clear hH
  generalize (Ico.fcs f a b c 20).length = len at *
  have hge : w.heap.size + 2 ≤ g := by simp at g1; omega
  clear g1
  go_wp2_with fail
  exact bodyPost_ret (v := .tuple #[.agg #[.int .i64 (Ico.nf f a b c : Nat), .int .i64 (nw f a b c 0), .int .i64 (nw f a b c 1), .int .i64 (nw f a b c 2)], .int .i64 0]) (by simp [results, Tryd.results62, hc, go_sem]) rfl ⟨rfl, (((((((Below.refl _ _).alloc (Nat.le_refl _) _).alloc (by simp) _).trans (hb2.mono (by simp; omega))).setCell (by simp) _).setCell (by simp) _).setCell (by simp) _).setCell (by simp) _⟩
end Go.Proofs.YtlakgkoohdfiaaaDoor.Pl

