/- The contract of Validate. -/
import Derived.Test.YtcheadbhkbbegaaDoorQai
namespace Go.Proofs.YtcheadbhkbbegaaDoor
open Go.RowKit

theorem At5.drew {w : World} {g o : Nat} {n : Cm.N5} (h : At5 w g o n) : At5 w.drew g o n := h
set_option maxRecDepth 100000 in
set_option maxHeartbeats 4000000 in
theorem validateN_any (v : Value) (N : List Cm.N5) (w : World) (hN : NrIn w v N) (hT : El.Tab w) :
    Calls Tryd.prog 20 #[clV v] w fun e w' => e = .returned (.int .i64 (Cm.vldN N)) ∧ Below w.heap.size w w' := by
  obtain ⟨z, hz⟩ : ∃ z, Cm.vldN N = z := ⟨_, rfl⟩
  rw [hz]
  have HZ := Lib.hid hz; clear hz
  have b0 : Below w.heap.size w (w.alloc (.cells #[v] 24)) := (Below.refl _ _).alloc (Nat.le_refl _) _
  have r0 := Row.new w #[v] 24
  obtain ⟨A, cap, rfl, h1, h2, -⟩ := id hN
  have j0 : ∀ w, (Instr.index 91 (.agg #[.int .i64 4, .int .i64 1]) (.int .i64 0)).run Tryd.prog w = .ok (.int .i64 4) w := fun _ => by kernel_rfl
  have j1 : ∀ w, (Instr.index 91 (.agg #[.int .i64 4, .int .i64 1]) (.int .i64 1)).run Tryd.prog w = .ok (.int .i64 1) w := fun _ => by kernel_rfl
  have IN : Hid ((NrIn (w.alloc (.cells #[.slice A N.length cap] 24)) (.slice A N.length cap) N ∧ El.Tab (w.alloc (.cells #[.slice A N.length cap] 24))) ∧ Row (w.alloc (.cells #[.slice A N.length cap] 24)) w.heap.size 24 #[.slice A N.length cap] ∧ Below w.heap.size w (w.alloc (.cells #[.slice A N.length cap] 24))) := Lib.hid ⟨⟨hN.under b0, hT.under b0⟩, r0, b0⟩
  clear hN hT b0 r0
  go_enter Tryd.func20, Tryd.ntmps20
  go_upto_region 1 with fail
  refine forget (fun Y => Hid ((NrIn Y (.slice A N.length cap) N ∧ El.Tab Y) ∧ Row Y w.heap.size 24 #[.slice A N.length cap] ∧ Below w.heap.size w Y)) IN ?_
  clear IN
  generalize hB : w.heap.size = gb at *
  rintro Y IY
  have q0 := (IY.out.2.1.cell 0).trans rfl
  by_cases hlong : 200 < N.length
  · have HV : Hid (z = 2) := Lib.hid (by rw [← HZ.out, Cm.vldN_long hlong])
    have hl' : (200 : Int) < (N.length : Int) := by omega
    go_wp2_with fail
    go_ret
    exact ⟨ret_i64 HV.out.symm, by first | exact IY.out.2.2 | (rw [hB]; exact IY.out.2.2)⟩
  · have hl' : ¬ (200 : Int) < (N.length : Int) := by omega
    have HL := Lib.hid hlong
    go_wp2_with fail
    go_loopw [11] (fun t wr => Hid ((NrIn wr (.slice A N.length cap) N ∧ El.Tab wr) ∧ Row wr gb 24 #[.slice A N.length cap] ∧ Below gb w wr) ∧ (t = .int .i64 0 ∨ (t = .int .i64 1 ∧ Hid (¬ ∃ n ∈ N, Cm.chkN n = 4)) ∨ (t = .int .i64 2 ∧ Hid (¬ ∃ n ∈ N, Cm.chkN n = 4) ∧ Hid (¬ ∃ n ∈ N, Cm.chkN n = 1)))) (fun t _ => 2 - (intOf t).toNat)
    case atStart => exact ⟨IY, .inl rfl⟩
    case round =>
      clear IY q0
      obtain ⟨IR, hr⟩ := hrel
      rcases hr with rfl | ⟨rfl, hn⟩ | ⟨rfl, hn, hm⟩
      · have hsz := IR.out.2.2.size
        have b1 := (Below.refl wr.heap.size wr).alloc (Nat.le_refl _) (.cells #[.int .i64 4] 43)
        have r1 := Row.new wr #[.int .i64 4] 43
        go_upto_region 6 with fail
        generalize wr.alloc (.cells #[.int .i64 4] 43) = W1 at *
        have I1 := Lib.hid (And.intro (And.intro (IR.out.1.1.under b1) (IR.out.1.2.under b1)) (And.intro (IR.out.2.1.under b1) (IR.out.2.2.trans (b1.mono (hB ▸ hsz)))))
        have q0 := (I1.out.2.1.cell 0).trans rfl
        generalize wr.heap.size = ge at *
        have c1 : W1.cell? ⟨ge, 0, none⟩ = some (.int .i64 4) := (r1.cell 0).trans rfl
        have HC := Lib.hid (containsN_any _ N 4 ge W1 I1.out.1.1 I1.out.1.2 r1.lt c1)
        have R1 := Lib.hid r1
        clear b1 r1 c1 IR hsz
        cases ha : (N.any fun n => Cm.chkN n == 4) with
        | true =>
          rw [ha] at HC
          have HV : Hid (z = 4) := Lib.hid (by rw [← HZ.out, Cm.vldN_kind HL.out (any_chkN.1 ha)])
          clear ha
          go_wp2_with fail
          refine HC.out.mono ?_
          rintro e w2 ⟨rfl, g2⟩
          have c2 : w2.cell? ⟨ge, 0, none⟩ = some (.int .i64 4) := ((R1.out.under g2).cell 0).trans rfl
          have B2 := Lib.hid (I1.out.2.2.trans (g2.mono (hB ▸ I1.out.2.2.size))); clear g2
          go_wp2_with fail
          go_ret
          exact ⟨ret_i64 HV.out.symm, by first | exact B2.out | (rw [hB]; exact B2.out)⟩
        | false =>
          rw [ha] at HC
          have HNo : Hid (¬ ∃ n ∈ N, Cm.chkN n = 4) := Lib.hid (fun h => by rw [any_chkN.2 h] at ha; cases ha)
          clear ha
          go_wp2_with fail
          refine HC.out.mono ?_
          rintro e w2 ⟨rfl, g2⟩
          have I2 := Lib.hid (And.intro (And.intro (I1.out.1.1.under g2) (I1.out.1.2.under g2)) (And.intro (I1.out.2.1.under g2) (I1.out.2.2.trans (g2.mono (hB ▸ I1.out.2.2.size)))))
          clear g2
          go_wp2_with fail
          go_roundw
          case rel => exact ⟨I2, .inr (.inl ⟨rfl, HNo⟩)⟩
          case measure => simp [intOf]
      · have hsz := IR.out.2.2.size
        have b1 := (Below.refl wr.heap.size wr).alloc (Nat.le_refl _) (.cells #[.int .i64 1] 43)
        have r1 := Row.new wr #[.int .i64 1] 43
        go_upto_region 6 with fail
        generalize wr.alloc (.cells #[.int .i64 1] 43) = W1 at *
        have I1 := Lib.hid (And.intro (And.intro (IR.out.1.1.under b1) (IR.out.1.2.under b1)) (And.intro (IR.out.2.1.under b1) (IR.out.2.2.trans (b1.mono (hB ▸ hsz)))))
        have q0 := (I1.out.2.1.cell 0).trans rfl
        generalize wr.heap.size = ge at *
        have c1 : W1.cell? ⟨ge, 0, none⟩ = some (.int .i64 1) := (r1.cell 0).trans rfl
        have HC := Lib.hid (containsN_any _ N 1 ge W1 I1.out.1.1 I1.out.1.2 r1.lt c1)
        have R1 := Lib.hid r1
        clear b1 r1 c1 IR hsz
        cases ha : (N.any fun n => Cm.chkN n == 1) with
        | true =>
          rw [ha] at HC
          have HV : Hid (z = 1) := Lib.hid (by rw [← HZ.out, Cm.vldN_range HL.out hn.out (any_chkN.1 ha)])
          clear ha
          go_wp2_with fail
          refine HC.out.mono ?_
          rintro e w2 ⟨rfl, g2⟩
          have c2 : w2.cell? ⟨ge, 0, none⟩ = some (.int .i64 1) := ((R1.out.under g2).cell 0).trans rfl
          have B2 := Lib.hid (I1.out.2.2.trans (g2.mono (hB ▸ I1.out.2.2.size))); clear g2
          go_wp2_with fail
          go_ret
          exact ⟨ret_i64 HV.out.symm, by first | exact B2.out | (rw [hB]; exact B2.out)⟩
        | false =>
          rw [ha] at HC
          have HNo : Hid (¬ ∃ n ∈ N, Cm.chkN n = 1) := Lib.hid (fun h => by rw [any_chkN.2 h] at ha; cases ha)
          clear ha
          go_wp2_with fail
          refine HC.out.mono ?_
          rintro e w2 ⟨rfl, g2⟩
          have I2 := Lib.hid (And.intro (And.intro (I1.out.1.1.under g2) (I1.out.1.2.under g2)) (And.intro (I1.out.2.1.under g2) (I1.out.2.2.trans (g2.mono (hB ▸ I1.out.2.2.size)))))
          clear g2
          go_wp2_with fail
          go_roundw
          case rel => exact ⟨I2, .inr (.inr ⟨rfl, hn, HNo⟩)⟩
          case measure => simp [intOf]
      · have HS := Lib.hid (Cm.vldN_sort HL.out hn.out hm.out)
        clear hn hm j0 j1
        go_wp2_with fail
        go_loopw [5] (fun t wk => ∃ m : Nat, t = .int .i64 ((m : Int) + 1) ∧ m ≤ N.length ∧ Hid ((NrIn wk (.slice A N.length cap) N ∧ El.Tab wk) ∧ Row wk gb 24 #[.slice A N.length cap] ∧ Below gb w wk) ∧ Hid (∀ j, ∀ h : j + 1 < N.length, j < m → Cm.lt3 (Cm.key N[j]) (Cm.key N[j + 1]))) (fun t _ => N.length + 2 - (intOf t).toNat)
        case atStart => exact ⟨0, rfl, Nat.zero_le _, IR, Lib.hid (fun j h h' => by omega)⟩
        case round =>
          clear IR
          obtain ⟨m, rfl, hml, IK, ha⟩ := hrel
          have q0 := (IK.out.2.1.cell 0).trans rfl
          by_cases hlt : m + 1 < N.length
          · obtain ⟨g, off, rfl, hgl, a0, a1, a2, a3, a4⟩ := IK.out.1.1.at (i := m) (by omega)
            obtain ⟨g', off', e, -, c0, c1, c2, c3, c4⟩ := IK.out.1.1.at hlt
            injection e with e
            injection e with e1 e2
            subst e1; subst e2
            have HK := Lib.hid (show Cm.lt3 (Cm.key N[m]) (Cm.key N[m + 1]) → ∀ j, ∀ h : j + 1 < N.length, j < m + 1 → Cm.lt3 (Cm.key N[j]) (Cm.key N[j + 1]) from fun hk j h h' => by
              rcases Nat.lt_or_ge j m with q | q
              · exact ha.out j h q
              · obtain rfl : j = m := by omega
                exact hk)
            have HNo : Hid (¬ Cm.lt3 (Cm.key N[m]) (Cm.key N[m + 1]) → z = 8) := Lib.hid (fun hk => by rw [← HZ.out]; exact HS.out.2 fun h => hk (h m hlt))
            have k0 : (0 : Int) ≤ (m : Int) := by omega
            have k1 : (m : Int) < (N.length : Int) := by omega
            have k2 : (m : Int) + 1 < (N.length : Int) := by omega
            have k3 : (0 : Int) ≤ (m : Int) + 1 := by omega
            have x1 : IntKind.i64.wrap (m : Int) = (m : Int) := IntWalk.i64_in _ (by omega)
            generalize N[m] = x at *
            generalize N[m + 1] = y at *
            obtain ⟨x0, x2, x3, x4, x5⟩ := x
            obtain ⟨y0, y1, y2, y3, y4⟩ := y
            have HO := Lib.hid (order_any (x0, x2, x3, x4, x5) (y0, y1, y2, y3, y4) wr.drew)
            simp only at a0 a1 a2 a3 a4 c0 c1 c2 c3 c4
            go_upto_region 12 with fail
            refine wp_region_held_drew (S := fun w' : World => w'.cell? ⟨gb, 0, none⟩ = some (.slice (some ⟨g, off, none⟩) N.length cap) ∧ (w'.cell? ⟨g, off + m * 5, none⟩ = some (.int .i64 x0) ∧ w'.cell? ⟨g, off + m * 5 + 1, none⟩ = some (.int .i64 x2) ∧ w'.cell? ⟨g, off + m * 5 + 2, none⟩ = some (.int .i64 x3) ∧ w'.cell? ⟨g, off + m * 5 + 3, none⟩ = some (.int .i64 x4) ∧ w'.cell? ⟨g, off + m * 5 + 4, none⟩ = some (.int .i64 x5)) ∧ (w'.cell? ⟨g, off + (m + 1) * 5, none⟩ = some (.int .i64 y0) ∧ w'.cell? ⟨g, off + (m + 1) * 5 + 1, none⟩ = some (.int .i64 y1) ∧ w'.cell? ⟨g, off + (m + 1) * 5 + 2, none⟩ = some (.int .i64 y2) ∧ w'.cell? ⟨g, off + (m + 1) * 5 + 3, none⟩ = some (.int .i64 y3) ∧ w'.cell? ⟨g, off + (m + 1) * 5 + 4, none⟩ = some (.int .i64 y4))) (by kernel_rfl) ⟨q0, ⟨a0, a1, a2, a3, a4⟩, c0, c1, c2, c3, c4⟩ (fun hHeld => ?_)
            refine tk 0 rfl ?_
            try go_frame
            refine tk 1 rfl ?_
            try go_frame
            refine tk 2 rfl ?_
            try go_frame
            refine tk 3 rfl ?_
            try go_frame
            refine tk 4 rfl ?_
            try go_frame
            refine tk 5 rfl ?_
            try go_frame
            refine tk 6 rfl ?_
            try go_frame
            refine tk 7 rfl ?_
            try go_frame
            refine tk 8 rfl ?_
            try go_frame
            refine tk 9 rfl ?_
            try go_frame
            refine tk 10 rfl ?_
            try go_frame
            refine wpAnyH_ready (rs := [11]) (by kernel_rfl) (by simp) ?_
            refine AllReadyH.cons rfl (fun K hK => ?_) AllReadyH.nil
            go_simp
            --MARK
            rcases Cm.cmp3_cases (x0, x2, x3) (y0, y1, y2) with ⟨hlt3, hcm⟩ | hge
            · have HA2 := Lib.hid (HK.out hlt3)
              have HE : Hid (Cm.cmp3 (Cm.key (x0, x2, x3, x4, x5)) (Cm.key (y0, y1, y2, y3, y4)) = -1) := Lib.hid hcm
              clear hlt3 hcm HK HNo ha
              refine HO.out.mono ?_
              rintro e w3 ⟨rfl, g3⟩
              rw [HE.out]
              have G3 : Hid (Below wr.heap.size wr w3) := Lib.hid (undrew g3.below)
              clear g3 HO
              have C := fun j => G3.out.cell (p := ⟨g, j, none⟩) hgl
              have SS := And.intro ((G3.out.cell (p := ⟨gb, 0, none⟩) IK.out.2.1.lt).trans q0) (And.intro (And.intro ((C _).trans a0) (And.intro ((C _).trans a1) (And.intro ((C _).trans a2) (And.intro ((C _).trans a3) ((C _).trans a4))))) (And.intro ((C _).trans c0) (And.intro ((C _).trans c1) (And.intro ((C _).trans c2) (And.intro ((C _).trans c3) ((C _).trans c4))))))
              clear C
              go_wp2_with fail
              refine hK.out _ _ SS (fun hHeld2 => ?_)
              clear hK K hHeld SS
              try go_frame
              refine tk 12 (oi := ⟨some 39, _, _, _, _, none⟩) rfl ?_
              try go_frame
              refine wpAnyH_done (by kernel_rfl) ?_ _
              clear hHeld2 a0 a1 a2 a3 a4 c0 c1 c2 c3 c4 q0
              have I3 := Lib.hid (And.intro (And.intro (IK.out.1.1.under G3.out) (IK.out.1.2.under G3.out)) (And.intro (IK.out.2.1.under G3.out) (IK.out.2.2.trans (G3.out.mono (hB ▸ IK.out.2.2.size)))))
              go_wp2_with fail
              go_roundw
              case rel => exact ⟨m + 1, by go_num, by omega, I3, HA2⟩
              case measure => simp [intOf]; omega
            · have HV : Hid (z = 8) := Lib.hid (HNo.out (fun h => by
                rcases hge with ⟨e, -⟩ | ⟨h2, -⟩
                · have h' : Cm.lt3 (x0, x2, x3) (y0, y1, y2) := h
                  rw [e] at h'
                  exact Cm.lt3_irr h'
                · exact Cm.lt3_irr (Cm.lt3_trans h h2)))
              obtain ⟨q, HE, hq⟩ : ∃ q : Int, Hid (Cm.cmp3 (Cm.key (x0, x2, x3, x4, x5)) (Cm.key (y0, y1, y2, y3, y4)) = q) ∧ 0 ≤ q := by
                rcases hge with ⟨-, e⟩ | ⟨-, e⟩
                · exact ⟨0, Lib.hid e, by omega⟩
                · exact ⟨1, Lib.hid e, by omega⟩
              clear hge HK HNo ha
              refine HO.out.mono ?_
              rintro e w3 ⟨rfl, g3⟩
              rw [HE.out]
              have G3 : Hid (Below wr.heap.size wr w3) := Lib.hid (undrew g3.below)
              clear g3 HO
              have C := fun j => G3.out.cell (p := ⟨g, j, none⟩) hgl
              have SS := And.intro ((G3.out.cell (p := ⟨gb, 0, none⟩) IK.out.2.1.lt).trans q0) (And.intro (And.intro ((C _).trans a0) (And.intro ((C _).trans a1) (And.intro ((C _).trans a2) (And.intro ((C _).trans a3) ((C _).trans a4))))) (And.intro ((C _).trans c0) (And.intro ((C _).trans c1) (And.intro ((C _).trans c2) (And.intro ((C _).trans c3) ((C _).trans c4))))))
              clear C
              go_wp2_with fail
              refine hK.out _ _ SS (fun hHeld2 => ?_)
              clear hK K hHeld SS
              try go_frame
              refine tk 12 (oi := ⟨some 39, _, _, _, _, none⟩) rfl ?_
              try go_frame
              refine wpAnyH_done (by kernel_rfl) ?_ _
              clear hHeld2 a0 a1 a2 a3 a4 c0 c1 c2 c3 c4 q0
              have I3 : Hid (Below gb w w3) := Lib.hid (IK.out.2.2.trans (G3.out.mono (hB ▸ IK.out.2.2.size)))
              go_wp2_with fail
              go_ret
              exact ⟨ret_i64 HV.out.symm, by first | exact I3.out | (rw [hB]; exact I3.out)⟩
          · have k2 : ¬ (m : Int) + 1 < (N.length : Int) := by omega
            have HV : Hid (z = 0) := Lib.hid (by rw [← HZ.out]; exact HS.out.1 fun j h => ha.out j h (by omega))
            go_wp2_with fail
            go_ret
            exact ⟨ret_i64 HV.out.symm, by first | exact IK.out.2.2 | (rw [hB]; exact IK.out.2.2)⟩
end Go.Proofs.YtcheadbhkbbegaaDoor
