/- The walk of ElementSorted: for every list of numbers the law returns true, and what lay in memory is as it was. -/
import Derived.Test.YthlcpmkjemdhkaaDoorSrtMath
import Derived.Test.YthlcpmkjemdhkaaDoorVal2
import Derived.Test.YthlcpmkjemdhkaaDoorAwake
import Derived.Deep.Upon
namespace Go.Proofs.YthlcpmkjemdhkaaDoor
open Go.RowKit

/-- What is known while the list is put in another order: the reader, the lists. -/
structure Sq (W w0 : World) (b : Nat) (x u y : Value) (M Y : List Elt.R) (P : List Int) (w : World) : Prop where
  src : Src W b w
  wt : Wt w0 Y y w
  xs : RdIn w x M
  nm : NmIn w u P
theorem Sq.under {W w0 w w' : World} {b : Nat} {x u y : Value} {M Y : List Elt.R} {P : List Int} (h : Sq W w0 b x u y M Y P w) (hb : Below w.heap.size w w') : Sq W w0 b x u y M Y P w' :=
  ⟨h.src.under hb, h.wt.under hb, h.xs.under hb, h.nm.under hb⟩
theorem src_from {W w0 w : World} {b : Nat} (h : Src W b w0) (hb : Below w0.heap.size w0 w) : Src W b w := h.under hb
set_option maxRecDepth 100000 in
set_option maxHeartbeats 8000000 in
theorem elementSorted_any (v : Value) (w : World) (hE : Env w) (hl : ListIn w v) :
    Calls Tryd.prog 7 #[v] w fun e w' => e = .returned (.bool true) ∧ Below w.heap.size w w' := by
  obtain ⟨i0, hi, hz0, hz1, hz2⟩ := info_parts infoReading
  have HE := Lib.hid hE; clear hE
  go_enter Tryd.func7, Tryd.ntmps7
  go_wp2_with fail
  refine (new_any _ _ hl).mono ?_
  rintro e w1 ⟨rfl, s1, -⟩
  go_wp2_with fail
  refine (list_any _ _ _ s1).mono ?_
  rintro e w2 ⟨x, M, rfl, hG, hS⟩
  have HG := Lib.hid hG
  have hX := RdIn.own hS.own
  have HML : Hid (M.length ≤ 11) := Lib.hid (by have := hG.len; omega)
  obtain ⟨A, cap, rfl, h1, h2, -⟩ := id hX
  clear hG s1 hl
  have HX := Lib.hid hX; clear hX
  have HS := Lib.hid hS; clear hS
  go_wp2_with fail
  refine (order_any _ _ _ M.length HS.out.src (by have := HML.out; omega)).mono ?_
  rintro e w3 ⟨u, P, rfl, hp, hO⟩
  have S3 := Lib.hid (HS.out.step hO.src hO.gro)
  have HP := Lib.hid hp
  have hPl : P.length = M.length := by rw [hp.length_eq, upto_len]
  have hU := (fun (q : ∃ base, w2.heap.size ≤ base ∧ w3.ownsRow base 3 1 u P.length (nmc P)) => NmIn.own q.choose_spec.2) hO.own
  obtain ⟨A2, cap2, rfl, k1, k2, -⟩ := id hU
  have HPL := Lib.hid hPl
  have HU := Lib.hid hU
  have X3 := Lib.hid (RdIn.own S3.out.own)
  clear hU hO hp hPl HS HX k1 k2
  go_wp2_with fail
  go_loopw [5, 6, 20] (fun y s t wr => ∃ (j : Nat) (fb : Bool), j ≤ P.length ∧ t = .int .i64 j ∧ s = .bool fb ∧ Hid (fb = decide (P.take j = upto j)) ∧ Wt w3 (prm M (P.take j)) y wr) (fun _ _ t _ => P.length - (intOf t).toNat)
  case atStart => exact ⟨0, true, Nat.zero_le _, rfl, rfl, Lib.hid (by rfl), Below.refl _ _, World.ownsRow_nil _ _ _ _⟩
  case round =>
    obtain ⟨j, fb, hj, rfl, rfl, hfb, hS⟩ := hrel
    by_cases hlt : j < P.length
    · have hR := HU.out.under hS.below
      obtain ⟨A', cap', e, -, -, hR⟩ := hR
      injection e with e1 e2 e3
      subst e1
      obtain ⟨g, off, rfl, hgl, c0⟩ := hR j hlt
      have j0 : (0 : Int) ≤ (j : Int) := by omega
      have j1 : (j : Int) < (P.length : Int) := by omega
      have jb : j ≤ 11 := by have := HPL.out; have := HML.out; omega
      have hfs := Lib.hid (flag_step hlt)
      have hps := Lib.hid (prm_snoc M hlt)
      have hq := mem_upto.1 (HP.out.mem_iff.1 (List.getElem_mem hlt))
      obtain ⟨hq1, hq2⟩ := gtR_lt hq
      have HQ2 := Lib.hid hq2
      clear hR e3 hq2
      generalize hk : P[j] = k at *
      have HK := Lib.hid hk; clear hk
      obtain ⟨q, rfl⟩ := Int.eq_ofNat_of_zero_le hq.1
      have hqM : q < M.length := by omega
      have HMq : Hid (gtR M (q : Int) = M[q]) := Lib.hid (by rw [HQ2.out]; rfl)
      have hRx := X3.out.under hS.below
      obtain ⟨A', cap', e, -, -, hRx⟩ := hRx
      injection e with e1 e2 e3
      subst e1
      obtain ⟨gx, ox, rfl, hgx, d0, d1⟩ := hRx q hqM
      have q0 : (0 : Int) ≤ (q : Int) := by omega
      have q1 : (q : Int) < (M.length : Int) := by omega
      clear hRx e3 HQ2 hq1 hq
      generalize hx : M[q] = z at *
      have HZ := Lib.hid hx; clear hx
      obtain ⟨a, b⟩ := z
      have hml : (prm M (P.take j)).length ≤ 11 := by unfold prm; rw [List.length_map, List.length_take]; have := HPL.out; have := HML.out; omega
      have HY : Hid (prm M (P.take (j + 1)) = prm M (P.take j) ++ [(a, b)]) := Lib.hid (by rw [hps.out, HMq.out])
      generalize hY : prm M (P.take j) = Y at *
      have HYY := Lib.hid hY; clear hY
      have HS := Lib.hid hS; clear hS
      simp only at d0 d1
      clear hps HMq
      have S4 := Lib.hid (HS.out.under ((Below.refl _ _).alloc (Nat.le_refl _) (.cells #[.int .i64 a, .int .i64 b] 47)))
      cases fb with
      | true =>
        go_wp2_with (at_builtin; refine wpList_append_lies _ rfl (.tmp 31) (.tmp 36) 22 rfl w3.heap.size 47 i0 _ 2 16 Tryd.underlying22 hi hz0 hz1 hz2 rfl (by decide) «u5» Y.length (rdc Y) rfl S4.out.own ⟨wr.heap.size, 0, none⟩ 1 1 [.int .i64 a, .int .i64 b] rfl rfl (World.news_of_block (cs := #[.int .i64 a, .int .i64 b]) (t := 47) (fr := (0, 0)) (heap_alloc_new wr _)) (by simp [Value.oneCell']) (by omega) (by unfold maxLen; omega) (by omega) S4.out.below.size (wr.heap.size + 1) (by simp) ?_; intro g' cap' w4 hown4 hgrow4 hat4 hlt4; have S5 := Lib.hid (S4.out.more (x := (a, b)) hown4 hgrow4); clear hown4 hgrow4 hat4 hlt4)
        go_roundw
        case rel => exact ⟨j + 1, _, by omega, by go_num, rfl, Lib.hid (by rw [hfs.out, ← hfb.out, Bool.true_and]; rfl), by rw [HY.out]; exact S5.out⟩
        case measure => simp [intOf]; omega
      | false =>
        go_wp2_with (at_builtin; refine wpList_append_lies _ rfl (.tmp 31) (.tmp 36) 22 rfl w3.heap.size 47 i0 _ 2 16 Tryd.underlying22 hi hz0 hz1 hz2 rfl (by decide) «u5» Y.length (rdc Y) rfl S4.out.own ⟨wr.heap.size, 0, none⟩ 1 1 [.int .i64 a, .int .i64 b] rfl rfl (World.news_of_block (cs := #[.int .i64 a, .int .i64 b]) (t := 47) (fr := (0, 0)) (heap_alloc_new wr _)) (by simp [Value.oneCell']) (by omega) (by unfold maxLen; omega) (by omega) S4.out.below.size (wr.heap.size + 1) (by simp) ?_; intro g' cap' w4 hown4 hgrow4 hat4 hlt4; have S5 := Lib.hid (S4.out.more (x := (a, b)) hown4 hgrow4); clear hown4 hgrow4 hat4 hlt4)
        go_roundw
        case rel => exact ⟨j + 1, _, by omega, by go_num, rfl, Lib.hid (by rw [hfs.out, ← hfb.out, Bool.false_and]), by rw [HY.out]; exact S5.out⟩
        case measure => simp [intOf]; omega
    · have j1 : ¬ (j : Int) < (P.length : Int) := by omega
      obtain rfl : j = P.length := by omega
      rw [List.take_length] at hS hfb
      have HV := Lib.hid (prm_vld HG.out HP.out)
      have HPU : Hid (fb = decide (P = upto M.length)) := Lib.hid (by rw [hfb.out, HPL.out])
      generalize hY : prm M P = Y at *
      have B3 := Lib.hid hS.below
      have Y3 := Lib.hid (RdIn.own hS.own)
      have X4 := Lib.hid (X3.out.under hS.below)
      have S4 := Lib.hid (S3.out.under hS.below)
      clear hS hfb hY X3 S3 HU HP HPL
      cases fb with
      | true =>
        have e0 : Elt.vld Y = 0 := by rw [HV.out, if_pos (of_decide_eq_true HPU.out.symm)]
        have V1 := validate_any _ Y _ Y3.out (HE.out.under S4.out.src.below).tab
        rw [e0] at V1
        have HV1 := Lib.hid V1
        clear V1 e0 HV HPU
        go_wp2_with fail
        refine HV1.out.mono ?_
        rintro e w5 ⟨rfl, g5⟩
        have SW := Lib.hid (S4.out.under g5)
        clear g5 S4 HV1 X4 Y3 B3
        by_cases hM0 : M.length = 0
        · have q0 : ((M.length : Int) == 0) = true := by rw [hM0]; rfl
          clear hM0
          go_wp2_with fail
          refine (awake_from (w0 := w) _ (HE.out.under SW.out.src.below) SW.out.src.below).mono ?_
          rintro e w6 ⟨rfl, g6⟩
          have B6 := Lib.hid g6; clear g6
          go_wp2_with fail
          go_ret
          exact ⟨rfl, B6.out⟩
        · have q0 : ((M.length : Int) == 0) = false := beq_eq_false_iff_ne.2 (by omega)
          have m1 : (1 : Int) ≤ (M.length : Int) := by omega
          have m2 : (M.length : Int) ≤ 11 := by have := HML.out; omega
          clear hM0
          go_wp2_with fail
          refine (n_any w _ _ _ SW.out.src (by omega) (by omega)).mono ?_
          rintro e w6 ⟨k, ⟨k1, k2⟩, rfl, s6, g6⟩
          have S6 := Lib.hid (SW.out.step s6 g6)
          clear s6 g6 SW q0
          obtain ⟨k, rfl⟩ := Int.eq_ofNat_of_zero_le k1
          have hkM : k < M.length := by omega
          obtain ⟨g, off, cap', e, hc1, hc2, hgl, hcell⟩ := (RdIn.own S6.out.own).one (by omega)
          injection e with e1 e2 e3
          subst e1
          subst e3
          have CA := Lib.hid (CellsAt.of hgl hcell)
          obtain ⟨c0, c1⟩ := hcell k hkM
          have HD := Lib.hid (dbl_vld HG.out hkM)
          clear hcell e2
          generalize hz : M[k] = z at *
          have HZ := Lib.hid hz; clear hz
          obtain ⟨a, b⟩ := z
          simp only at c0 c1
          have n1 : (k : Int) + 1 ≤ (cap : Int) := by omega
          have n2 : (k : Int) + 1 ≤ (M.length : Int) := by omega
          have n3 : (0 : Int) ≤ (k : Int) + 1 := by omega
          have n4 : (k : Int) < (M.length : Int) := by omega
          go_upto_region 16 with fail
          go_cut [10] from 61 to 77 (fun tw wc => Wt w6 (dbl M k (a, b)) tw wc)
          case first =>
            have x1 : IntKind.i64.wrap ((k : Int) + 1) = (k : Int) + 1 := IntWalk.i64_in _ (by omega)
            have HT : Hid ((M.take (k + 1)).length = k + 1) := Lib.hid (by rw [List.length_take]; omega)
            have HR : Hid ((M.drop (k + 1)).length = M.length - (k + 1)) := Lib.hid (by rw [List.length_drop])
            have HC := Lib.hid (show M.length ≤ cap ∧ k < M.length ∧ M.length ≤ 11 from ⟨hc1, hkM, HML.out⟩)
            refine wp_region_held_drew (S := fun wx : World => Below w6.heap.size w6 wx) (by kernel_rfl) ⟨rfl, rfl, rfl, Nat.le_refl _, fun _ _ => rfl⟩ (fun hHeld => ?_)
            refine wpAnyH_take (i := 1) (oi := ⟨some 62, _, _, _, _, none⟩) (v := ?_) rfl (by kernel_rfl) (by kernel_rfl) (by kernel_rfl) (fun _ _ _ h => h) (Or.inl ⟨by rfl, ?_⟩) (by assumption) ?_
            case refine_2 => (intro wx hSx; (try dsimp only at hSx); go_simp; first | done | with_reducible rfl)
            try simp only [Act.put, List.setIfInBounds_toArray, List.set_cons_zero, List.set_cons_succ]
            refine wpAnyH_take (i := 2) (oi := ⟨some 63, _, _, _, _, none⟩) (v := ?_) rfl (by kernel_rfl) (by kernel_rfl) (by kernel_rfl) (fun _ _ _ h => h) (Or.inl ⟨by rfl, ?_⟩) (by assumption) ?_
            case refine_2 => (intro wx hSx; (try dsimp only at hSx); go_simp; first | done | with_reducible rfl)
            try simp only [Act.put, List.setIfInBounds_toArray, List.set_cons_zero, List.set_cons_succ]
            refine wpAnyH_take (i := 3) (oi := ⟨some 64, _, _, _, _, none⟩) (v := ?_) rfl (by kernel_rfl) (by kernel_rfl) (by kernel_rfl) (fun _ _ _ h => h) (Or.inl ⟨by rfl, ?_⟩) (by assumption) ?_
            case refine_2 => (intro wx hSx; (try dsimp only at hSx); go_simp; first | done | with_reducible rfl)
            try simp only [Act.put, List.setIfInBounds_toArray, List.set_cons_zero, List.set_cons_succ]
            refine wpAnyH_take (i := 4) (oi := ⟨some 65, _, _, _, _, none⟩) (v := .slice (some ⟨g, off, none⟩) (k + 1) cap) rfl (by kernel_rfl) (by kernel_rfl) (by kernel_rfl) (fun _ _ _ h => h) (Or.inl ⟨by rfl, ?_⟩) (by assumption) ?_
            case refine_1 => (intro wx hSx; clear hSx; go_simp)
            try simp only [Act.put, List.setIfInBounds_toArray, List.set_cons_zero, List.set_cons_succ]
            refine wpAnyH_take (i := 6) (oi := ⟨some 67, _, _, _, _, none⟩) (v := ?_) rfl (by kernel_rfl) (by kernel_rfl) (by kernel_rfl) (fun _ _ _ h => h) (Or.inl ⟨by rfl, ?_⟩) (by assumption) ?_
            case refine_2 => (intro wx hSx; (try dsimp only at hSx); go_simp; first | done | with_reducible rfl)
            try simp only [Act.put, List.setIfInBounds_toArray, List.set_cons_zero, List.set_cons_succ]
            refine wpAnyH_take (i := 7) (oi := ⟨some 68, _, _, _, _, none⟩) (v := ?_) rfl (by kernel_rfl) (by kernel_rfl) (by kernel_rfl) (fun _ _ _ h => h) (Or.inl ⟨by rfl, ?_⟩) (by assumption) ?_
            case refine_2 => (intro wx hSx; (try dsimp only at hSx); go_simp; first | done | with_reducible rfl)
            try simp only [Act.put, List.setIfInBounds_toArray, List.set_cons_zero, List.set_cons_succ]
            refine wpAnyH_take (i := 8) (oi := ⟨some 69, _, _, _, _, none⟩) (v := ?_) rfl (by kernel_rfl) (by kernel_rfl) (by kernel_rfl) (fun _ _ _ h => h) (Or.inl ⟨by rfl, ?_⟩) (by assumption) ?_
            case refine_2 => (intro wx hSx; (try dsimp only at hSx); go_simp; first | done | with_reducible rfl)
            try simp only [Act.put, List.setIfInBounds_toArray, List.set_cons_zero, List.set_cons_succ]
            refine wpAnyH_take (i := 9) (oi := ⟨some 70, _, _, _, _, none⟩) (v := rdV a b) rfl (by kernel_rfl) (by kernel_rfl) (by kernel_rfl) (fun _ _ _ h => h) (Or.inl ⟨by rfl, ?_⟩) (by assumption) ?_
            case refine_1 => (intro wx hSx; have d0 := (hSx.cell (p := ⟨g, off + k * 2, none⟩) hgl).trans c0; have d1 := (hSx.cell (p := ⟨g, off + k * 2 + 1, none⟩) hgl).trans c1; clear hSx; go_simp; first | done | rfl)
            try simp only [Act.put, List.setIfInBounds_toArray, List.set_cons_zero, List.set_cons_succ]
            refine wpAnyH_take (i := 12) (oi := ⟨some 73, _, _, _, _, none⟩) (v := ?_) rfl (by kernel_rfl) (by kernel_rfl) (by kernel_rfl) (fun _ _ _ h => h) (Or.inl ⟨by rfl, ?_⟩) (by assumption) ?_
            case refine_2 => (intro wx hSx; (try dsimp only at hSx); go_simp; first | done | with_reducible rfl)
            try simp only [Act.put, List.setIfInBounds_toArray, List.set_cons_zero, List.set_cons_succ]
            refine wpAnyH_take (i := 13) (oi := ⟨some 74, _, _, _, _, none⟩) (v := ?_) rfl (by kernel_rfl) (by kernel_rfl) (by kernel_rfl) (fun _ _ _ h => h) (Or.inl ⟨by rfl, ?_⟩) (by assumption) ?_
            case refine_2 => (intro wx hSx; (try dsimp only at hSx); go_simp; first | done | with_reducible rfl)
            try simp only [Act.put, List.setIfInBounds_toArray, List.set_cons_zero, List.set_cons_succ]
            refine wpAnyH_take (i := 14) (oi := ⟨some 75, _, _, _, _, none⟩) (v := ?_) rfl (by kernel_rfl) (by kernel_rfl) (by kernel_rfl) (fun _ _ _ h => h) (Or.inl ⟨by rfl, ?_⟩) (by assumption) ?_
            case refine_2 => (intro wx hSx; (try dsimp only at hSx); go_simp; first | done | with_reducible rfl)
            try simp only [Act.put, List.setIfInBounds_toArray, List.set_cons_zero, List.set_cons_succ]
            refine wpAnyH_take (i := 15) (oi := ⟨some 76, _, _, _, _, none⟩) (v := .slice (some (if cap = k + 1 then ⟨g, off, none⟩ else ⟨g, off + (k + 1) * 2, none⟩)) (M.length - (k + 1)) (cap - (k + 1))) rfl (by kernel_rfl) (by kernel_rfl) (by kernel_rfl) (fun _ _ _ h => h) (Or.inl ⟨by rfl, ?_⟩) (by assumption) ?_
            case refine_1 => (intro wx hSx; clear hSx; go_simp; first | done | (split <;> rfl))
            try simp only [Act.put, List.setIfInBounds_toArray, List.set_cons_zero, List.set_cons_succ]
            clear hHeld x1 c0 c1 n1 n2 n3 n4 k1 k2
            refine wpAnyH_ready (rs := [0, 10]) (by kernel_rfl) (by simp) ?_
            refine (AllReadyH.cons (o := ⟨some 61, _, _, _, _, none⟩) rfl (fun K hK => ?_) (AllReadyH.cons (o := ⟨some 71, _, _, _, _, none⟩) rfl (fun K hK => ?_) AllReadyH.nil))
            · go_simp
              have L0 := Lib.hid (Wt.drew (Wt.lit (W := w6) (X := w6) (Below.refl _ _)))
              refine hK.out _ _ L0.out.below (fun _ => ?_)
              clear hK K
              try simp only [Act.put, List.setIfInBounds_toArray, List.set_cons_zero, List.set_cons_succ]
              refine genH (fun X => Wt w6 [] (.slice (some ⟨w6.heap.size, 0, none⟩) 0 0) X) L0.out ?_
              clear L0
              intro X1 L
              have L := Lib.hid L
              have c71 := Lib.hid (show w6.heap.size ≠ X1.heap.size from fun e => by have := (L.out.own.lt w6.heap.size rfl).2; omega)
              refine wpAnyH_ready (rs := [5, 10]) (by kernel_rfl) (by simp) ?_
              refine (AllReadyH.cons (o := ⟨some 66, _, _, _, _, none⟩) rfl (fun K hK => ?_) (AllReadyH.cons (o := ⟨some 71, _, _, _, _, none⟩) rfl (fun K hK => ?_) AllReadyH.nil))
              · refine step_append_own rfl (.tmp 61) (.tmp 65) 22 rfl w6.heap.size 47 i0 _ 2 16 Tryd.underlying22 hi hz0 hz1 hz2 rfl (by decide) _ ([] : List Elt.R).length (rdc ([] : List Elt.R)) rfl L.out.own ⟨g, off, none⟩ (k + 1) cap (rdc (M.take (k + 1))) rfl (by rw [rdc_len, HT.out]) ((CA.out.take (k + 1)).under L.out.below).adds (rdc_one _) (by have := HC.out; simp only [List.length_nil]; unfold maxLen; omega) (by have := HC.out; simp only [List.length_nil]; omega) L.out.below.size ?_
                intro vn X3 hown hgr
                have L9 : Hid (Wt w6 (M.take (k + 1)) vn X3) := Lib.hid (L.out.app (N := M.take (k + 1)) HT.out hown hgr)
                clear hown hgr
                refine hK.out _ _ L9.out.below (fun _ => ?_)
                clear hK K
                try simp only [Act.put, List.setIfInBounds_toArray, List.set_cons_zero, List.set_cons_succ]
                refine genH (fun X => Wt w6 (M.take (k + 1)) vn X) L9.out ?_
                clear L9 L
                intro X4 L
                have L := Lib.hid L
                refine wpAnyH_ready (rs := [10]) (by kernel_rfl) (by simp) ?_
                refine (AllReadyH.cons (o := ⟨some 71, _, _, _, _, none⟩) rfl (fun K hK => ?_) AllReadyH.nil)
                go_simp
                have NB := Lib.hid (CellsAt.new X4 (a, b))
                have LB := Lib.hid (Wt.under L.out ((Below.refl X4.heap.size X4).alloc (Nat.le_refl _) (.cells #[.int .i64 a, .int .i64 b] 47)))
                refine hK.out _ _ LB.out.below (fun _ => ?_)
                clear hK K
                try simp only [Act.put, List.setIfInBounds_toArray, List.set_cons_zero, List.set_cons_succ]
                refine genH (fun X => Wt w6 (M.take (k + 1)) vn X ∧ CellsAt X X4.heap.size 0 [(a, b)]) ⟨LB.out, NB.out⟩ ?_
                clear LB NB L
                rintro X2 ⟨L, N⟩
                have L := Lib.hid L
                have N := Lib.hid N
                refine wpAnyH_ready (rs := [11]) (by kernel_rfl) (by simp) ?_
                refine (AllReadyH.cons (o := ⟨some 72, _, _, _, _, none⟩) rfl (fun K hK => ?_) AllReadyH.nil)
                refine step_append_own rfl (.tmp 66) (.tmp 71) 22 rfl w6.heap.size 47 i0 _ 2 16 Tryd.underlying22 hi hz0 hz1 hz2 rfl (by decide) _ (M.take (k + 1)).length (rdc (M.take (k + 1))) rfl L.out.own ⟨X4.heap.size, 0, none⟩ 1 1 (rdc [(a, b)]) rfl rfl N.out.adds (rdc_one _) (by have := HC.out; have := HT.out; unfold maxLen; omega) (by have := HC.out; have := HT.out; omega) L.out.below.size ?_
                intro vn X3 hown hgr
                have L9 := Lib.hid (L.out.app (N := [(a, b)]) (m := 1) rfl hown hgr)
                clear hown hgr
                refine hK.out _ _ L9.out.below (fun _ => ?_)
                clear hK K
                try simp only [Act.put, List.setIfInBounds_toArray, List.set_cons_zero, List.set_cons_succ]
                refine genH (fun X => Wt w6 (M.take (k + 1) ++ [(a, b)]) vn X) L9.out ?_
                clear L9 L N
                intro X5 L
                have L := Lib.hid L
                refine wpAnyH_ready (rs := [16]) (by kernel_rfl) (by simp) ?_
                refine (AllReadyH.cons (o := ⟨some 77, _, _, _, _, none⟩) rfl (fun K hK => ?_) AllReadyH.nil)
                refine step_append_own rfl (.tmp 72) (.tmp 76) 22 rfl w6.heap.size 47 i0 _ 2 16 Tryd.underlying22 hi hz0 hz1 hz2 rfl (by decide) _ (M.take (k + 1) ++ [(a, b)]).length (rdc (M.take (k + 1) ++ [(a, b)])) rfl L.out.own _ (M.length - (k + 1)) (cap - (k + 1)) (rdc (M.drop (k + 1))) rfl (by rw [rdc_len, HR.out]) ((CA.out.under L.out.below).rest HC.out.1 HC.out.2.1) (rdc_one _) (by have := HC.out; have := HT.out; simp only [List.length_append, List.length_singleton]; unfold maxLen; omega) (by have := HC.out; have := HT.out; simp only [List.length_append, List.length_singleton]; omega) L.out.below.size ?_
                intro vn X3 hown hgr
                have L9 := Lib.hid (L.out.app (N := M.drop (k + 1)) HR.out hown hgr)
                clear hown hgr
                refine hK.out _ _ L9.out.below (fun _ => ?_)
                clear hK K
                try simp only [Act.put, List.setIfInBounds_toArray, List.set_cons_zero, List.set_cons_succ]
                refine genH (fun X => Wt w6 (dbl M k (a, b)) vn X) L9.out ?_
                clear L9 L
                intro X6 L
                have L := Lib.hid L
                have hHeld := L.out.below
                refine wpAnyH_take (i := 17) (oi := ⟨some 10, _, _, _, _, none⟩) (v := ?_) rfl (by kernel_rfl) (by kernel_rfl) (by kernel_rfl) (fun _ _ _ h => h) (Or.inl ⟨by rfl, ?_⟩) (by assumption) ?_
                case refine_2 => (intro wx hSx; (try dsimp only at hSx); go_simp; first | done | with_reducible rfl)
                try simp only [Act.put, List.setIfInBounds_toArray, List.set_cons_zero, List.set_cons_succ]
                refine wpAnyH_done (by kernel_rfl) ?_ _
                clear hHeld
                generalize (if cap = k + 1 then (⟨g, off, none⟩ : Addr) else ⟨g, off + (k + 1) * 2, none⟩) = ad
                go_wp2_with fail
                go_meet
                exact L.out
              · go_simp
                have NB := Lib.hid (CellsAt.new X1 (a, b))
                have LB := Lib.hid (Wt.under L.out ((Below.refl X1.heap.size X1).alloc (Nat.le_refl _) (.cells #[.int .i64 a, .int .i64 b] 47)))
                refine hK.out _ _ LB.out.below (fun _ => ?_)
                clear hK K
                try simp only [Act.put, List.setIfInBounds_toArray, List.set_cons_zero, List.set_cons_succ]
                refine genH (fun X => Wt w6 [] (.slice (some ⟨w6.heap.size, 0, none⟩) 0 0) X ∧ CellsAt X X1.heap.size 0 [(a, b)]) ⟨LB.out, NB.out⟩ ?_
                clear LB NB L
                rintro X2 ⟨L, N⟩
                have L := Lib.hid L
                have N := Lib.hid N
                refine wpAnyH_ready (rs := [5]) (by kernel_rfl) (by simp) ?_
                refine (AllReadyH.cons (o := ⟨some 66, _, _, _, _, none⟩) rfl (fun K hK => ?_) AllReadyH.nil)
                refine step_append_own rfl (.tmp 61) (.tmp 65) 22 rfl w6.heap.size 47 i0 _ 2 16 Tryd.underlying22 hi hz0 hz1 hz2 rfl (by decide) _ ([] : List Elt.R).length (rdc ([] : List Elt.R)) rfl L.out.own ⟨g, off, none⟩ (k + 1) cap (rdc (M.take (k + 1))) rfl (by rw [rdc_len, HT.out]) ((CA.out.take (k + 1)).under L.out.below).adds (rdc_one _) (by have := HC.out; simp only [List.length_nil]; unfold maxLen; omega) (by have := HC.out; simp only [List.length_nil]; omega) L.out.below.size ?_
                intro vn X3 hown hgr
                have L9 : Hid (Wt w6 (M.take (k + 1)) vn X3) := Lib.hid (L.out.app (N := M.take (k + 1)) HT.out hown hgr)
                have N9 := Lib.hid (CellsAt.kept N.out hgr (by intro e; injection e with e; exact c71.out e))
                clear hown hgr
                refine hK.out _ _ L9.out.below (fun _ => ?_)
                clear hK K
                try simp only [Act.put, List.setIfInBounds_toArray, List.set_cons_zero, List.set_cons_succ]
                refine genH (fun X => Wt w6 (M.take (k + 1)) vn X ∧ CellsAt X X1.heap.size 0 [(a, b)]) ⟨L9.out, N9.out⟩ ?_
                clear L9 N9 L N
                rintro X4 ⟨L, N⟩
                have L := Lib.hid L
                have N := Lib.hid N
                refine wpAnyH_ready (rs := [11]) (by kernel_rfl) (by simp) ?_
                refine (AllReadyH.cons (o := ⟨some 72, _, _, _, _, none⟩) rfl (fun K hK => ?_) AllReadyH.nil)
                refine step_append_own rfl (.tmp 66) (.tmp 71) 22 rfl w6.heap.size 47 i0 _ 2 16 Tryd.underlying22 hi hz0 hz1 hz2 rfl (by decide) _ (M.take (k + 1)).length (rdc (M.take (k + 1))) rfl L.out.own ⟨X1.heap.size, 0, none⟩ 1 1 (rdc [(a, b)]) rfl rfl N.out.adds (rdc_one _) (by have := HC.out; have := HT.out; unfold maxLen; omega) (by have := HC.out; have := HT.out; omega) L.out.below.size ?_
                intro vn X3 hown hgr
                have L9 := Lib.hid (L.out.app (N := [(a, b)]) (m := 1) rfl hown hgr)
                clear hown hgr
                refine hK.out _ _ L9.out.below (fun _ => ?_)
                clear hK K
                try simp only [Act.put, List.setIfInBounds_toArray, List.set_cons_zero, List.set_cons_succ]
                refine genH (fun X => Wt w6 (M.take (k + 1) ++ [(a, b)]) vn X) L9.out ?_
                clear L9 L N
                intro X5 L
                have L := Lib.hid L
                refine wpAnyH_ready (rs := [16]) (by kernel_rfl) (by simp) ?_
                refine (AllReadyH.cons (o := ⟨some 77, _, _, _, _, none⟩) rfl (fun K hK => ?_) AllReadyH.nil)
                refine step_append_own rfl (.tmp 72) (.tmp 76) 22 rfl w6.heap.size 47 i0 _ 2 16 Tryd.underlying22 hi hz0 hz1 hz2 rfl (by decide) _ (M.take (k + 1) ++ [(a, b)]).length (rdc (M.take (k + 1) ++ [(a, b)])) rfl L.out.own _ (M.length - (k + 1)) (cap - (k + 1)) (rdc (M.drop (k + 1))) rfl (by rw [rdc_len, HR.out]) ((CA.out.under L.out.below).rest HC.out.1 HC.out.2.1) (rdc_one _) (by have := HC.out; have := HT.out; simp only [List.length_append, List.length_singleton]; unfold maxLen; omega) (by have := HC.out; have := HT.out; simp only [List.length_append, List.length_singleton]; omega) L.out.below.size ?_
                intro vn X3 hown hgr
                have L9 := Lib.hid (L.out.app (N := M.drop (k + 1)) HR.out hown hgr)
                clear hown hgr
                refine hK.out _ _ L9.out.below (fun _ => ?_)
                clear hK K
                try simp only [Act.put, List.setIfInBounds_toArray, List.set_cons_zero, List.set_cons_succ]
                refine genH (fun X => Wt w6 (dbl M k (a, b)) vn X) L9.out ?_
                clear L9 L
                intro X6 L
                have L := Lib.hid L
                have hHeld := L.out.below
                refine wpAnyH_take (i := 17) (oi := ⟨some 10, _, _, _, _, none⟩) (v := ?_) rfl (by kernel_rfl) (by kernel_rfl) (by kernel_rfl) (fun _ _ _ h => h) (Or.inl ⟨by rfl, ?_⟩) (by assumption) ?_
                case refine_2 => (intro wx hSx; (try dsimp only at hSx); go_simp; first | done | with_reducible rfl)
                try simp only [Act.put, List.setIfInBounds_toArray, List.set_cons_zero, List.set_cons_succ]
                refine wpAnyH_done (by kernel_rfl) ?_ _
                clear hHeld
                generalize (if cap = k + 1 then (⟨g, off, none⟩ : Addr) else ⟨g, off + (k + 1) * 2, none⟩) = ad
                go_wp2_with fail
                go_meet
                exact L.out

            · go_simp
              have NB := Lib.hid (show CellsAt (w6.alloc (.cells #[.int .i64 a, .int .i64 b] 47)).drew w6.heap.size 0 [(a, b)] from CellsAt.new w6 (a, b))
              have LB : Hid (Below w6.heap.size w6 (w6.alloc (.cells #[.int .i64 a, .int .i64 b] 47)).drew) := Lib.hid (((Below.refl _ _).alloc (Nat.le_refl _) _).trans ⟨rfl, rfl, rfl, Nat.le_refl _, fun _ _ => rfl⟩)
              refine hK.out _ _ LB.out (fun _ => ?_)
              clear hK K
              try simp only [Act.put, List.setIfInBounds_toArray, List.set_cons_zero, List.set_cons_succ]
              refine genH (fun X => Below w6.heap.size w6 X ∧ CellsAt X w6.heap.size 0 [(a, b)]) ⟨LB.out, NB.out⟩ ?_
              clear LB NB
              rintro X1 ⟨BX, N⟩
              have BX := Lib.hid BX
              have N := Lib.hid N
              refine wpAnyH_ready (rs := [0]) (by kernel_rfl) (by simp) ?_
              refine (AllReadyH.cons (o := ⟨some 61, _, _, _, _, none⟩) rfl (fun K hK => ?_) AllReadyH.nil)
              go_simp
              have L0 := Lib.hid (Wt.lit (W := w6) (X := X1) BX.out)
              have NB := Lib.hid (CellsAt.under N.out ((Below.refl X1.heap.size X1).alloc (Nat.le_refl _) (.cells #[] 47)))
              refine hK.out _ _ L0.out.below (fun _ => ?_)
              clear hK K
              try simp only [Act.put, List.setIfInBounds_toArray, List.set_cons_zero, List.set_cons_succ]
              have c61 := Lib.hid (show X1.heap.size ≠ w6.heap.size from fun e => by have := N.out.1; omega)
              refine genH (fun X => Wt w6 [] (.slice (some ⟨X1.heap.size, 0, none⟩) 0 0) X ∧ CellsAt X w6.heap.size 0 [(a, b)]) ⟨L0.out, NB.out⟩ ?_
              clear L0 NB N
              rintro X2 ⟨L, N⟩
              have L := Lib.hid L
              have N := Lib.hid N
              refine wpAnyH_ready (rs := [5]) (by kernel_rfl) (by simp) ?_
              refine (AllReadyH.cons (o := ⟨some 66, _, _, _, _, none⟩) rfl (fun K hK => ?_) AllReadyH.nil)
              refine step_append_own rfl (.tmp 61) (.tmp 65) 22 rfl w6.heap.size 47 i0 _ 2 16 Tryd.underlying22 hi hz0 hz1 hz2 rfl (by decide) _ ([] : List Elt.R).length (rdc ([] : List Elt.R)) rfl L.out.own ⟨g, off, none⟩ (k + 1) cap (rdc (M.take (k + 1))) rfl (by rw [rdc_len, HT.out]) ((CA.out.take (k + 1)).under L.out.below).adds (rdc_one _) (by have := HC.out; simp only [List.length_nil]; unfold maxLen; omega) (by have := HC.out; simp only [List.length_nil]; omega) L.out.below.size ?_
              intro vn X3 hown hgr
              have L9 : Hid (Wt w6 (M.take (k + 1)) vn X3) := Lib.hid (L.out.app (N := M.take (k + 1)) HT.out hown hgr)
              have N9 := Lib.hid (CellsAt.kept N.out hgr (by intro e; injection e with e; exact c61.out e))
              clear hown hgr
              refine hK.out _ _ L9.out.below (fun _ => ?_)
              clear hK K
              try simp only [Act.put, List.setIfInBounds_toArray, List.set_cons_zero, List.set_cons_succ]
              refine genH (fun X => Wt w6 (M.take (k + 1)) vn X ∧ CellsAt X w6.heap.size 0 [(a, b)]) ⟨L9.out, N9.out⟩ ?_
              clear L9 N9 L N
              rintro X4 ⟨L, N⟩
              have L := Lib.hid L
              have N := Lib.hid N
              refine wpAnyH_ready (rs := [11]) (by kernel_rfl) (by simp) ?_
              refine (AllReadyH.cons (o := ⟨some 72, _, _, _, _, none⟩) rfl (fun K hK => ?_) AllReadyH.nil)
              refine step_append_own rfl (.tmp 66) (.tmp 71) 22 rfl w6.heap.size 47 i0 _ 2 16 Tryd.underlying22 hi hz0 hz1 hz2 rfl (by decide) _ (M.take (k + 1)).length (rdc (M.take (k + 1))) rfl L.out.own ⟨w6.heap.size, 0, none⟩ 1 1 (rdc [(a, b)]) rfl rfl N.out.adds (rdc_one _) (by have := HC.out; have := HT.out; unfold maxLen; omega) (by have := HC.out; have := HT.out; omega) L.out.below.size ?_
              intro vn X3 hown hgr
              have L9 := Lib.hid (L.out.app (N := [(a, b)]) (m := 1) rfl hown hgr)
              clear hown hgr
              refine hK.out _ _ L9.out.below (fun _ => ?_)
              clear hK K
              try simp only [Act.put, List.setIfInBounds_toArray, List.set_cons_zero, List.set_cons_succ]
              refine genH (fun X => Wt w6 (M.take (k + 1) ++ [(a, b)]) vn X) L9.out ?_
              clear L9 L N
              intro X5 L
              have L := Lib.hid L
              refine wpAnyH_ready (rs := [16]) (by kernel_rfl) (by simp) ?_
              refine (AllReadyH.cons (o := ⟨some 77, _, _, _, _, none⟩) rfl (fun K hK => ?_) AllReadyH.nil)
              refine step_append_own rfl (.tmp 72) (.tmp 76) 22 rfl w6.heap.size 47 i0 _ 2 16 Tryd.underlying22 hi hz0 hz1 hz2 rfl (by decide) _ (M.take (k + 1) ++ [(a, b)]).length (rdc (M.take (k + 1) ++ [(a, b)])) rfl L.out.own _ (M.length - (k + 1)) (cap - (k + 1)) (rdc (M.drop (k + 1))) rfl (by rw [rdc_len, HR.out]) ((CA.out.under L.out.below).rest HC.out.1 HC.out.2.1) (rdc_one _) (by have := HC.out; have := HT.out; simp only [List.length_append, List.length_singleton]; unfold maxLen; omega) (by have := HC.out; have := HT.out; simp only [List.length_append, List.length_singleton]; omega) L.out.below.size ?_
              intro vn X3 hown hgr
              have L9 := Lib.hid (L.out.app (N := M.drop (k + 1)) HR.out hown hgr)
              clear hown hgr
              refine hK.out _ _ L9.out.below (fun _ => ?_)
              clear hK K
              try simp only [Act.put, List.setIfInBounds_toArray, List.set_cons_zero, List.set_cons_succ]
              refine genH (fun X => Wt w6 (dbl M k (a, b)) vn X) L9.out ?_
              clear L9 L
              intro X6 L
              have L := Lib.hid L
              have hHeld := L.out.below
              refine wpAnyH_take (i := 17) (oi := ⟨some 10, _, _, _, _, none⟩) (v := ?_) rfl (by kernel_rfl) (by kernel_rfl) (by kernel_rfl) (fun _ _ _ h => h) (Or.inl ⟨by rfl, ?_⟩) (by assumption) ?_
              case refine_2 => (intro wx hSx; (try dsimp only at hSx); go_simp; first | done | with_reducible rfl)
              try simp only [Act.put, List.setIfInBounds_toArray, List.set_cons_zero, List.set_cons_succ]
              refine wpAnyH_done (by kernel_rfl) ?_ _
              clear hHeld
              generalize (if cap = k + 1 then (⟨g, off, none⟩ : Addr) else ⟨g, off + (k + 1) * 2, none⟩) = ad
              go_wp2_with fail
              go_meet
              exact L.out
          case rest =>
            have BC := Lib.hid hcut.below
            have T8 := Lib.hid (RdIn.own hcut.own)
            have SC := Lib.hid (S6.out.under hcut.below)
            clear hcut S6 CA c0 c1 hgl
            have V9 := validate_any _ _ _ T8.out (HE.out.under SC.out.src.below).tab
            rw [HD.out] at V9
            have HV9 := Lib.hid V9
            clear V9
            go_wp2_with fail
            refine HV9.out.mono ?_
            rintro e w9 ⟨rfl, g9⟩
            have B9 := Lib.hid (SC.out.src.below.trans (g9.mono SC.out.src.below.size))
            clear g9 HV9
            go_wp2_with fail
            refine (awake_from (w0 := w) _ (HE.out.under B9.out) B9.out).mono ?_
            rintro e w10 ⟨rfl, g10⟩
            have B10 := Lib.hid g10; clear g10
            go_wp2_with fail
            go_ret
            exact ⟨rfl, B10.out⟩
      | false =>
        have e0 : Elt.vld Y = 8 := by rw [HV.out, if_neg (of_decide_eq_false HPU.out.symm)]
        have V1 := validate_any _ Y _ Y3.out (HE.out.under S4.out.src.below).tab
        rw [e0] at V1
        have HV1 := Lib.hid V1
        clear V1 HV HPU
        go_wp2_with fail
        refine HV1.out.mono ?_
        rintro e w4 ⟨rfl, g4⟩
        have Y4 := Lib.hid (Y3.out.under g4)
        have S5 := Lib.hid (S4.out.under g4)
        have V2 := validate_any _ Y _ Y4.out (HE.out.under S5.out.src.below).tab
        rw [e0] at V2
        have HV2 := Lib.hid V2
        clear V2 e0 g4 S4 HV1
        go_wp2_with fail
        refine HV2.out.mono ?_
        rintro e w5 ⟨rfl, g5⟩
        have SW := Lib.hid (S5.out.under g5)
        clear g5 S5 HV2 X4 Y3 Y4 B3
        by_cases hM0 : M.length = 0
        · have q0 : ((M.length : Int) == 0) = true := by rw [hM0]; rfl
          clear hM0
          go_wp2_with fail
          refine (awake_from (w0 := w) _ (HE.out.under SW.out.src.below) SW.out.src.below).mono ?_
          rintro e w6 ⟨rfl, g6⟩
          have B6 := Lib.hid g6; clear g6
          go_wp2_with fail
          go_ret
          exact ⟨rfl, B6.out⟩
        · have q0 : ((M.length : Int) == 0) = false := beq_eq_false_iff_ne.2 (by omega)
          have m1 : (1 : Int) ≤ (M.length : Int) := by omega
          have m2 : (M.length : Int) ≤ 11 := by have := HML.out; omega
          clear hM0
          go_wp2_with fail
          refine (n_any w _ _ _ SW.out.src (by omega) (by omega)).mono ?_
          rintro e w6 ⟨k, ⟨k1, k2⟩, rfl, s6, g6⟩
          have S6 := Lib.hid (SW.out.step s6 g6)
          clear s6 g6 SW q0
          obtain ⟨k, rfl⟩ := Int.eq_ofNat_of_zero_le k1
          have hkM : k < M.length := by omega
          obtain ⟨g, off, cap', e, hc1, hc2, hgl, hcell⟩ := (RdIn.own S6.out.own).one (by omega)
          injection e with e1 e2 e3
          subst e1
          subst e3
          have CA := Lib.hid (CellsAt.of hgl hcell)
          obtain ⟨c0, c1⟩ := hcell k hkM
          have HD := Lib.hid (dbl_vld HG.out hkM)
          clear hcell e2
          generalize hz : M[k] = z at *
          have HZ := Lib.hid hz; clear hz
          obtain ⟨a, b⟩ := z
          simp only at c0 c1
          have n1 : (k : Int) + 1 ≤ (cap : Int) := by omega
          have n2 : (k : Int) + 1 ≤ (M.length : Int) := by omega
          have n3 : (0 : Int) ≤ (k : Int) + 1 := by omega
          have n4 : (k : Int) < (M.length : Int) := by omega
          go_upto_region 16 with fail
          go_cut [10] from 61 to 77 (fun tw wc => Wt w6 (dbl M k (a, b)) tw wc)
          case first =>
            have x1 : IntKind.i64.wrap ((k : Int) + 1) = (k : Int) + 1 := IntWalk.i64_in _ (by omega)
            have HT : Hid ((M.take (k + 1)).length = k + 1) := Lib.hid (by rw [List.length_take]; omega)
            have HR : Hid ((M.drop (k + 1)).length = M.length - (k + 1)) := Lib.hid (by rw [List.length_drop])
            have HC := Lib.hid (show M.length ≤ cap ∧ k < M.length ∧ M.length ≤ 11 from ⟨hc1, hkM, HML.out⟩)
            refine wp_region_held_drew (S := fun wx : World => Below w6.heap.size w6 wx) (by kernel_rfl) ⟨rfl, rfl, rfl, Nat.le_refl _, fun _ _ => rfl⟩ (fun hHeld => ?_)
            refine wpAnyH_take (i := 1) (oi := ⟨some 62, _, _, _, _, none⟩) (v := ?_) rfl (by kernel_rfl) (by kernel_rfl) (by kernel_rfl) (fun _ _ _ h => h) (Or.inl ⟨by rfl, ?_⟩) (by assumption) ?_
            case refine_2 => (intro wx hSx; (try dsimp only at hSx); go_simp; first | done | with_reducible rfl)
            try simp only [Act.put, List.setIfInBounds_toArray, List.set_cons_zero, List.set_cons_succ]
            refine wpAnyH_take (i := 2) (oi := ⟨some 63, _, _, _, _, none⟩) (v := ?_) rfl (by kernel_rfl) (by kernel_rfl) (by kernel_rfl) (fun _ _ _ h => h) (Or.inl ⟨by rfl, ?_⟩) (by assumption) ?_
            case refine_2 => (intro wx hSx; (try dsimp only at hSx); go_simp; first | done | with_reducible rfl)
            try simp only [Act.put, List.setIfInBounds_toArray, List.set_cons_zero, List.set_cons_succ]
            refine wpAnyH_take (i := 3) (oi := ⟨some 64, _, _, _, _, none⟩) (v := ?_) rfl (by kernel_rfl) (by kernel_rfl) (by kernel_rfl) (fun _ _ _ h => h) (Or.inl ⟨by rfl, ?_⟩) (by assumption) ?_
            case refine_2 => (intro wx hSx; (try dsimp only at hSx); go_simp; first | done | with_reducible rfl)
            try simp only [Act.put, List.setIfInBounds_toArray, List.set_cons_zero, List.set_cons_succ]
            refine wpAnyH_take (i := 4) (oi := ⟨some 65, _, _, _, _, none⟩) (v := .slice (some ⟨g, off, none⟩) (k + 1) cap) rfl (by kernel_rfl) (by kernel_rfl) (by kernel_rfl) (fun _ _ _ h => h) (Or.inl ⟨by rfl, ?_⟩) (by assumption) ?_
            case refine_1 => (intro wx hSx; clear hSx; go_simp)
            try simp only [Act.put, List.setIfInBounds_toArray, List.set_cons_zero, List.set_cons_succ]
            refine wpAnyH_take (i := 6) (oi := ⟨some 67, _, _, _, _, none⟩) (v := ?_) rfl (by kernel_rfl) (by kernel_rfl) (by kernel_rfl) (fun _ _ _ h => h) (Or.inl ⟨by rfl, ?_⟩) (by assumption) ?_
            case refine_2 => (intro wx hSx; (try dsimp only at hSx); go_simp; first | done | with_reducible rfl)
            try simp only [Act.put, List.setIfInBounds_toArray, List.set_cons_zero, List.set_cons_succ]
            refine wpAnyH_take (i := 7) (oi := ⟨some 68, _, _, _, _, none⟩) (v := ?_) rfl (by kernel_rfl) (by kernel_rfl) (by kernel_rfl) (fun _ _ _ h => h) (Or.inl ⟨by rfl, ?_⟩) (by assumption) ?_
            case refine_2 => (intro wx hSx; (try dsimp only at hSx); go_simp; first | done | with_reducible rfl)
            try simp only [Act.put, List.setIfInBounds_toArray, List.set_cons_zero, List.set_cons_succ]
            refine wpAnyH_take (i := 8) (oi := ⟨some 69, _, _, _, _, none⟩) (v := ?_) rfl (by kernel_rfl) (by kernel_rfl) (by kernel_rfl) (fun _ _ _ h => h) (Or.inl ⟨by rfl, ?_⟩) (by assumption) ?_
            case refine_2 => (intro wx hSx; (try dsimp only at hSx); go_simp; first | done | with_reducible rfl)
            try simp only [Act.put, List.setIfInBounds_toArray, List.set_cons_zero, List.set_cons_succ]
            refine wpAnyH_take (i := 9) (oi := ⟨some 70, _, _, _, _, none⟩) (v := rdV a b) rfl (by kernel_rfl) (by kernel_rfl) (by kernel_rfl) (fun _ _ _ h => h) (Or.inl ⟨by rfl, ?_⟩) (by assumption) ?_
            case refine_1 => (intro wx hSx; have d0 := (hSx.cell (p := ⟨g, off + k * 2, none⟩) hgl).trans c0; have d1 := (hSx.cell (p := ⟨g, off + k * 2 + 1, none⟩) hgl).trans c1; clear hSx; go_simp; first | done | rfl)
            try simp only [Act.put, List.setIfInBounds_toArray, List.set_cons_zero, List.set_cons_succ]
            refine wpAnyH_take (i := 12) (oi := ⟨some 73, _, _, _, _, none⟩) (v := ?_) rfl (by kernel_rfl) (by kernel_rfl) (by kernel_rfl) (fun _ _ _ h => h) (Or.inl ⟨by rfl, ?_⟩) (by assumption) ?_
            case refine_2 => (intro wx hSx; (try dsimp only at hSx); go_simp; first | done | with_reducible rfl)
            try simp only [Act.put, List.setIfInBounds_toArray, List.set_cons_zero, List.set_cons_succ]
            refine wpAnyH_take (i := 13) (oi := ⟨some 74, _, _, _, _, none⟩) (v := ?_) rfl (by kernel_rfl) (by kernel_rfl) (by kernel_rfl) (fun _ _ _ h => h) (Or.inl ⟨by rfl, ?_⟩) (by assumption) ?_
            case refine_2 => (intro wx hSx; (try dsimp only at hSx); go_simp; first | done | with_reducible rfl)
            try simp only [Act.put, List.setIfInBounds_toArray, List.set_cons_zero, List.set_cons_succ]
            refine wpAnyH_take (i := 14) (oi := ⟨some 75, _, _, _, _, none⟩) (v := ?_) rfl (by kernel_rfl) (by kernel_rfl) (by kernel_rfl) (fun _ _ _ h => h) (Or.inl ⟨by rfl, ?_⟩) (by assumption) ?_
            case refine_2 => (intro wx hSx; (try dsimp only at hSx); go_simp; first | done | with_reducible rfl)
            try simp only [Act.put, List.setIfInBounds_toArray, List.set_cons_zero, List.set_cons_succ]
            refine wpAnyH_take (i := 15) (oi := ⟨some 76, _, _, _, _, none⟩) (v := .slice (some (if cap = k + 1 then ⟨g, off, none⟩ else ⟨g, off + (k + 1) * 2, none⟩)) (M.length - (k + 1)) (cap - (k + 1))) rfl (by kernel_rfl) (by kernel_rfl) (by kernel_rfl) (fun _ _ _ h => h) (Or.inl ⟨by rfl, ?_⟩) (by assumption) ?_
            case refine_1 => (intro wx hSx; clear hSx; go_simp; first | done | (split <;> rfl))
            try simp only [Act.put, List.setIfInBounds_toArray, List.set_cons_zero, List.set_cons_succ]
            clear hHeld x1 c0 c1 n1 n2 n3 n4 k1 k2
            refine wpAnyH_ready (rs := [0, 10]) (by kernel_rfl) (by simp) ?_
            refine (AllReadyH.cons (o := ⟨some 61, _, _, _, _, none⟩) rfl (fun K hK => ?_) (AllReadyH.cons (o := ⟨some 71, _, _, _, _, none⟩) rfl (fun K hK => ?_) AllReadyH.nil))
            · go_simp
              have L0 := Lib.hid (Wt.drew (Wt.lit (W := w6) (X := w6) (Below.refl _ _)))
              refine hK.out _ _ L0.out.below (fun _ => ?_)
              clear hK K
              try simp only [Act.put, List.setIfInBounds_toArray, List.set_cons_zero, List.set_cons_succ]
              refine genH (fun X => Wt w6 [] (.slice (some ⟨w6.heap.size, 0, none⟩) 0 0) X) L0.out ?_
              clear L0
              intro X1 L
              have L := Lib.hid L
              have c71 := Lib.hid (show w6.heap.size ≠ X1.heap.size from fun e => by have := (L.out.own.lt w6.heap.size rfl).2; omega)
              refine wpAnyH_ready (rs := [5, 10]) (by kernel_rfl) (by simp) ?_
              refine (AllReadyH.cons (o := ⟨some 66, _, _, _, _, none⟩) rfl (fun K hK => ?_) (AllReadyH.cons (o := ⟨some 71, _, _, _, _, none⟩) rfl (fun K hK => ?_) AllReadyH.nil))
              · refine step_append_own rfl (.tmp 61) (.tmp 65) 22 rfl w6.heap.size 47 i0 _ 2 16 Tryd.underlying22 hi hz0 hz1 hz2 rfl (by decide) _ ([] : List Elt.R).length (rdc ([] : List Elt.R)) rfl L.out.own ⟨g, off, none⟩ (k + 1) cap (rdc (M.take (k + 1))) rfl (by rw [rdc_len, HT.out]) ((CA.out.take (k + 1)).under L.out.below).adds (rdc_one _) (by have := HC.out; simp only [List.length_nil]; unfold maxLen; omega) (by have := HC.out; simp only [List.length_nil]; omega) L.out.below.size ?_
                intro vn X3 hown hgr
                have L9 : Hid (Wt w6 (M.take (k + 1)) vn X3) := Lib.hid (L.out.app (N := M.take (k + 1)) HT.out hown hgr)
                clear hown hgr
                refine hK.out _ _ L9.out.below (fun _ => ?_)
                clear hK K
                try simp only [Act.put, List.setIfInBounds_toArray, List.set_cons_zero, List.set_cons_succ]
                refine genH (fun X => Wt w6 (M.take (k + 1)) vn X) L9.out ?_
                clear L9 L
                intro X4 L
                have L := Lib.hid L
                refine wpAnyH_ready (rs := [10]) (by kernel_rfl) (by simp) ?_
                refine (AllReadyH.cons (o := ⟨some 71, _, _, _, _, none⟩) rfl (fun K hK => ?_) AllReadyH.nil)
                go_simp
                have NB := Lib.hid (CellsAt.new X4 (a, b))
                have LB := Lib.hid (Wt.under L.out ((Below.refl X4.heap.size X4).alloc (Nat.le_refl _) (.cells #[.int .i64 a, .int .i64 b] 47)))
                refine hK.out _ _ LB.out.below (fun _ => ?_)
                clear hK K
                try simp only [Act.put, List.setIfInBounds_toArray, List.set_cons_zero, List.set_cons_succ]
                refine genH (fun X => Wt w6 (M.take (k + 1)) vn X ∧ CellsAt X X4.heap.size 0 [(a, b)]) ⟨LB.out, NB.out⟩ ?_
                clear LB NB L
                rintro X2 ⟨L, N⟩
                have L := Lib.hid L
                have N := Lib.hid N
                refine wpAnyH_ready (rs := [11]) (by kernel_rfl) (by simp) ?_
                refine (AllReadyH.cons (o := ⟨some 72, _, _, _, _, none⟩) rfl (fun K hK => ?_) AllReadyH.nil)
                refine step_append_own rfl (.tmp 66) (.tmp 71) 22 rfl w6.heap.size 47 i0 _ 2 16 Tryd.underlying22 hi hz0 hz1 hz2 rfl (by decide) _ (M.take (k + 1)).length (rdc (M.take (k + 1))) rfl L.out.own ⟨X4.heap.size, 0, none⟩ 1 1 (rdc [(a, b)]) rfl rfl N.out.adds (rdc_one _) (by have := HC.out; have := HT.out; unfold maxLen; omega) (by have := HC.out; have := HT.out; omega) L.out.below.size ?_
                intro vn X3 hown hgr
                have L9 := Lib.hid (L.out.app (N := [(a, b)]) (m := 1) rfl hown hgr)
                clear hown hgr
                refine hK.out _ _ L9.out.below (fun _ => ?_)
                clear hK K
                try simp only [Act.put, List.setIfInBounds_toArray, List.set_cons_zero, List.set_cons_succ]
                refine genH (fun X => Wt w6 (M.take (k + 1) ++ [(a, b)]) vn X) L9.out ?_
                clear L9 L N
                intro X5 L
                have L := Lib.hid L
                refine wpAnyH_ready (rs := [16]) (by kernel_rfl) (by simp) ?_
                refine (AllReadyH.cons (o := ⟨some 77, _, _, _, _, none⟩) rfl (fun K hK => ?_) AllReadyH.nil)
                refine step_append_own rfl (.tmp 72) (.tmp 76) 22 rfl w6.heap.size 47 i0 _ 2 16 Tryd.underlying22 hi hz0 hz1 hz2 rfl (by decide) _ (M.take (k + 1) ++ [(a, b)]).length (rdc (M.take (k + 1) ++ [(a, b)])) rfl L.out.own _ (M.length - (k + 1)) (cap - (k + 1)) (rdc (M.drop (k + 1))) rfl (by rw [rdc_len, HR.out]) ((CA.out.under L.out.below).rest HC.out.1 HC.out.2.1) (rdc_one _) (by have := HC.out; have := HT.out; simp only [List.length_append, List.length_singleton]; unfold maxLen; omega) (by have := HC.out; have := HT.out; simp only [List.length_append, List.length_singleton]; omega) L.out.below.size ?_
                intro vn X3 hown hgr
                have L9 := Lib.hid (L.out.app (N := M.drop (k + 1)) HR.out hown hgr)
                clear hown hgr
                refine hK.out _ _ L9.out.below (fun _ => ?_)
                clear hK K
                try simp only [Act.put, List.setIfInBounds_toArray, List.set_cons_zero, List.set_cons_succ]
                refine genH (fun X => Wt w6 (dbl M k (a, b)) vn X) L9.out ?_
                clear L9 L
                intro X6 L
                have L := Lib.hid L
                have hHeld := L.out.below
                refine wpAnyH_take (i := 17) (oi := ⟨some 10, _, _, _, _, none⟩) (v := ?_) rfl (by kernel_rfl) (by kernel_rfl) (by kernel_rfl) (fun _ _ _ h => h) (Or.inl ⟨by rfl, ?_⟩) (by assumption) ?_
                case refine_2 => (intro wx hSx; (try dsimp only at hSx); go_simp; first | done | with_reducible rfl)
                try simp only [Act.put, List.setIfInBounds_toArray, List.set_cons_zero, List.set_cons_succ]
                refine wpAnyH_done (by kernel_rfl) ?_ _
                clear hHeld
                generalize (if cap = k + 1 then (⟨g, off, none⟩ : Addr) else ⟨g, off + (k + 1) * 2, none⟩) = ad
                go_wp2_with fail
                go_meet
                exact L.out
              · go_simp
                have NB := Lib.hid (CellsAt.new X1 (a, b))
                have LB := Lib.hid (Wt.under L.out ((Below.refl X1.heap.size X1).alloc (Nat.le_refl _) (.cells #[.int .i64 a, .int .i64 b] 47)))
                refine hK.out _ _ LB.out.below (fun _ => ?_)
                clear hK K
                try simp only [Act.put, List.setIfInBounds_toArray, List.set_cons_zero, List.set_cons_succ]
                refine genH (fun X => Wt w6 [] (.slice (some ⟨w6.heap.size, 0, none⟩) 0 0) X ∧ CellsAt X X1.heap.size 0 [(a, b)]) ⟨LB.out, NB.out⟩ ?_
                clear LB NB L
                rintro X2 ⟨L, N⟩
                have L := Lib.hid L
                have N := Lib.hid N
                refine wpAnyH_ready (rs := [5]) (by kernel_rfl) (by simp) ?_
                refine (AllReadyH.cons (o := ⟨some 66, _, _, _, _, none⟩) rfl (fun K hK => ?_) AllReadyH.nil)
                refine step_append_own rfl (.tmp 61) (.tmp 65) 22 rfl w6.heap.size 47 i0 _ 2 16 Tryd.underlying22 hi hz0 hz1 hz2 rfl (by decide) _ ([] : List Elt.R).length (rdc ([] : List Elt.R)) rfl L.out.own ⟨g, off, none⟩ (k + 1) cap (rdc (M.take (k + 1))) rfl (by rw [rdc_len, HT.out]) ((CA.out.take (k + 1)).under L.out.below).adds (rdc_one _) (by have := HC.out; simp only [List.length_nil]; unfold maxLen; omega) (by have := HC.out; simp only [List.length_nil]; omega) L.out.below.size ?_
                intro vn X3 hown hgr
                have L9 : Hid (Wt w6 (M.take (k + 1)) vn X3) := Lib.hid (L.out.app (N := M.take (k + 1)) HT.out hown hgr)
                have N9 := Lib.hid (CellsAt.kept N.out hgr (by intro e; injection e with e; exact c71.out e))
                clear hown hgr
                refine hK.out _ _ L9.out.below (fun _ => ?_)
                clear hK K
                try simp only [Act.put, List.setIfInBounds_toArray, List.set_cons_zero, List.set_cons_succ]
                refine genH (fun X => Wt w6 (M.take (k + 1)) vn X ∧ CellsAt X X1.heap.size 0 [(a, b)]) ⟨L9.out, N9.out⟩ ?_
                clear L9 N9 L N
                rintro X4 ⟨L, N⟩
                have L := Lib.hid L
                have N := Lib.hid N
                refine wpAnyH_ready (rs := [11]) (by kernel_rfl) (by simp) ?_
                refine (AllReadyH.cons (o := ⟨some 72, _, _, _, _, none⟩) rfl (fun K hK => ?_) AllReadyH.nil)
                refine step_append_own rfl (.tmp 66) (.tmp 71) 22 rfl w6.heap.size 47 i0 _ 2 16 Tryd.underlying22 hi hz0 hz1 hz2 rfl (by decide) _ (M.take (k + 1)).length (rdc (M.take (k + 1))) rfl L.out.own ⟨X1.heap.size, 0, none⟩ 1 1 (rdc [(a, b)]) rfl rfl N.out.adds (rdc_one _) (by have := HC.out; have := HT.out; unfold maxLen; omega) (by have := HC.out; have := HT.out; omega) L.out.below.size ?_
                intro vn X3 hown hgr
                have L9 := Lib.hid (L.out.app (N := [(a, b)]) (m := 1) rfl hown hgr)
                clear hown hgr
                refine hK.out _ _ L9.out.below (fun _ => ?_)
                clear hK K
                try simp only [Act.put, List.setIfInBounds_toArray, List.set_cons_zero, List.set_cons_succ]
                refine genH (fun X => Wt w6 (M.take (k + 1) ++ [(a, b)]) vn X) L9.out ?_
                clear L9 L N
                intro X5 L
                have L := Lib.hid L
                refine wpAnyH_ready (rs := [16]) (by kernel_rfl) (by simp) ?_
                refine (AllReadyH.cons (o := ⟨some 77, _, _, _, _, none⟩) rfl (fun K hK => ?_) AllReadyH.nil)
                refine step_append_own rfl (.tmp 72) (.tmp 76) 22 rfl w6.heap.size 47 i0 _ 2 16 Tryd.underlying22 hi hz0 hz1 hz2 rfl (by decide) _ (M.take (k + 1) ++ [(a, b)]).length (rdc (M.take (k + 1) ++ [(a, b)])) rfl L.out.own _ (M.length - (k + 1)) (cap - (k + 1)) (rdc (M.drop (k + 1))) rfl (by rw [rdc_len, HR.out]) ((CA.out.under L.out.below).rest HC.out.1 HC.out.2.1) (rdc_one _) (by have := HC.out; have := HT.out; simp only [List.length_append, List.length_singleton]; unfold maxLen; omega) (by have := HC.out; have := HT.out; simp only [List.length_append, List.length_singleton]; omega) L.out.below.size ?_
                intro vn X3 hown hgr
                have L9 := Lib.hid (L.out.app (N := M.drop (k + 1)) HR.out hown hgr)
                clear hown hgr
                refine hK.out _ _ L9.out.below (fun _ => ?_)
                clear hK K
                try simp only [Act.put, List.setIfInBounds_toArray, List.set_cons_zero, List.set_cons_succ]
                refine genH (fun X => Wt w6 (dbl M k (a, b)) vn X) L9.out ?_
                clear L9 L
                intro X6 L
                have L := Lib.hid L
                have hHeld := L.out.below
                refine wpAnyH_take (i := 17) (oi := ⟨some 10, _, _, _, _, none⟩) (v := ?_) rfl (by kernel_rfl) (by kernel_rfl) (by kernel_rfl) (fun _ _ _ h => h) (Or.inl ⟨by rfl, ?_⟩) (by assumption) ?_
                case refine_2 => (intro wx hSx; (try dsimp only at hSx); go_simp; first | done | with_reducible rfl)
                try simp only [Act.put, List.setIfInBounds_toArray, List.set_cons_zero, List.set_cons_succ]
                refine wpAnyH_done (by kernel_rfl) ?_ _
                clear hHeld
                generalize (if cap = k + 1 then (⟨g, off, none⟩ : Addr) else ⟨g, off + (k + 1) * 2, none⟩) = ad
                go_wp2_with fail
                go_meet
                exact L.out

            · go_simp
              have NB := Lib.hid (show CellsAt (w6.alloc (.cells #[.int .i64 a, .int .i64 b] 47)).drew w6.heap.size 0 [(a, b)] from CellsAt.new w6 (a, b))
              have LB : Hid (Below w6.heap.size w6 (w6.alloc (.cells #[.int .i64 a, .int .i64 b] 47)).drew) := Lib.hid (((Below.refl _ _).alloc (Nat.le_refl _) _).trans ⟨rfl, rfl, rfl, Nat.le_refl _, fun _ _ => rfl⟩)
              refine hK.out _ _ LB.out (fun _ => ?_)
              clear hK K
              try simp only [Act.put, List.setIfInBounds_toArray, List.set_cons_zero, List.set_cons_succ]
              refine genH (fun X => Below w6.heap.size w6 X ∧ CellsAt X w6.heap.size 0 [(a, b)]) ⟨LB.out, NB.out⟩ ?_
              clear LB NB
              rintro X1 ⟨BX, N⟩
              have BX := Lib.hid BX
              have N := Lib.hid N
              refine wpAnyH_ready (rs := [0]) (by kernel_rfl) (by simp) ?_
              refine (AllReadyH.cons (o := ⟨some 61, _, _, _, _, none⟩) rfl (fun K hK => ?_) AllReadyH.nil)
              go_simp
              have L0 := Lib.hid (Wt.lit (W := w6) (X := X1) BX.out)
              have NB := Lib.hid (CellsAt.under N.out ((Below.refl X1.heap.size X1).alloc (Nat.le_refl _) (.cells #[] 47)))
              refine hK.out _ _ L0.out.below (fun _ => ?_)
              clear hK K
              try simp only [Act.put, List.setIfInBounds_toArray, List.set_cons_zero, List.set_cons_succ]
              have c61 := Lib.hid (show X1.heap.size ≠ w6.heap.size from fun e => by have := N.out.1; omega)
              refine genH (fun X => Wt w6 [] (.slice (some ⟨X1.heap.size, 0, none⟩) 0 0) X ∧ CellsAt X w6.heap.size 0 [(a, b)]) ⟨L0.out, NB.out⟩ ?_
              clear L0 NB N
              rintro X2 ⟨L, N⟩
              have L := Lib.hid L
              have N := Lib.hid N
              refine wpAnyH_ready (rs := [5]) (by kernel_rfl) (by simp) ?_
              refine (AllReadyH.cons (o := ⟨some 66, _, _, _, _, none⟩) rfl (fun K hK => ?_) AllReadyH.nil)
              refine step_append_own rfl (.tmp 61) (.tmp 65) 22 rfl w6.heap.size 47 i0 _ 2 16 Tryd.underlying22 hi hz0 hz1 hz2 rfl (by decide) _ ([] : List Elt.R).length (rdc ([] : List Elt.R)) rfl L.out.own ⟨g, off, none⟩ (k + 1) cap (rdc (M.take (k + 1))) rfl (by rw [rdc_len, HT.out]) ((CA.out.take (k + 1)).under L.out.below).adds (rdc_one _) (by have := HC.out; simp only [List.length_nil]; unfold maxLen; omega) (by have := HC.out; simp only [List.length_nil]; omega) L.out.below.size ?_
              intro vn X3 hown hgr
              have L9 : Hid (Wt w6 (M.take (k + 1)) vn X3) := Lib.hid (L.out.app (N := M.take (k + 1)) HT.out hown hgr)
              have N9 := Lib.hid (CellsAt.kept N.out hgr (by intro e; injection e with e; exact c61.out e))
              clear hown hgr
              refine hK.out _ _ L9.out.below (fun _ => ?_)
              clear hK K
              try simp only [Act.put, List.setIfInBounds_toArray, List.set_cons_zero, List.set_cons_succ]
              refine genH (fun X => Wt w6 (M.take (k + 1)) vn X ∧ CellsAt X w6.heap.size 0 [(a, b)]) ⟨L9.out, N9.out⟩ ?_
              clear L9 N9 L N
              rintro X4 ⟨L, N⟩
              have L := Lib.hid L
              have N := Lib.hid N
              refine wpAnyH_ready (rs := [11]) (by kernel_rfl) (by simp) ?_
              refine (AllReadyH.cons (o := ⟨some 72, _, _, _, _, none⟩) rfl (fun K hK => ?_) AllReadyH.nil)
              refine step_append_own rfl (.tmp 66) (.tmp 71) 22 rfl w6.heap.size 47 i0 _ 2 16 Tryd.underlying22 hi hz0 hz1 hz2 rfl (by decide) _ (M.take (k + 1)).length (rdc (M.take (k + 1))) rfl L.out.own ⟨w6.heap.size, 0, none⟩ 1 1 (rdc [(a, b)]) rfl rfl N.out.adds (rdc_one _) (by have := HC.out; have := HT.out; unfold maxLen; omega) (by have := HC.out; have := HT.out; omega) L.out.below.size ?_
              intro vn X3 hown hgr
              have L9 := Lib.hid (L.out.app (N := [(a, b)]) (m := 1) rfl hown hgr)
              clear hown hgr
              refine hK.out _ _ L9.out.below (fun _ => ?_)
              clear hK K
              try simp only [Act.put, List.setIfInBounds_toArray, List.set_cons_zero, List.set_cons_succ]
              refine genH (fun X => Wt w6 (M.take (k + 1) ++ [(a, b)]) vn X) L9.out ?_
              clear L9 L N
              intro X5 L
              have L := Lib.hid L
              refine wpAnyH_ready (rs := [16]) (by kernel_rfl) (by simp) ?_
              refine (AllReadyH.cons (o := ⟨some 77, _, _, _, _, none⟩) rfl (fun K hK => ?_) AllReadyH.nil)
              refine step_append_own rfl (.tmp 72) (.tmp 76) 22 rfl w6.heap.size 47 i0 _ 2 16 Tryd.underlying22 hi hz0 hz1 hz2 rfl (by decide) _ (M.take (k + 1) ++ [(a, b)]).length (rdc (M.take (k + 1) ++ [(a, b)])) rfl L.out.own _ (M.length - (k + 1)) (cap - (k + 1)) (rdc (M.drop (k + 1))) rfl (by rw [rdc_len, HR.out]) ((CA.out.under L.out.below).rest HC.out.1 HC.out.2.1) (rdc_one _) (by have := HC.out; have := HT.out; simp only [List.length_append, List.length_singleton]; unfold maxLen; omega) (by have := HC.out; have := HT.out; simp only [List.length_append, List.length_singleton]; omega) L.out.below.size ?_
              intro vn X3 hown hgr
              have L9 := Lib.hid (L.out.app (N := M.drop (k + 1)) HR.out hown hgr)
              clear hown hgr
              refine hK.out _ _ L9.out.below (fun _ => ?_)
              clear hK K
              try simp only [Act.put, List.setIfInBounds_toArray, List.set_cons_zero, List.set_cons_succ]
              refine genH (fun X => Wt w6 (dbl M k (a, b)) vn X) L9.out ?_
              clear L9 L
              intro X6 L
              have L := Lib.hid L
              have hHeld := L.out.below
              refine wpAnyH_take (i := 17) (oi := ⟨some 10, _, _, _, _, none⟩) (v := ?_) rfl (by kernel_rfl) (by kernel_rfl) (by kernel_rfl) (fun _ _ _ h => h) (Or.inl ⟨by rfl, ?_⟩) (by assumption) ?_
              case refine_2 => (intro wx hSx; (try dsimp only at hSx); go_simp; first | done | with_reducible rfl)
              try simp only [Act.put, List.setIfInBounds_toArray, List.set_cons_zero, List.set_cons_succ]
              refine wpAnyH_done (by kernel_rfl) ?_ _
              clear hHeld
              generalize (if cap = k + 1 then (⟨g, off, none⟩ : Addr) else ⟨g, off + (k + 1) * 2, none⟩) = ad
              go_wp2_with fail
              go_meet
              exact L.out
          case rest =>
            have BC := Lib.hid hcut.below
            have T8 := Lib.hid (RdIn.own hcut.own)
            have SC := Lib.hid (S6.out.under hcut.below)
            clear hcut S6 CA c0 c1 hgl
            have V9 := validate_any _ _ _ T8.out (HE.out.under SC.out.src.below).tab
            rw [HD.out] at V9
            have HV9 := Lib.hid V9
            clear V9
            go_wp2_with fail
            refine HV9.out.mono ?_
            rintro e w9 ⟨rfl, g9⟩
            have B9 := Lib.hid (SC.out.src.below.trans (g9.mono SC.out.src.below.size))
            clear g9 HV9
            go_wp2_with fail
            refine (awake_from (w0 := w) _ (HE.out.under B9.out) B9.out).mono ?_
            rintro e w10 ⟨rfl, g10⟩
            have B10 := Lib.hid g10; clear g10
            go_wp2_with fail
            go_ret
            exact ⟨rfl, B10.out⟩
end Go.Proofs.YthlcpmkjemdhkaaDoor
