/- The program's Learn: the loops. -/
import Derived.Test.YtlakgkoohdfiaaaDoorCnA
import Derived.Test.YtlakgkoohdfiaaaDoorQat
namespace Go.Proofs.YtlakgkoohdfiaaaDoor
open Go.RowKit Go.Maps

/-- MAP UPDATE AS ONE STEP OF A DRAWN REGION. -/
theorem step_updS {ops : Array Oper} {o : Oper} {a : Act} {w w' : World} {K : Act → World → Prop} {Q : Exit → Act → World → Prop} {E : Prop} (hgd : o.guard = none) (m x v : Operand) (t : TypeId) (ho : o.op = .mapUpdate t m x v)
    {mv kv vv : Value} (hm : a.eval m = mv) (hx : a.eval x = kv) (hv : a.eval v = vv) (hr : (Instr.mapUpdate t mv kv vv).run Tryd.prog w = .ok () w') (h : K (a.put o.dst undef) w') :
    if Region.wanted o (yielded ops a.tmps) = true then Oper.wp Tryd.prog o a w K Q else E := by
  have hw : Region.wanted o (yielded ops a.tmps) = true := by simp [Region.wanted, hgd]
  rw [if_pos hw]
  unfold Oper.wp execOp
  simp only [ho, Sem.run_bind, Result.andThen_ok, hm, hx, hv, hr, Sem.run_pure]
  exact h
/-- What is known in Learn's loops. -/
structure La (W : World) (uv : Value) (R : List Rp) (gr b : Nat) (P : List (Sl × Int)) (w : World) : Prop where
  l1 : L1 W uv R gr w
  map : ∃ f, Lp w b P f
  hb : W.heap.size ≤ b
theorem La.under {W w w' : World} {uv : Value} {R : List Rp} {gr b : Nat} {P : List (Sl × Int)} (h : La W uv R gr b P w) (hb : Below w.heap.size w w') : La W uv R gr b P w' := by
  obtain ⟨f, hf⟩ := h.map
  exact ⟨h.l1.under hb, ⟨f, hf.kept (row := none) (grown_below hb) (by simp)⟩, h.hb⟩
set_option maxRecDepth 100000 in
set_option maxHeartbeats 8000000 in
theorem learn_of (uv : Value) (R : List Rp) (w : World) (hE : Env w) (hR : RpsIn w uv R) (hl : R.length ≤ 40) (hL : ∀ r ∈ R, r.L.length ≤ 40) (Q : Ending → World → Prop)
    (hErr : ∀ w', errC R ≠ 0 → Below w.heap.size w w' → Q (.returned (.tuple #[clV (.slice none 0 0), .int .i64 (errC R)])) w')
    (hBig : ∀ w', errC R = 0 → 200 < (outC R 2640).length → Below w.heap.size w w' → Q (.returned (.tuple #[clV (.slice none 0 0), .int .i64 2])) w')
    (hOk : ∀ v w', errC R = 0 → ¬ 200 < (outC R 2640).length → Below w.heap.size w w' → w'.ownsRow w.heap.size 50 5 v (outC R 2640).length (nrc (outC R 2640)) → Q (.returned (.tuple #[clV v, .int .i64 0])) w') :
    Calls Tryd.prog 28 #[uv] w Q := by
  have HErr := Lib.hid hErr
  have HBig := Lib.hid hBig
  have HOk := Lib.hid hOk
  have HE := Lib.hid hE
  have HLL := Lib.hid hL
  clear hErr hE hL hBig hOk
  have hmm := @run_makeMap Tryd.prog
  have b0 := (Below.refl w.heap.size w).alloc (Nat.le_refl _) (.cells #[.slice none 0 0] 24)
  have b1 := b0.alloc b0.size (.map #[] 0)
  have I0 : Hid (La w uv R w.heap.size (w.heap.size + 1) [] ((w.alloc (.cells #[.slice none 0 0] 24)).alloc (.map #[] 0))) := Lib.hid ⟨⟨b1, hR.under b1, (Row.new _ _ _).alloc _, Nat.le_refl _⟩, ⟨_, by have := Lp.made (w.alloc (.cells #[.slice none 0 0] 24)); simpa using this⟩, by omega⟩
  obtain ⟨A, cap, rfl, h1, h2, -⟩ := id hR
  have HR0 := Lib.hid hR
  clear hR b0 b1
  go_enter Tryd.func28, Tryd.ntmps28
  go_upto_region 2 with fail
  refine forget (fun Y => Hid (La w (.slice A R.length cap) R w.heap.size (w.heap.size + 1) [] Y)) I0 ?_
  clear I0
  obtain ⟨gr, hgr⟩ : ∃ g, w.heap.size = g := ⟨_, rfl⟩
  obtain ⟨b, hb⟩ : ∃ g, w.heap.size + 1 = g := ⟨_, rfl⟩
  rw [hb, hgr]
  clear hb hgr
  rintro Y I0
  go_wp2_with fail
  go_loopw [17] (fun t wr => ∃ k : Nat, k ≤ R.length ∧ t = .int .i64 k ∧ Hid (La w (.slice A R.length cap) R gr b (prs (R.take k)) wr) ∧ Hid (∀ j, ∀ h : j < R.length, j < k → erC R[j] = 0)) (fun t _ => R.length - (intOf t).toNat)
  case atStart => exact ⟨0, Nat.zero_le _, rfl, I0, Lib.hid (fun j h h' => by omega)⟩
  case round =>
    clear I0
    obtain ⟨k, hk, rfl, HI, HE0⟩ := hrel
    by_cases hlt : k < R.length
    · obtain ⟨A', cap', e, -, -, hat⟩ := HI.out.l1.rin
      injection e with e1 e2 e3
      subst e1
      obtain ⟨g, off, rfl, hgl, ⟨c0, c1, c2, c3, c4, c5, c6, c7⟩, hrd⟩ := hat k hlt
      have k0 : (0 : Int) ≤ (k : Int) := by omega
      have k1 : (k : Int) < (R.length : Int) := by omega
      have HN : Hid ((erC R[k] = 0 → ∀ j, ∀ h : j < R.length, j < k + 1 → erC R[j] = 0) ∧ (erC R[k] ≠ 0 → errC R = erC R[k])) := Lib.hid ⟨fun h j hj hjk => by
        rcases (by omega : j < k ∨ j = k) with q | rfl
        · exact HE0.out j hj q
        · exact h, fun h => errC_first R k hlt HE0.out h⟩
      have HPr := Lib.hid (prs_snoc R k hlt)
      have HLk := Lib.hid (HLL.out _ (List.getElem_mem hlt))
      have HPk := Lib.hid (prs_bd (take_vld HE0.out))
      have HPc : Hid ((prs (R.take k)).length ≤ 1600) := Lib.hid (by
        have h9 := prs_len (R.take k) (fun r hr => HLL.out r (List.mem_of_mem_take hr))
        rw [List.length_take] at h9
        omega)
      clear hat e3 HE0
      have HEr := Lib.hid (erP R[k])
      obtain ⟨P2, hP2⟩ : ∃ q, prs (R.take (k + 1)) = q := ⟨_, rfl⟩
      rw [hP2] at HPr
      have HP2 := Lib.hid hP2
      clear hP2
      obtain ⟨r, hRk⟩ : ∃ q, R[k] = q := ⟨_, rfl⟩
      rw [hRk] at c0 c1 c2 c3 c4 c5 c6 c7 hrd HEr HLk HN HPr
      obtain ⟨er, her⟩ : ∃ z, erC r = z := ⟨_, rfl⟩
      rw [her] at HEr HN
      clear her
      obtain ⟨rk, nm, t, F, A, B, C, u1, L⟩ := r
      simp only at c0 c1 c2 c3 c4 c5 c6 c7 hrd HEr HLk
      obtain ⟨Au, cu, eu, -⟩ := id hrd
      have eu' : u1 = .slice Au L.length cu := eu
      subst eu'
      have HRd := Lib.hid hrd
      have HRd0 : Hid (El.RdIn w (.slice Au L.length cu) L) := Lib.hid (by
        obtain ⟨A', cap', e, -, -, hat⟩ := HR0.out
        obtain ⟨g', off', -, -, -, hrd0⟩ := hat k hlt
        rw [hRk] at hrd0
        exact hrd0)
      clear hrd eu hRk
      have b1 := (Below.refl wr.heap.size wr).alloc (Nat.le_refl _) (.cells (repC rk nm t F A B C (.slice Au L.length cu)) 38)
      have I1 : Hid ((La w (.slice (some ⟨g, off, none⟩) R.length cap) R gr b (prs (R.take k)) (wr.alloc (.cells (repC rk nm t F A B C (.slice Au L.length cu)) 38)) ∧ El.RdIn (wr.alloc (.cells (repC rk nm t F A B C (.slice Au L.length cu)) 38)) (.slice Au L.length cu) L) ∧ Row (wr.alloc (.cells (repC rk nm t F A B C (.slice Au L.length cu)) 38)) wr.heap.size 38 (repC rk nm t F A B C (.slice Au L.length cu))) := Lib.hid ⟨⟨HI.out.under b1, El.RdIn.under HRd.out b1⟩, Row.new _ _ _⟩
      clear b1 HRd HI
      go_upto_region 5 with fail
      refine forget (fun Y => Hid ((La w (.slice (some ⟨g, off, none⟩) R.length cap) R gr b (prs (R.take k)) Y ∧ El.RdIn Y (.slice Au L.length cu) L) ∧ Row Y wr.heap.size 38 (repC rk nm t F A B C (.slice Au L.length cu)))) I1 ?_
      clear I1 c0 c1 c2 c3 c4 c5 c6 c7
      generalize wr.heap.size = gb at *
      rintro Y HY
      obtain ⟨q0, q1, q2, q3, q4, q5, q6, q7⟩ := row8 HY.out.2
      have HEv := Lib.hid (HE.out.under HY.out.1.1.l1.below)
      go_wp2_with fail
      refine (fam_any F A B C t _ HEv.out).mono ?_
      rintro e w2 ⟨rfl, g2⟩
      have H2 := Lib.hid (And.intro (And.intro (HY.out.1.1.under g2) (HY.out.1.2.under g2)) (HY.out.2.under g2))
      clear g2 HY q0 q1 q2 q3 q4 q5 q6 q7 HEv
      obtain ⟨q0, q1, q2, q3, q4, q5, q6, q7⟩ := row8 H2.out.2
      have HFm : Hid ((fam F A B C t).2.2 = 0 → (fam F A B C t).2.1 = mth t) := Lib.hid (fun h => by
        unfold fam at h ⊢
        by_cases hc : Pl.vb F A B C = true ∧ Ck.Cal.rng t = true
        · rw [if_pos hc]
        · rw [if_neg hc] at h; exact absurd h (by decide))
      have HFi := Lib.hid (fam_i64 F A B C t)
      generalize (fam F A B C t).1 = fc at *
      generalize (fam F A B C t).2.1 = mo at *
      generalize (fam F A B C t).2.2 = fe at *
      by_cases hfe : fe = 0
      · subst hfe
        by_cases hfc : fc = F
        · subst hfc
          have HEb : Hid (er = El.Elt.vld L) := Lib.hid (by rw [HEr.out, if_neg (by simp)])
          have HMo : Hid (mo = mth t) := Lib.hid (HFm.out rfl)
          clear HFm
          have HEw := Lib.hid (HE.out.under H2.out.1.1.l1.below)
          obtain ⟨z, hz⟩ : ∃ z, El.Elt.vld L = z := ⟨_, rfl⟩
          have HZ := Lib.hid hz
          have hv := El.validate_any _ L w2 H2.out.1.2 HEw.out.elt
          rw [hz] at hv
          have HVV := Lib.hid hv
          clear hz hv HEw
          go_wp2_with fail
          refine HVV.out.mono ?_
          rintro e w4 ⟨rfl, g4⟩
          have H4 := Lib.hid (And.intro (And.intro (H2.out.1.1.under g4) (H2.out.1.2.under g4)) (H2.out.2.under g4))
          clear g4 H2 HVV q0 q1 q2 q3 q4 q5 q6 q7
          by_cases h0 : z = 0
          · subst h0
            have HX := Lib.hid (HN.out.1 (by rw [HEb.out, HZ.out]))
            obtain ⟨q0, q1, q2, q3, q4, q5, q6, q7⟩ := row8 H4.out.2
            have H5 : Hid (La w (.slice (some ⟨g, off, none⟩) R.length cap) R gr b (prs (R.take k) ++ prsL fc mo (L.take 0)) w4 ∧ El.RdIn w4 (.slice Au L.length cu) L) := Lib.hid ⟨by rw [show prsL fc mo (L.take 0) = [] from rfl, List.append_nil]; exact H4.out.1.1, H4.out.1.2⟩
            clear H4
            go_upto_region 12 with fail
            go_loopw [50] (fun t wr => ∃ i : Nat, i ≤ L.length ∧ t = .int .i64 (i : Int) ∧ Hid (La w (.slice (some ⟨g, off, none⟩) R.length cap) R gr b (prs (R.take k) ++ prsL fc mo (L.take i)) wr ∧ El.RdIn wr (.slice Au L.length cu) L)) (fun t _ => L.length - (intOf t).toNat)
            case atStart => exact ⟨0, Nat.zero_le _, rfl, H5⟩
            case round =>
              clear H5
              obtain ⟨i, hi, rfl, H5⟩ := hrel
              by_cases hli : i < L.length
              · obtain ⟨A5, cap5, e5, -, -, hat⟩ := id H5.out.2
                injection e5 with e51 e52 e53
                subst e51
                obtain ⟨g5, off5, rfl, hg5, c0, c1⟩ := hat i hli
                have j0 : (0 : Int) ≤ (i : Int) := by omega
                have j1 : (i : Int) < (L.length : Int) := by omega
                have HPi := Lib.hid (prsL_snoc fc mo L i hli)
                have hxb := vals_bd HZ.out _ (List.getElem_mem hli)
                clear hat e53
                obtain ⟨P3, hP3⟩ : ∃ q, prsL fc mo (L.take (i + 1)) = q := ⟨_, rfl⟩
                rw [hP3] at HPi
                have HP3 := Lib.hid hP3
                clear hP3
                have hl40 : L.length ≤ 40 := HLk.out
                generalize L[i] = x at *
                obtain ⟨xc, xv⟩ := x
                simp only at c0 c1 hxb HPi
                have bb := ((Below.refl wr.heap.size wr).alloc (Nat.le_refl _) (.cells #[.int .i64 xc, .int .i64 xv] 81)).alloc (by simp) (.cells #[.int .i64 xc, .int .i64 fc, .int .i64 mo] 118)
                have I6 : Hid ((La w (.slice (some ⟨g, off, none⟩) R.length cap) R gr b (prs (R.take k) ++ prsL fc mo (L.take i)) ((wr.alloc (.cells #[.int .i64 xc, .int .i64 xv] 81)).alloc (.cells #[.int .i64 xc, .int .i64 fc, .int .i64 mo] 118)) ∧ El.RdIn ((wr.alloc (.cells #[.int .i64 xc, .int .i64 xv] 81)).alloc (.cells #[.int .i64 xc, .int .i64 fc, .int .i64 mo] 118)) (.slice (some ⟨g5, off5, none⟩) L.length cu) L) ∧ Row ((wr.alloc (.cells #[.int .i64 xc, .int .i64 xv] 81)).alloc (.cells #[.int .i64 xc, .int .i64 fc, .int .i64 mo] 118)) wr.heap.size 81 #[.int .i64 xc, .int .i64 xv] ∧ Row ((wr.alloc (.cells #[.int .i64 xc, .int .i64 xv] 81)).alloc (.cells #[.int .i64 xc, .int .i64 fc, .int .i64 mo] 118)) (wr.heap.size + 1) 118 #[.int .i64 xc, .int .i64 fc, .int .i64 mo]) := Lib.hid ⟨⟨H5.out.1.under bb, El.RdIn.under H5.out.2 bb⟩, (Row.new _ _ _).alloc _, Row.newAt (by simp)⟩
                clear bb H5
                go_upto_region 15 with fail
                refine forget (fun Y => Hid ((La w (.slice (some ⟨g, off, none⟩) R.length cap) R gr b (prs (R.take k) ++ prsL fc mo (L.take i)) Y ∧ El.RdIn Y (.slice (some ⟨g5, off5, none⟩) L.length cu) L) ∧ Row Y wr.heap.size 81 #[.int .i64 xc, .int .i64 xv] ∧ Row Y (wr.heap.size + 1) 118 #[.int .i64 xc, .int .i64 fc, .int .i64 mo])) I6 ?_
                clear I6 c0 c1
                obtain ⟨gs, hgs⟩ : ∃ q, wr.heap.size + 1 = q := ⟨_, rfl⟩
                rw [hgs]
                clear hgs
                generalize wr.heap.size = gx at *
                rintro Y6 H6
                have HP0 : Hid (∀ p ∈ prs (R.take k) ++ prsL fc mo (L.take i), -11000 ≤ p.2 ∧ p.2 ≤ 11000) := Lib.hid (fun p hp => by
                  rcases List.mem_append.1 hp with q | q
                  · exact HPk.out p q
                  · obtain ⟨x, hx, rfl⟩ := List.mem_map.1 q
                    exact (vals_bd HZ.out x (List.mem_of_mem_take hx)).2)
                have HPn : Hid ((prs (R.take k) ++ prsL fc mo (L.take i)).length ≤ 4000) := Lib.hid (by
                  have h9 := HPc.out
                  have h8 : (prsL fc mo (L.take i)).length ≤ L.length := by unfold prsL; rw [List.length_map, List.length_take]; omega
                  rw [List.length_append]
                  omega)
                have HOk : Hid (SlOk (xc, fc, mo)) := Lib.hid ⟨⟨by show (-9223372036854775808 : Int) ≤ xc; omega, by show xc ≤ 9223372036854775807; omega⟩, HFi.out.1, HFi.out.2⟩
                obtain ⟨P, hP⟩ : ∃ q, prs (R.take k) ++ prsL fc mo (L.take i) = q := ⟨_, rfl⟩
                rw [hP] at HP0 HPn H6
                have HPP := Lib.hid hP
                clear hP
                have HS := Lib.hid (show ∀ Z, Row Z gx 81 #[.int .i64 xc, .int .i64 xv] ∧ Row Z gs 118 #[.int .i64 xc, .int .i64 fc, .int .i64 mo] → (Z.cell? ⟨gx, 0, none⟩ = some (.int .i64 xc) ∧ Z.cell? ⟨gx, 1, none⟩ = some (.int .i64 xv)) ∧ Z.cell? ⟨gs, 0, none⟩ = some (.int .i64 xc) ∧ Z.cell? ⟨gs, 1, none⟩ = some (.int .i64 fc) ∧ Z.cell? ⟨gs, 2, none⟩ = some (.int .i64 mo) from fun Z hz => ⟨⟨(hz.1.cell 0).trans rfl, (hz.1.cell 1).trans rfl⟩, row3 hz.2⟩)
                have HD := Lib.hid (show ∀ W : World, Below W.heap.size W W.drew from fun _ => ⟨rfl, rfl, rfl, Nat.le_refl _, fun _ _ => rfl⟩)
                refine wp_region_held_drew (S := fun Z : World => (Z.cell? ⟨gx, 0, none⟩ = some (.int .i64 xc) ∧ Z.cell? ⟨gx, 1, none⟩ = some (.int .i64 xv)) ∧ Z.cell? ⟨gs, 0, none⟩ = some (.int .i64 xc) ∧ Z.cell? ⟨gs, 1, none⟩ = some (.int .i64 fc) ∧ Z.cell? ⟨gs, 2, none⟩ = some (.int .i64 mo)) (by kernel_rfl) (HS.out _ ⟨H6.out.2.1.under (HD.out _), H6.out.2.2.under (HD.out _)⟩) (fun hHeld => ?_)
                have H7 := Lib.hid (And.intro (And.intro (H6.out.1.1.under (HD.out Y6)) (El.RdIn.under H6.out.1.2 (HD.out Y6))) (And.intro (H6.out.2.1.under (HD.out Y6)) (H6.out.2.2.under (HD.out Y6))))
                clear H6
                generalize Y6.drew = X at *
                refine tk 0 (oi := ⟨some 59, _, _, _, _, none⟩) rfl ?_
                try go_frame
                refine tk 1 (oi := ⟨some 60, _, _, _, _, none⟩) rfl ?_
                try go_frame
                refine tk 2 (oi := ⟨some 61, _, _, _, _, none⟩) rfl ?_
                try go_frame
                refine tk 3 (oi := ⟨some 62, _, _, _, _, none⟩) rfl ?_
                try go_frame
                refine tk 5 (oi := ⟨some 64, _, _, _, _, none⟩) rfl ?_
                try go_frame
                refine tk 6 (oi := ⟨some 65, _, _, _, _, none⟩) rfl ?_
                try go_frame
                refine wpAnyH_ready (rs := [4]) (by kernel_rfl) (by simp) ?_
                refine AllReadyH.cons (o := ⟨some 63, _, _, _, _, none⟩) rfl (fun K hK => ?_) AllReadyH.nil
                obtain ⟨ff, hff⟩ := H7.out.1.1.map
                have hlk : (Instr.lookup 116 (.map (some b)) (.agg #[.int .i64 xc, .int .i64 fc, .int .i64 mo]) false).run Tryd.prog X = .ok (tlV (tOf P (xc, fc, mo))) X := hff.look Tryd.underlying116 (Tryd.zeroValue120 X) (key := (xc, fc, mo)) HOk.out
                have hTl := tOf_ok P (xc, fc, mo) HP0.out
                obtain ⟨tl, htl⟩ : ∃ q, tOf P (xc, fc, mo) = q := ⟨_, rfl⟩
                rw [htl] at hlk hTl
                have HTl := Lib.hid hTl
                have HTq := Lib.hid htl
                clear hTl htl hff
                go_simp
                refine hK.out _ _ hHeld (fun hHeld => ?_)
                clear hK K hlk
                try simp only [Act.put, List.setIfInBounds_toArray, List.set_cons_zero, List.set_cons_succ]
                refine wpAnyH_ready (rs := [7]) (by kernel_rfl) (by simp) ?_
                refine AllReadyH.cons (o := ⟨some 66, _, _, _, _, none⟩) rfl (fun K hK => ?_) AllReadyH.nil
                go_simp
                refine (with_any P.length tl xv _ (by have := HPn.out; omega) HTl.out hxb.2.1 hxb.2.2).mono ?_
                rintro e w8 ⟨rfl, g8⟩
                go_wp2_with fail
                have H8 := Lib.hid (And.intro (And.intro (H7.out.1.1.under g8) (El.RdIn.under H7.out.1.2 g8)) (And.intro (H7.out.2.1.under g8) (H7.out.2.2.under g8)))
                clear g8 H7 hHeld
                refine hK.out _ _ (HS.out _ H8.out.2) (fun hHeld => ?_)
                clear hK K
                try simp only [Act.put, List.setIfInBounds_toArray, List.set_cons_zero, List.set_cons_succ]
                refine wpAnyH_ready (rs := [8]) (by kernel_rfl) (by simp) ?_
                refine AllReadyH.cons (o := ⟨none, _, _, _, _, none⟩) rfl (fun K hK => ?_) AllReadyH.nil
                obtain ⟨f8, hf8⟩ := H8.out.1.1.map
                obtain ⟨w9, f9, hr9, hl9, hg9⟩ := hf8.step Tryd.underlying116 (by have := HPn.out; unfold maxLen; omega) HOk.out xv
                rw [HTq.out] at hr9
                refine step_updS rfl (.tmp 59) (.tmp 60) (.tmp 66) 116 rfl rfl rfl rfl hr9 ?_
                have H9 : Hid ((La w (.slice (some ⟨g, off, none⟩) R.length cap) R gr b (P ++ [((xc, fc, mo), xv)]) w9) ∧ Row w9 gx 81 #[.int .i64 xc, .int .i64 xv] ∧ Row w9 gs 118 #[.int .i64 xc, .int .i64 fc, .int .i64 mo]) := Lib.hid ⟨⟨H8.out.1.1.l1.grow' HR0.out hg9 (fun i e => by injection e with e; subst e; exact ⟨H8.out.1.1.hb, hf8.map.ne_row H8.out.1.1.l1.res⟩), ⟨f9, hl9⟩, H8.out.1.1.hb⟩, H8.out.2.1.grown hg9 (fun e => by injection e with e; exact hf8.map.ne_row H8.out.2.1 e.symm), H8.out.2.2.grown hg9 (fun e => by injection e with e; exact hf8.map.ne_row H8.out.2.2 e.symm)⟩
                clear hr9 hl9 hg9 hf8 H8
                refine hK.out _ _ (HS.out _ H9.out.2) (fun hHeld2 => ?_)
                clear hK K hHeld hHeld2
                try simp only [Act.put]
                refine wpAnyH_done (by kernel_rfl) ?_ _
                have H10 : Hid (La w (.slice (some ⟨g, off, none⟩) R.length cap) R gr b (prs (R.take k) ++ P3) w9 ∧ El.RdIn w9 (.slice (some ⟨g5, off5, none⟩) L.length cu) L) := Lib.hid ⟨by rw [HPi.out, ← List.append_assoc, HPP.out]; exact H9.out.1, El.RdIn.under HRd0.out H9.out.1.l1.below⟩
                clear H9
                go_wp2_with fail
                exact ⟨⟨i + 1, by omega, by go_num, by rw [HP3.out]; exact H10⟩, by simp [intOf]; omega⟩
              · obtain rfl : i = L.length := by omega
                have j1 : ¬ (L.length : Int) < (L.length : Int) := by omega
                have H9 : Hid (La w (.slice (some ⟨g, off, none⟩) R.length cap) R gr b P2 wr) := Lib.hid (by
                  have h9 := H5.out.1
                  rw [List.take_length] at h9
                  rw [HPr.out]
                  unfold prs1
                  rw [← HMo.out]
                  exact h9)
                clear H5
                go_wp2_with fail
                go_roundw
                case rel => exact ⟨k + 1, by omega, by go_num, by rw [HP2.out]; exact H9, HX⟩
                case measure => simp [intOf]; omega
          · have kz : (z != 0) = true := by rw [bne_iff_ne]; exact h0
            have HEc : Hid (er = z ∧ z ≠ 0) := Lib.hid ⟨by rw [HEb.out, HZ.out], h0⟩
            clear h0
            have f0 := H4.out.1.1.l1.res.thaw 0
            have y0 := (H4.out.1.1.l1.res.cell 0).trans rfl
            have HX := Lib.hid (H4.out.1.1.l1.put (.slice none 0 0))
            have HQe : Hid (errC R = z) := Lib.hid (by rw [HN.out.2 (by rw [HEc.out.1]; exact HEc.out.2), HEc.out.1])
            have HQ := Lib.hid (HErr.out _ (by rw [HQe.out]; exact HEc.out.2) HX.out.2)
            go_wp2_with fail
            exact bodyPost_ret (v := .tuple #[.agg #[.slice none 0 0], .int .i64 z]) (by have z0 := (HX.out.1.cell 0).trans rfl; simp [results, Tryd.results28, z0, go_sem]) rfl (by have h9 := HQ.out; rw [HQe.out] at h9; exact h9)
        · have kf : (fc == F) = false := beq_eq_false_iff_ne.2 hfc
          have HEb : Hid (er = 1) := Lib.hid (by rw [HEr.out, if_pos (Or.inr hfc)])
          have f0 := H2.out.1.1.l1.res.thaw 0
          have y0 := (H2.out.1.1.l1.res.cell 0).trans rfl
          have HX := Lib.hid (H2.out.1.1.l1.put (.slice none 0 0))
          have HQ := Lib.hid (HErr.out _ (by rw [HN.out.2 (by rw [HEb.out]; decide), HEb.out]; decide) HX.out.2)
          have HQe : Hid (errC R = 1) := Lib.hid (by rw [HN.out.2 (by rw [HEb.out]; decide), HEb.out])
          go_wp2_with fail
          exact bodyPost_ret (v := .tuple #[.agg #[.slice none 0 0], .int .i64 1]) (by have z0 := (HX.out.1.cell 0).trans rfl; simp [results, Tryd.results28, z0, go_sem]) rfl (by have h9 := HQ.out; rw [HQe.out] at h9; exact h9)
      · have kfe : (fe == 0) = false := beq_eq_false_iff_ne.2 hfe
        have HEb : Hid (er = 1) := Lib.hid (by rw [HEr.out, if_pos (Or.inl hfe)])
        have f0 := H2.out.1.1.l1.res.thaw 0
        have y0 := (H2.out.1.1.l1.res.cell 0).trans rfl
        have HX := Lib.hid (H2.out.1.1.l1.put (.slice none 0 0))
        have HQ := Lib.hid (HErr.out _ (by rw [HN.out.2 (by rw [HEb.out]; decide), HEb.out]; decide) HX.out.2)
        have HQe : Hid (errC R = 1) := Lib.hid (by rw [HN.out.2 (by rw [HEb.out]; decide), HEb.out])
        go_wp2_with fail
        exact bodyPost_ret (v := .tuple #[.agg #[.slice none 0 0], .int .i64 1]) (by have z0 := (HX.out.1.cell 0).trans rfl; simp [results, Tryd.results28, z0, go_sem]) rfl (by have h9 := HQ.out; rw [HQe.out] at h9; exact h9)
    · obtain rfl : k = R.length := by omega
      have j1 : ¬ (R.length : Int) < (R.length : Int) := by omega
      have HEz := Lib.hid (errC_zero R (fun j hj => HE0.out j hj hj))
      rw [List.take_length] at HI
      obtain ⟨ff, hff⟩ := HI.out.map
      have HPc : Hid ((prs R).length ≤ 4000) := Lib.hid (by
        have h9 := prs_len R (fun r hr => HLL.out r hr)
        omega)
      have hln := hff.map.len Tryd.underlying116 3
      rw [ksl_len HEz.out] at hln
      have HNo := Lib.hid (normals_any R b ff wr HEz.out HPc.out hff)
      have HBg := Lib.hid (fun w' h => HBig.out w' HEz.out h)
      have HOk2 := Lib.hid (fun v w' h => HOk.out v w' HEz.out h)
      clear HE0 HErr HBig HOk HPc hff
      generalize outC R 2640 = X at *
      by_cases h200 : 200 < X.length
      · have k200 : (200 : Int) < (X.length : Int) := by omega
        have f0 := HI.out.l1.res.thaw 0
        have y0 := (HI.out.l1.res.cell 0).trans rfl
        have HX := Lib.hid (HI.out.l1.put (.slice none 0 0))
        have HQ := Lib.hid (HBg.out _ h200 HX.out.2)
        clear HBg HOk2 HNo h200
        go_wp2_with fail
        exact bodyPost_ret (v := .tuple #[.agg #[.slice none 0 0], .int .i64 2]) (by have z0 := (HX.out.1.cell 0).trans rfl; simp [results, Tryd.results28, z0, go_sem]) rfl HQ.out
      · have k200 : ¬ (200 : Int) < (X.length : Int) := by omega
        have H200 := Lib.hid h200
        clear HBg h200
        go_wp2_with fail
        refine HNo.out.mono ?_
        rintro e w2 ⟨v, rfl, g2, ho⟩
        obtain ⟨A2, c2, rfl⟩ := row_form ho
        generalize hv : (Value.slice A2 X.length c2) = v at *
        have HVf := Lib.hid hv
        have H2 := HI.out.l1.under g2
        have f0 := H2.res.thaw 0
        have y0 := (H2.res.cell 0).trans rfl
        have HX := Lib.hid (H2.put v)
        have HOw : Hid ((w2.setCell ⟨gr, 0, none⟩ v).ownsRow w.heap.size 50 5 v X.length (nrc X)) := Lib.hid (own_less (own_heap ho (fun i hi => Below.heap_setCell w2 ⟨gr, 0, none⟩ v i (fun e => row_not ho H2.res (by decide) (by have e' : i = gr := e; rw [← e']; exact hi)))) HI.out.l1.below.size)
        have HQ := Lib.hid (HOk2.out v _ H200.out HX.out.2 HOw.out)
        clear ho g2 H2 HNo HOk2
        subst hv
        go_wp2_with fail
        exact bodyPost_ret (v := .tuple #[.agg #[.slice A2 X.length c2], .int .i64 0]) (by have z0 := (HX.out.1.cell 0).trans rfl; simp [results, Tryd.results28, z0, go_sem]) rfl HQ.out
theorem lrnR_of {W : World} {R : List Rp} {e : Ending} {w : World} {X : List Cm.N5} {z : Int} (h : lrn R = (X, z)) (v : Value) (he : e = .returned (.tuple #[clV v, .int .i64 z])) (hb : Below W.heap.size W w) (ho : w.ownsRow W.heap.size 50 5 v X.length (nrc X)) : LrnR W R e w :=
  ⟨v, by rw [h]; exact he, hb, by rw [h]; exact ho⟩
/-- THE PROGRAM'S Learn: what the reference's answers. -/
theorem learn_any (uv : Value) (R : List Rp) (w : World) (hE : Env w) (hR : RpsIn w uv R) (hl : R.length ≤ 40) (hL : ∀ r ∈ R, r.L.length ≤ 40) :
    Calls Tryd.prog 28 #[uv] w (LrnR w R) :=
  learn_of uv R w hE hR hl hL _ (fun _ h1 h2 => lrnR_of (lrn_err h1) _ rfl h2 ⟨rfl, .inl ⟨rfl, rfl⟩⟩)
    (fun _ h1 h2 h3 => lrnR_of (lrn_big h1 h2) _ rfl h3 ⟨rfl, .inl ⟨rfl, rfl⟩⟩)
    (fun v _ h1 h2 h3 h4 => lrnR_of (lrn_ok h1 h2) v rfl h3 h4)
end Go.Proofs.YtlakgkoohdfiaaaDoor
