/- The walk of TimelineShifted. -/
import Derived.Test.YtlakgkoohdfiaaaDoorTmH
namespace Go.Proofs.YtlakgkoohdfiaaaDoor.Tm
open Go.RowKit Go.Great

set_option maxRecDepth 100000 in
set_option maxHeartbeats 8000000 in
theorem timelineShifted_any (l : Value) (by_ later : Int) (W : World) (hT : El.Tab W) (hI : ListIn W l) (hc : I64 by_) (hc2 : I64 later) :
    Calls Tryd.prog 9 #[l, .int .i64 by_, .int .i64 later] W fun e w' => e = .returned (.bool true) ∧ Below W.heap.size W w' := by
  obtain ⟨i0, hi0, hzz, hz1, hz2⟩ := info_parts infoReport
  obtain ⟨i1, hj0, hj1, hj2, hj3⟩ := info_parts El.infoReading
  go_enter Tryd.func9, Tryd.ntmps9
  go_wp2_with fail
  refine (new_any W l hI).mono ?_
  rintro e w1 ⟨rfl, hs1, -⟩
  obtain ⟨b, hb⟩ : ∃ b, W.heap.size = b := ⟨_, rfl⟩
  rw [hb] at hs1 ⊢
  have HGB := Lib.hid hb
  clear hb
  go_wp2_with fail
  refine (series_any W b w1 9 14000000 14000000 hs1 (by decide) (by decide) (by decide)).mono ?_
  rintro e w2 ⟨R, v, m, gv, rfl, hRn, hm, hSr⟩
  have HSr := Lib.hid hSr
  clear hSr hs1
  go_wp2_with fail
  refine (control_any W b w2 HSr.out.src).mono ?_
  rintro e w3 ⟨cs, S, P, rfl, hct, hs3, hg3⟩
  have H4 := Lib.hid (Ti.new hT HSr.out hs3 hg3 cs)
  have HSe := Lib.hid HSr.out.ser
  have HC := Lib.hid hct
  clear HSr hs3 hg3
  have hall : cs.all (·.oneCell') = true := by
    rw [Array.all_eq_true]
    intro i hi
    exact hct.one i _ (Array.getElem?_eq_getElem hi)
  have hcs : (Tryd.prog.info? 67).map (·.size) = some cs.size := by rw [hct.ct.size]; kernel_rfl
  have hsz : cs0.size = cs.size := by rw [hct.ct.size]; rfl
  have hz41 : cs.size = 41 := hct.ct.size
  have hsc := run_storeCells_new (P := Tryd.prog) w3 67 cs0 cs hcs hsz hall
  have hsv := run_storeVar_new (P := Tryd.prog) w3 67 cs0 cs hcs hsz hall
  unfold cs0 at hsc hsv
  clear hct
  go_upto_region 4 with fail
  clear hsc hsv hz41 hsz hall hcs
  refine forget (fun Y => Hid (Ti W w3.heap.size cs v R Y)) H4 ?_
  clear H4
  generalize w3.heap.size = gc at *
  rintro Y0 H4
  go_wp2_with fail
  refine (mod_any by_ 41 Y0 hc (by decide) (by decide)).mono ?_
  rintro e _ ⟨rfl, rfl⟩
  obtain ⟨d, hd0⟩ : ∃ d, by_ % 41 - 20 = d := ⟨_, rfl⟩
  have hd1 : -20 ≤ d ∧ d ≤ 20 := by omega
  have hdw : IntKind.i64.wrap (by_ % 41 - 20) = d := by rw [hd0]; exact IntWalk.i64_in _ (by omega)
  go_wp2_with fail
  refine (mod_any later 100000 Y0 hc2 (by decide) (by decide)).mono ?_
  rintro e _ ⟨rfl, rfl⟩
  obtain ⟨T, hT0⟩ : ∃ T, later % 100000 = T := ⟨_, rfl⟩
  have hT1 : 0 ≤ T ∧ T < 100000 := by omega
  rw [hT0]
  obtain ⟨Ax, cx, hvx, -⟩ := id H4.out.ins
  subst hvx
  go_wp2_with fail
  go_loopw [12, 35] (fun v9 ti wr => ∃ (R' : List Rp) (k : Nat), k ≤ R.length ∧ ti = .int .i64 (k : Int) ∧ R'.length = k ∧ Hid (Ho Y0 none R' v9 wr) ∧ Hid (ShK d T R R')) (fun _ ti _ => R.length - (intOf ti).toNat)
  case atStart => exact ⟨[], 0, Nat.zero_le _, rfl, rfl, Lib.hid (Ho.nil Y0 none (fun _ h => (by cases h))), Lib.hid ⟨fun j h h' => absurd h' (Nat.not_lt_zero j), fun _ h => (by cases h)⟩⟩
  case round =>
    obtain ⟨R', k, hk, rfl, hRl, HO, HOn⟩ := hrel
    obtain ⟨w0, hw0⟩ : ∃ w0, w0 = wr := ⟨_, rfl⟩
    subst hw0
    by_cases hlt : k < R.length
    · have HTi := Lib.hid (H4.out.under (below_new HO.out.gro))
      obtain ⟨A', cap', e, -, -, hat⟩ := HTi.out.ins
      injection e with e1 e2 e3
      subst e1
      obtain ⟨g, off, hAq, hgl, ⟨c0, c1, c2, c3, c4, c5, c6, c7⟩, hrd⟩ := hat k hlt
      subst hAq
      have k1 : (k : Int) < (R.length : Int) := by omega
      have k2 : (0 : Int) ≤ (k : Int) := by omega
      have hlt' : R'.length < R.length := by omega
      clear hat e3 hgl e2
      have hbd := HSe.out.bd _ (List.getElem_mem hlt)
      have HVd := Lib.hid (HSe.out.all _ (List.getElem_mem hlt)).2.2.2
      obtain ⟨r, hr⟩ : ∃ r, R[k] = r := ⟨_, rfl⟩
      have hrr : R[R'.length] = r := by rw [← hr]; congr 1
      rw [hr] at c0 c1 c2 c3 c4 c5 c6 c7 hrd hbd HVd
      clear hr
      obtain ⟨rk, rn, rt, rF, rA, rB, rC, ru, rL⟩ := r
      simp only at c0 c1 c2 c3 c4 c5 c6 c7 hrd hbd HVd
      obtain ⟨Au, cu, eu, -⟩ := id hrd
      have eu' : ru = .slice Au rL.length cu := eu
      subst eu'
      clear eu
      have htw : IntKind.i64.wrap (rt + T) = rt + T := IntWalk.i64_in _ (by omega)
      have hl11 : rL.length ≤ 11 := le11 HVd.out
      have b1 := (Below.refl w0.heap.size w0).alloc (Nat.le_refl _) (.cells (repC rk rn rt rF rA rB rC (.slice Au rL.length cu)) 38)
      have b2 := b1.alloc b1.size (.cells (repC rk rn (rt + T) rF rA rB rC (.slice none 0 0)) 38)
      have H2 : Hid (Row ((w0.alloc (.cells (repC rk rn rt rF rA rB rC (.slice Au rL.length cu)) 38)).alloc (.cells (repC rk rn (rt + T) rF rA rB rC (.slice none 0 0)) 38)) w0.heap.size 38 (repC rk rn rt rF rA rB rC (.slice Au rL.length cu)) ∧ Qi w0 (w0.alloc (.cells (repC rk rn rt rF rA rB rC (.slice Au rL.length cu)) 38)).heap.size (fun z => repC rk rn (rt + T) rF rA rB rC z) (.slice none 0 0) (shL d (rL.take 0)) ((w0.alloc (.cells (repC rk rn rt rF rA rB rC (.slice Au rL.length cu)) 38)).alloc (.cells (repC rk rn (rt + T) rF rA rB rC (.slice none 0 0)) 38)) ∧ El.RdIn ((w0.alloc (.cells (repC rk rn rt rF rA rB rC (.slice Au rL.length cu)) 38)).alloc (.cells (repC rk rn (rt + T) rF rA rB rC (.slice none 0 0)) 38)) (.slice Au rL.length cu) rL) := Lib.hid ⟨(Row.new w0 _ _).alloc _, ⟨b2, Row.new _ _ _, ⟨rfl, .inl ⟨rfl, rfl⟩⟩, b1.size⟩, hrd.under b2⟩
      have hz1' : (w0.alloc (.cells (repC rk rn rt rF rA rB rC (.slice Au rL.length cu)) 38)).heap.size = w0.heap.size + 1 := Array.size_push _
      rw [hz1'] at H2
      have HRd0 := Lib.hid hrd
      clear b1 b2 hrd HTi hz1'
      go_upto_region 12 with fail
      refine forget (fun Y => Hid (Row Y w0.heap.size 38 (repC rk rn rt rF rA rB rC (.slice Au rL.length cu)) ∧ Qi w0 (w0.heap.size + 1) (fun z => repC rk rn (rt + T) rF rA rB rC z) (.slice none 0 0) (shL d (rL.take 0)) Y ∧ El.RdIn Y (.slice Au rL.length cu) rL)) H2 ?_
      clear H2 c0 c1 c2 c3 c4 c5 c6 c7
      obtain ⟨gr, hgr⟩ : ∃ g, w0.heap.size = g := ⟨_, rfl⟩
      obtain ⟨gq, hgq⟩ : ∃ g, gr + 1 = g := ⟨_, rfl⟩
      rw [hgr, hgq]
      have HGR := Lib.hid (And.intro hgr hgq)
      clear hgr hgq
      rintro Y2 H2
      obtain ⟨q0, q1, q2, q3, q4, q5, q6, q7⟩ := row8 H2.out.1
      have HQ0 : Hid (∃ u, Qi w0 gq (fun z => repC rk rn (rt + T) rF rA rB rC z) u (shL d (rL.take 0)) Y2 ∧ Below Y2.heap.size Y2 Y2) := Lib.hid ⟨_, H2.out.2.1, Below.refl _ _⟩
      go_wp2_with fail
      clear q0 q1 q2 q3 q4 q5 q6 q7 H2
      go_loopw [49] (fun ti wy => ∃ k2 : Nat, k2 ≤ rL.length ∧ ti = .int .i64 (k2 : Int) ∧ Hid (∃ u, Qi w0 gq (fun z => repC rk rn (rt + T) rF rA rB rC z) u (shL d (rL.take k2)) wy)) (fun ti _ => rL.length - (intOf ti).toNat)
      case atStart => exact ⟨0, Nat.zero_le _, rfl, Lib.hid ⟨_, HQ0.out.choose_spec.1⟩⟩
      case round =>
        clear HQ0
        obtain ⟨j, hj, rfl, HQe⟩ := hrel
        obtain ⟨u, hQi⟩ := HQe.out
        have HQ := Lib.hid hQi
        clear hQi HQe
        by_cases hjl : j < rL.length
        · obtain ⟨A2, cap2, e, -, -, hat⟩ := HRd0.out.under (HQ.out.below)
          injection e with e1 e2 e3
          subst e1
          obtain ⟨g2, off2, hA2, hg2, c0, c1⟩ := hat j hjl
          subst hA2
          have j1 : (j : Int) < (rL.length : Int) := by omega
          have j2 : (0 : Int) ≤ (j : Int) := by omega
          have HTk := Lib.hid (sh_take (d := d) hjl)
          have hbx := bd0 HVd.out _ (List.getElem_mem hjl)
          have hMl : (shL d (rL.take j)).length = j := by unfold shL; rw [List.length_map, List.length_take]; omega
          obtain ⟨x, hx⟩ : ∃ x, rL[j] = x := ⟨_, rfl⟩
          rw [hx] at c0 c1 HTk hbx
          clear hat e3 hg2 e2 hx
          obtain ⟨xc, xv⟩ := x
          simp only at c0 c1 HTk hbx
          generalize shL d (rL.take j) = M at *
          have b1 := (Below.refl wr.heap.size wr).alloc (Nat.le_refl _) (.cells #[.int .i64 xc, .int .i64 xv] 81)
          by_cases hx1 : xc = 1
          · subst hx1
            have hvw : IntKind.i64.wrap (xv + d) = xv + d := IntWalk.i64_in _ (by omega)
            have b2 := (Below.refl wr.heap.size wr).alloc (Nat.le_refl _) (.cells #[.int .i64 1, .int .i64 (xv + d)] 81)
            have H3 : Hid (Qi w0 gq (fun z => repC rk rn (rt + T) rF rA rB rC z) u M (wr.alloc (.cells #[.int .i64 1, .int .i64 (xv + d)] 81)) ∧ Row (wr.alloc (.cells #[.int .i64 1, .int .i64 (xv + d)] 81)) wr.heap.size 81 #[.int .i64 1, .int .i64 (xv + d)]) := Lib.hid ⟨HQ.out.under b2, Row.new _ _ _⟩
            clear b1 b2 HQ
            go_upto_region 17 with fail
            refine forget (fun Y => Hid (Qi w0 gq (fun z => repC rk rn (rt + T) rF rA rB rC z) u M Y ∧ Row Y wr.heap.size 81 #[.int .i64 1, .int .i64 (xv + d)])) H3 ?_
            clear H3 c0 c1
            generalize wr.heap.size = gv at *
            rintro Y3 H3
            have HN : Hid (shL d (rL.take (j + 1)) = M ++ [(1, xv + d)]) := Lib.hid (by rw [HTk.out, if_pos rfl])
            clear HTk
            obtain ⟨y0, y1⟩ := row2 H3.out.2
            have z7 := (row8 H3.out.1.box).2.2.2.2.2.2.2
            have b4 := (Below.refl Y3.heap.size Y3).alloc (Nat.le_refl _) (.cells #[.int .i64 1, .int .i64 (xv + d)] 81)
            have HA := Lib.hid (And.intro (H3.out.1.under b4) (Row.new Y3 #[.int .i64 1, .int .i64 (xv + d)] 81))
            have hs4 : w0.heap.size ≤ (Y3.alloc (.cells #[.int .i64 1, .int .i64 (xv + d)] 81)).heap.size := HA.out.1.below.size
            clear b4 H3
            go_wp2_with (at_builtin; go_loud (refine wpList_append_own' rfl (.tmp 62) (.tmp 64) 36 rfl w0.heap.size 81 i1 (.agg #[.int .i64 0, .int .i64 0]) 2 16 Tryd.underlying36 hj0 hj1 hj2 hj3 rfl (by decide) u M.length (El.rdc M) rfl HA.out.1.own ⟨Y3.heap.size, 0, none⟩ 1 1 [.int .i64 1, .int .i64 (xv + d)] rfl rfl (fun q z hz => by rw [Addr.add_lit, Nat.zero_add, HA.out.2.cell, ← hz]; simp) (fun z hz => by simp at hz; rcases hz with rfl | rfl <;> rfl) (by unfold maxLen; omega) (by omega) hs4 ?_); intro v9 w9 ho9 hg9; obtain ⟨A9, cap9, ev9⟩ := row_form ho9; subst ev9; have hb9 := HA.out.1.box.grown hg9 HA.out.1.ne; have z9 := (row8 hb9).2.2.2.2.2.2.2; have t9 := hb9.thaw 7; have HW9 := Lib.hid (And.intro ho9 hg9); clear ho9 hg9 hb9)
            have HQ9 := Lib.hid (HA.out.1.app HW9.out.2 (L' := M ++ [(1, (xv + d))]) (by rw [El.rdc_snoc, List.length_append]; exact HW9.out.1) (fun _ _ => rfl))
            have HE9 : Hid (∃ u, Qi w0 gq (fun z => repC rk rn (rt + T) rF rA rB rC z) u (shL d (rL.take (j + 1))) (w9.setCell ⟨gq, 7, none⟩ (.slice A9 (M.length + 1) cap9))) := Lib.hid ⟨_, by rw [HN.out]; exact HQ9.out⟩
            rw [hMl] at HE9
            clear HQ9 HA HW9 HN y0 y1 z7 z9 t9
            exact ⟨⟨j + 1, by omega, by go_num, HE9⟩, by simp [intOf]; omega⟩
          · have kx : (xc == 1) = false := beq_eq_false_iff_ne.2 hx1
            have H3 : Hid (Qi w0 gq (fun z => repC rk rn (rt + T) rF rA rB rC z) u M (wr.alloc (.cells #[.int .i64 xc, .int .i64 xv] 81)) ∧ Row (wr.alloc (.cells #[.int .i64 xc, .int .i64 xv] 81)) wr.heap.size 81 #[.int .i64 xc, .int .i64 xv]) := Lib.hid ⟨HQ.out.under b1, Row.new _ _ _⟩
            clear b1 HQ
            go_upto_region 17 with fail
            refine forget (fun Y => Hid (Qi w0 gq (fun z => repC rk rn (rt + T) rF rA rB rC z) u M Y ∧ Row Y wr.heap.size 81 #[.int .i64 xc, .int .i64 xv])) H3 ?_
            clear H3 c0 c1
            generalize wr.heap.size = gv at *
            rintro Y3 H3
            have HN : Hid (shL d (rL.take (j + 1)) = M ++ [(xc, xv)]) := Lib.hid (by rw [HTk.out, if_neg hx1])
            clear HTk
            obtain ⟨y0, y1⟩ := row2 H3.out.2
            have z7 := (row8 H3.out.1.box).2.2.2.2.2.2.2
            have b4 := (Below.refl Y3.heap.size Y3).alloc (Nat.le_refl _) (.cells #[.int .i64 xc, .int .i64 xv] 81)
            have HA := Lib.hid (And.intro (H3.out.1.under b4) (Row.new Y3 #[.int .i64 xc, .int .i64 xv] 81))
            have hs4 : w0.heap.size ≤ (Y3.alloc (.cells #[.int .i64 xc, .int .i64 xv] 81)).heap.size := HA.out.1.below.size
            clear b4 H3
            go_wp2_with (at_builtin; go_loud (refine wpList_append_own' rfl (.tmp 62) (.tmp 64) 36 rfl w0.heap.size 81 i1 (.agg #[.int .i64 0, .int .i64 0]) 2 16 Tryd.underlying36 hj0 hj1 hj2 hj3 rfl (by decide) u M.length (El.rdc M) rfl HA.out.1.own ⟨Y3.heap.size, 0, none⟩ 1 1 [.int .i64 xc, .int .i64 xv] rfl rfl (fun q z hz => by rw [Addr.add_lit, Nat.zero_add, HA.out.2.cell, ← hz]; simp) (fun z hz => by simp at hz; rcases hz with rfl | rfl <;> rfl) (by unfold maxLen; omega) (by omega) hs4 ?_); intro v9 w9 ho9 hg9; obtain ⟨A9, cap9, ev9⟩ := row_form ho9; subst ev9; have hb9 := HA.out.1.box.grown hg9 HA.out.1.ne; have z9 := (row8 hb9).2.2.2.2.2.2.2; have t9 := hb9.thaw 7; have HW9 := Lib.hid (And.intro ho9 hg9); clear ho9 hg9 hb9)
            have HQ9 := Lib.hid (HA.out.1.app HW9.out.2 (L' := M ++ [(xc, xv)]) (by rw [El.rdc_snoc, List.length_append]; exact HW9.out.1) (fun _ _ => rfl))
            have HE9 : Hid (∃ u, Qi w0 gq (fun z => repC rk rn (rt + T) rF rA rB rC z) u (shL d (rL.take (j + 1))) (w9.setCell ⟨gq, 7, none⟩ (.slice A9 (M.length + 1) cap9))) := Lib.hid ⟨_, by rw [HN.out]; exact HQ9.out⟩
            rw [hMl] at HE9
            clear HQ9 HA HW9 HN y0 y1 z7 z9 t9
            exact ⟨⟨j + 1, by omega, by go_num, HE9⟩, by simp [intOf]; omega⟩
        · obtain rfl : j = rL.length := by omega
          rw [List.take_length] at HQ
          have hMl : (shL d rL).length ≤ 11 := by unfold shL; rw [List.length_map]; exact hl11
          obtain ⟨M, hM⟩ : ∃ M, shL d rL = M := ⟨_, rfl⟩
          rw [hM] at HQ hMl
          have HM := Lib.hid hM
          clear hM
          obtain ⟨A9, cap9, ev9⟩ := row_form HQ.out.own
          subst ev9
          have z7 := (row8 HQ.out.box).2.2.2.2.2.2.2
          have HVa := Lib.hid (El.refValidate_any _ M wr (El.RdIn.own HQ.out.own))
          obtain ⟨z, hz⟩ : ∃ z, El.Elt.vld M = z := ⟨_, rfl⟩
          rw [hz] at HVa
          have HZ := Lib.hid hz
          clear hz
          go_wp2_with fail
          refine HVa.out.mono ?_
          rintro e Y5 ⟨rfl, g5⟩
          have HQ5 := Lib.hid (HQ.out.under g5)
          clear g5 HQ z7 HVa
          by_cases hz0 : z = 0
          · subst hz0
            obtain ⟨z0, z1, z2, z3, z4, z5, z6, z7⟩ := row8 HQ5.out.box
            have b6 := HQ5.out.below.alloc HQ5.out.below.size (.cells (repC rk rn (rt + T) rF rA rB rC (.slice A9 M.length cap9)) 38)
            have HC8 := Lib.hid (eight_at (r := (⟨rk, rn, rt + T, rF, rA, rB, rC, .slice A9 M.length cap9, M⟩ : Rp)) (Row.new Y5 (repC rk rn (rt + T) rF rA rB rC (.slice A9 M.length cap9)) 38))
            have HO6 := Lib.hid (HO.out.under b6)
            have HU6 := Lib.hid (El.own_under (own_base HQ5.out.own HO.out.gro.size) ((Below.refl Y5.heap.size Y5).alloc (Nat.le_refl _) (.cells (repC rk rn (rt + T) rF rA rB rC (.slice A9 M.length cap9)) 38)))
            clear b6 HQ5 HO
            go_wp2_with (at_builtin; go_loud (refine wpList_append_own' rfl (.tmp 73) (.tmp 75) 25 rfl Y0.heap.size 38 i0 (repV 0 ⟨#[]⟩ 0 0 0 0 0 (.slice none 0 0)) 8 88 Tryd.underlying25 hi0 hzz hz1 hz2 rfl (by decide) u12 R'.length (rpc R') rfl HO6.out.own ⟨Y5.heap.size, 0, none⟩ 1 1 (rpCells (⟨rk, rn, rt + T, rF, rA, rB, rC, .slice A9 M.length cap9, M⟩ : Rp)) rfl rfl HC8.out (fun z hz => by simp only [rpCells, List.mem_cons, List.not_mem_nil, or_false] at hz; rcases hz with rfl | rfl | rfl | rfl | rfl | rfl | rfl | rfl <;> rfl) (by unfold maxLen; omega) (by omega) HO6.out.gro.size ?_); intro v9 w9 ho9 hg9; have HW9 := Lib.hid (And.intro ho9 hg9); clear ho9 hg9)
            have H9 := Lib.hid (HO6.out.app (q := (⟨rk, rn, rt + T, rF, rA, rB, rC, .slice A9 M.length cap9, M⟩ : Rp)) HU6.out HW9.out.1 HW9.out.2)
            have HN9 := Lib.hid (HOn.out.snoc hlt' hrr (⟨rk, rn, rt + T, rF, rA, rB, rC, .slice A9 M.length cap9, M⟩ : Rp) rfl rfl HM.out.symm HZ.out)
            clear HW9 HO6 HU6 HC8
            exact ⟨⟨_, k + 1, by omega, by go_num, by rw [List.length_append, hRl]; rfl, H9, HN9⟩, by simp [intOf]; omega⟩
          · have kz : (z == 0) = false := beq_eq_false_iff_ne.2 hz0
            have HT5 := Lib.hid ((H4.out.under (below_new HO.out.gro)).under HQ5.out.below)
            go_wp2_with fail
            refine (awake_any Y5 HT5.out.tab).mono ?_
            rintro e X10 ⟨rfl, b10⟩
            have HF := Lib.hid (HT5.out.below.trans (b10.mono HT5.out.below.size))
            clear b10
            go_wp2_with fail
            go_ret
            exact ⟨rfl, HF.out⟩
    · obtain rfl : k = R.length := by omega
      have HTi := Lib.hid (H4.out.under (below_new HO.out.gro))
      have HIn' := Lib.hid HO.out.ins
      have HOl := Lib.hid (show Shf R R' d T from ⟨hRl, HOn.out.1⟩)
      have HNm := Lib.hid HSe.out.nm
      have HE1 := Lib.hid (HSe.out.er (by decide) (by omega) HC.out)
      have HE2 := Lib.hid (HOl.out.er HOn.out.2 HSe.out HC.out (by omega) (by omega) hT1.1)
      have HNm2 := Lib.hid (HOl.out.nms HNm.out)
      have HFl := Lib.hid (HOl.out.flg (asc_dis HSe.out.asc) (fun r hr => vld_asc (HSe.out.all r hr).2.2.2) S P)
      clear HO HOn H4
      have hcs : (Tryd.prog.info? 67).map (·.size) = some cs.size := by rw [HC.out.ct.size]; kernel_rfl
      have hbox : w0.heap[gc]? = some (.cells cs 67 (0, 0)) := HTi.out.box
      go_wp2_with (refine wpList_load_row rfl 67 (.tmp 9) rfl gc rfl 67 cs (0, 0) _ hbox Tryd.underlying67 rfl hcs ?_)
      refine (check_any _ R cs S P w0 HTi.out.ins HC.out.ct HTi.out.tab (by omega) HNm.out).mono ?_
      rintro e Y5 ⟨va, rfl, hb5, -, hz5⟩
      rw [HE1.out] at *
      have H5 := Lib.hid (HTi.out.under hb5)
      have HI5 := Lib.hid (HIn'.out.under hb5)
      have HFa := Lib.hid (In3.own flE_len (hz5 rfl))
      clear hb5 hz5 HIn' HTi hbox
      have hbox : Y5.heap[gc]? = some (.cells cs 67 (0, 0)) := H5.out.box
      go_wp2_with (refine wpList_load_row rfl 67 (.tmp 9) rfl gc rfl 67 cs (0, 0) _ hbox Tryd.underlying67 rfl hcs ?_)
      refine (check_any _ R' cs S P Y5 HI5.out HC.out.ct H5.out.tab (by omega) HNm2.out).mono ?_
      rintro e Y6 ⟨vb, rfl, hb6, -, hz6⟩
      rw [HE2.out] at *
      have H6 := Lib.hid (H5.out.under hb6)
      have HFa6 := Lib.hid (HFa.out.under hb6)
      have HFb := Lib.hid (In3.own flE_len (hz6 rfl))
      rw [HFl.out] at HFb
      clear hb6 hz6 HI5 H5 HFa hbox HFl HE1 HE2 HNm HNm2 HOl hRl hcs
      generalize flg R S P = fl at *
      go_wp2_with fail
      refine (flags_any _ _ _ _ _ HFa6.out HFb.out).mono ?_
      rintro e X9 ⟨rfl, b9⟩
      have HT9 := Lib.hid (H6.out.tab.under b9)
      have HB9 := Lib.hid (H6.out.below.trans (b9.mono H6.out.below.size))
      clear b9 HFa6 HFb H6
      rw [show decide (fl = fl) = true from decide_eq_true rfl]
      go_wp2_with fail
      refine (awake_any X9 HT9.out).mono ?_
      rintro e X10 ⟨rfl, b10⟩
      have HF := Lib.hid (HB9.out.trans (b10.mono HB9.out.size))
      clear b10 HB9 HT9
      go_wp2_with fail
      go_ret
      exact ⟨rfl, HF.out⟩
end Go.Proofs.YtlakgkoohdfiaaaDoor.Tm
