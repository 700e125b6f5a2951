/- What the statements draw: a series of reports: the walk. -/
import Derived.Test.YtlakgkoohdfiaaaDoorQap
namespace Go.Proofs.YtlakgkoohdfiaaaDoor.Tm
open Go.RowKit Go.Great

/-- Taking a text from a list that has just been written. -/
theorem text_new (p : ByteArray → Prop) (W : World) (b : Nat) (w : World) (h : Src W b w) (cs : Array Value) (n c : Nat) (n1 : 1 ≤ n) (n2 : n ≤ 1000) (hp : ∀ i, i < n → ∃ x, cs[i]? = some (.string x) ∧ p x) :
    Calls Tryd.prog 51 #[.pointer (some ⟨b, 0, none⟩), .slice (some ⟨w.heap.size, 0, none⟩) n c] (w.alloc (.cells cs 9)) (Txd p W b w) := by
  have ba := (Below.refl w.heap.size w).alloc (Nat.le_refl _) (.cells cs 9)
  have rr := Row.new w cs 9
  refine (text_any p W b _ w.heap.size n c (h.under ba) n1 n2 (Nat.ne_of_gt (src_lt h)) rr.lt (fun i hi => by
    obtain ⟨x, hx, hpx⟩ := hp i hi
    exact ⟨x, (rr.cell i).trans hx, hpx⟩)).mono ?_
  rintro e w' ⟨x, hx, he, hs, hg⟩
  exact ⟨x, hx, he, hs, grown_trans (grown_below ba) hg⟩
abbrev vs0 : Array Value := #[.int .i64 0, .int .i64 10130, .int .i64 2850, .int .i64 2800, .int .i64 0, .int .i64 50, .int .i64 1460, .int .i64 2780, .int .i64 3010, .int .i64 2680, .int .i64 5570, .int .i64 2520]
theorem vs0_at : vs0.size = 12 ∧ ∀ j : Nat, j < 12 → ∃ x, vs0[j]? = some (.int .i64 x) := by
  refine ⟨rfl, fun j hj => ?_⟩
  rcases (by omega : j = 0 ∨ j = 1 ∨ j = 2 ∨ j = 3 ∨ j = 4 ∨ j = 5 ∨ j = 6 ∨ j = 7 ∨ j = 8 ∨ j = 9 ∨ j = 10 ∨ j = 11) with rfl | rfl | rfl | rfl | rfl | rfl | rfl | rfl | rfl | rfl | rfl | rfl <;> exact ⟨_, rfl⟩
set_option maxRecDepth 100000 in
set_option maxHeartbeats 8000000 in
theorem series_any (W : World) (b : Nat) (w : World) (n near lo : Int) (h : Src W b w) (n1 : 0 ≤ n) (n2 : n ≤ 50) (hlo : max 0 (min 52589999 near) = lo) :
    Calls Tryd.prog 39 #[.pointer (some ⟨b, 0, none⟩), .int .i64 n, .int .i64 near] w (SrO W b w n lo) := by
  have hbl := src_lt h
  have hW := h.below.size
  have hl0 : 0 ≤ lo ∧ lo ≤ 52589999 := by omega
  have b0 := (Below.refl w.heap.size w).alloc (Nat.le_refl _) (.cells vs0 65)
  have I0 : Hid (Sr W b w w.heap.size lo lo [] (.slice none 0 0) (w.alloc (.cells vs0 65))) := Lib.hid ⟨h.under b0, grown_below b0, ⟨rfl, .inl ⟨rfl, rfl⟩⟩, fun r hr => (by cases hr), ⟨vs0, Row.new _ _ _, vs0_at⟩, Ser.nil _ _, Nat.le_refl _, hbl, hW⟩
  clear b0 h
  obtain ⟨i0, hi, hz0, hz1, hz2⟩ := info_parts infoReport
  obtain ⟨i1, hj, hr0, hr1, hr2⟩ := info_parts El.infoReading
  go_enter Tryd.func39, Tryd.ntmps39
  go_upto_region 4 with fail
  refine forget (fun Y => Hid (Sr W b w w.heap.size lo lo [] (.slice none 0 0) Y)) I0 ?_
  clear I0 hlo
  obtain ⟨gv, hgv⟩ : ∃ g, w.heap.size = g := ⟨_, rfl⟩
  rw [hgv]
  clear hgv
  rintro Y I0
  go_wp2_with fail
  refine (n_any W b _ _ I0.out.src (by omega) (by omega)).mono ?_
  rintro e w1 ⟨x, ⟨x1, x2⟩, rfl, s1, g1⟩
  obtain ⟨j0, rfl⟩ := Int.eq_ofNat_of_zero_le x1
  have I1 := Lib.hid (I0.out.step s1 g1)
  clear s1 g1 I0
  go_wp2_with fail
  go_loopw [7, 9, 10] (fun v tm ti wr => ∃ (R : List Rp) (m : Int) (j : Nat), ti = .int .i64 (j : Int) ∧ tm = .int .i64 m ∧ (R.length : Int) + j ≤ n ∧ m ≤ lo + 90 * R.length ∧ lo ≤ m ∧ Hid (Sr W b w gv lo m R v wr)) (fun _ _ ti _ => (intOf ti).toNat)
  case atStart => exact ⟨[], lo, j0, rfl, rfl, by simp; omega, by simp, Int.le_refl _, I1⟩
  case round =>
    clear I1
    obtain ⟨R, m, j, rfl, rfl, hRj, hm, hlm, HR⟩ := hrel
    by_cases hjp : 0 < j
    · have k0 : (0 : Int) < (j : Int) := by omega
      go_wp2_with fail
      refine (range_any W b _ _ _ HR.out.src (by omega) (by omega) (by omega) (by omega)).mono ?_
      rintro e w2 ⟨d, ⟨d1, d2⟩, rfl, s2, g2⟩
      have H2 := Lib.hid (HR.out.step s2 g2)
      clear s2 g2 HR
      obtain ⟨t, ht⟩ : ∃ t, m + d = t := ⟨_, rfl⟩
      have htw : IntKind.i64.wrap t = t := IntWalk.i64_in _ (by omega)
      have hts : m < t ∧ t ≤ m + 90 := by omega
      go_wp2_with fail
      refine (text_new (fun q => q = nmA ∨ q = nmB) W b _ H2.out.src #[.string ⟨#[65, 76, 80, 72, 65]⟩, .string ⟨#[65, 76, 80, 72, 65]⟩, .string ⟨#[66, 82, 65, 86, 79]⟩] 3 3 (by decide) (by decide) (fun i hi => by
        rcases (by omega : i = 0 ∨ i = 1 ∨ i = 2) with rfl | rfl | rfl
        · exact ⟨_, rfl, .inl rfl⟩
        · exact ⟨_, rfl, .inl rfl⟩
        · exact ⟨_, rfl, .inr rfl⟩)).mono ?_
      rintro e w3 ⟨nm, hnm, rfl, s3, g3⟩
      have H3 := Lib.hid (H2.out.step s3 g3)
      have HNm := Lib.hid hnm
      clear s3 g3 H2 hnm
      have b4 := (Below.refl w3.heap.size w3).alloc (Nat.le_refl _) (.cells (repC 1 nm t 0 0 0 0 (.slice none 0 0)) 38)
      have H4 : Hid (Si W b w gv w3.heap.size lo m R u7 nm t (.slice none 0 0) [] (w3.alloc (.cells (repC 1 nm t 0 0 0 0 (.slice none 0 0)) 38))) := Lib.hid (by
        have hv3 := H3.out.vb.choose_spec.1.lt
        exact ⟨H3.out.under b4, Row.new _ _ _, ⟨rfl, .inl ⟨rfl, rfl⟩⟩, fun r hr i hi => row_size (H3.out.rds r hr) hi, H3.out.gro.size, by omega, fun e => by have := row_size H3.out.own e; omega⟩)
      clear b4 H3
      go_upto_region 9 with fail
      refine forget (fun Y => Hid (Si W b w gv w3.heap.size lo m R u7 nm t (.slice none 0 0) [] Y)) H4 ?_
      clear H4
      generalize w3.heap.size = gt at *
      rintro Y4 H4
      go_wp2_with fail
      go_loopw [12] (fun tc wr => ∃ (c : Nat) (u : Value) (L : List El.Elt.R), 1 ≤ c ∧ c ≤ 12 ∧ tc = .int .i64 (c : Int) ∧ Hid (Si W b w gv gt lo m R u7 nm t u L wr) ∧ Hid (Rdg c L)) (fun tc _ => 12 - (intOf tc).toNat)
      case atStart => exact ⟨1, _, [], by omega, by omega, rfl, H4, Lib.hid (Rdg.nil 1)⟩
      case round =>
        clear H4
        obtain ⟨c, u, L, hc1, hc2, rfl, H5, HL⟩ := hrel
        by_cases hlt : c ≤ 11
        · have c0 : (c : Int) ≤ 11 := by omega
          have c1 : (0 : Int) ≤ (c : Int) := by omega
          have c2 : (c : Int) < 12 := by omega
          go_wp2_with fail
          refine (n_any W b _ _ H5.out.sr.src (by omega) (by omega)).mono ?_
          rintro e w6 ⟨x, ⟨x1, x2⟩, rfl, s6, g6⟩
          have H6 := Lib.hid (H5.out.step s6 g6)
          clear s6 g6 H5
          by_cases hx3 : x = 3
          · subst hx3
            have HLm := Lib.hid HL.out.more
            go_wp2_with fail
            go_roundw
            case rel => exact ⟨c + 1, u, L, by omega, by omega, by go_num, H6, HLm⟩
            case measure => simp [intOf]; omega
          · have kx3 : (x == 3) = false := beq_eq_false_iff_ne.2 hx3
            clear hx3 x1 x2
            obtain ⟨ds, dr, dz, dv⟩ := H6.out.sr.vb
            obtain ⟨vv, hvv⟩ := dv c (by omega)
            have q0 := (dr.cell c).trans hvv
            clear dr dz dv hvv
            go_upto_region 14 with fail
            clear q0
            go_wp2_with fail
            refine (n_any W b _ _ H6.out.sr.src (by omega) (by omega)).mono ?_
            rintro e w7 ⟨y, ⟨y1, y2⟩, rfl, s7, g7⟩
            have H7 := Lib.hid (H6.out.step s7 g7)
            clear s7 g7 H6
            by_cases hy0 : y = 0
            · subst hy0
              clear y1 y2
              go_wp2_with fail
              refine (range_any W b _ _ _ H7.out.sr.src (by omega) (by omega) (by omega) (by omega)).mono ?_
              rintro e w8 ⟨d8, ⟨d81, d82⟩, rfl, s8, g8⟩
              have H8 := Lib.hid (H7.out.step s8 g8)
              clear s8 g8 H7
              obtain ⟨v8, hv8⟩ : ∃ q, wrap64 (vv + d8) = q := ⟨_, rfl⟩
              obtain ⟨ds, dr, dz, dv⟩ := H8.out.sr.vb
              obtain ⟨ve, hve⟩ := dv c (by omega)
              have q0 := (dr.cell c).trans hve
              have f0 := dr.thaw c
              clear dr dz dv hve
              have H9 := Lib.hid (H8.out.val c v8)

              clear H8
              go_upto_region 23 with fail
              clear q0 f0
              have HD := Lib.hid (show ∀ W : World, Below W.heap.size W W.drew from fun _ => ⟨rfl, rfl, rfl, Nat.le_refl _, fun _ _ => rfl⟩)
              have H10 := Lib.hid (H9.out.under (HD.out (w8.setCell ⟨gv, c, none⟩ (.int .i64 v8))))
              clear H9
              refine wp_region_held_drew (S := fun _ : World => True) (by kernel_rfl) trivial (fun hHeld => ?_)
              generalize (w8.setCell ⟨gv, c, none⟩ (.int .i64 v8)).drew = X at *
              refine tk 0 (oi := ⟨some 72, _, _, _, _, none⟩) rfl ?_
              try go_frame
              refine tk 2 (oi := ⟨some 74, _, _, _, _, none⟩) rfl ?_
              try go_frame
              refine tk 3 (oi := ⟨some 75, _, _, _, _, none⟩) rfl ?_
              try go_frame
              refine tk 4 (oi := ⟨some 76, _, _, _, _, none⟩) rfl ?_
              try go_frame
              refine wpAnyH_ready (rs := [1, 5]) (by kernel_rfl) (by simp) ?_
              refine AllReadyH.cons (o := ⟨some 73, _, _, _, _, none⟩) rfl (fun K hK => ?_) (AllReadyH.cons (o := ⟨some 77, _, _, _, _, none⟩) rfl (fun K hK => ?_) AllReadyH.nil)
              · have z7 := (row8 H10.out.rb).2.2.2.2.2.2.2
                go_simp
                refine hK.out _ _ trivial (fun _ => ?_)
                clear hK K z7
                try simp only [Act.put, List.setIfInBounds_toArray, List.set_cons_zero, List.set_cons_succ]
                refine wpAnyH_ready (rs := [5]) (by kernel_rfl) (by simp) ?_
                refine AllReadyH.cons (o := ⟨some 77, _, _, _, _, none⟩) rfl (fun K hK => ?_) AllReadyH.nil
                go_simp
                refine (clamp_any c _ _ hc1 hlt).mono ?_
                rintro e X2 ⟨xv, rfl, hval, g2⟩
                have HVl := Lib.hid hval
                go_wp2_with fail
                have H11 := Lib.hid (H10.out.under g2)
                clear g2 H10 hval hHeld
                refine hK.out _ _ trivial (fun _ => ?_)
                clear hK K
                try simp only [Act.put, List.setIfInBounds_toArray, List.set_cons_zero, List.set_cons_succ]
                refine tk 6 (oi := ⟨some 78, _, _, _, _, none⟩) rfl ?_
                try go_frame
                have b12 := (Below.refl X2.heap.size X2).alloc (Nat.le_refl _) (.cells #[.int .i64 (c : Int), .int .i64 xv] 81)
                have H12 : Hid (Si W b w gv gt lo m R u7 nm t u L (X2.alloc (.cells #[.int .i64 (c : Int), .int .i64 xv] 81)) ∧ Row (X2.alloc (.cells #[.int .i64 (c : Int), .int .i64 xv] 81)) X2.heap.size 81 #[.int .i64 (c : Int), .int .i64 xv]) := Lib.hid ⟨H11.out.under b12, Row.new _ _ _⟩
                clear b12 H11
                refine wpAnyH_ready (rs := [7]) (by kernel_rfl) (by simp) ?_
                refine AllReadyH.cons (o := ⟨some 79, _, _, _, _, none⟩) rfl (fun K hK => ?_) AllReadyH.nil
                go_simp
                refine hK.out _ _ trivial (fun _ => ?_)
                clear hK K
                try simp only [Act.put, List.setIfInBounds_toArray, List.set_cons_zero, List.set_cons_succ]
                obtain ⟨g6, hg6⟩ : ∃ g, X2.heap.size = g := ⟨_, rfl⟩
                rw [hg6] at H12 ⊢
                clear hg6
                generalize X2.alloc (.cells #[.int .i64 (c : Int), .int .i64 xv] 81) = X3 at *

                have hLl := HL.out.len
                have hbs := H12.out.1.rb.lt
                refine wpAnyH_ready (rs := [8]) (by kernel_rfl) (by simp) ?_
                refine AllReadyH.cons (o := ⟨some 80, _, _, _, _, none⟩) rfl (fun K hK => ?_) AllReadyH.nil
                refine El.step_append_own rfl (.tmp 73) (.tmp 79) 36 rfl gt 81 i1 (.agg #[.int .i64 0, .int .i64 0]) 2 16 Tryd.underlying36 hj hr0 hr1 hr2 rfl (by decide) u L.length (El.rdc L) rfl H12.out.1.rd ⟨g6, 0, none⟩ 1 1 [.int .i64 (c : Int), .int .i64 xv] rfl rfl (fun q z hz => by rw [Addr.add_lit, Nat.zero_add, H12.out.2.cell, ← hz]; simp) (fun z hz => by simp at hz; rcases hz with rfl | rfl <;> rfl) (by unfold maxLen; omega) (by omega) (Nat.le_of_lt hbs) ?_
                intro v' X5 ho' hg'
                obtain ⟨A', cap', ev⟩ := row_form ho'
                subst ev
                have H13 := Lib.hid (H12.out.1.app (L' := L ++ [((c : Int), xv)]) (u' := .slice A' (L.length + 1) cap') hg' (by rw [El.rdc_snoc, List.length_append]; exact ho'))
                clear ho' hg' H12
                refine hK.out _ _ trivial (fun _ => ?_)
                clear hK K
                try simp only [Act.put, List.setIfInBounds_toArray, List.set_cons_zero, List.set_cons_succ]
                refine tk 9 (oi := ⟨some 81, _, _, _, _, none⟩) rfl ?_
                try go_frame
                have z7 := (row8 H13.out.2).2.2.2.2.2.2.2
                have f7 := H13.out.2.thaw 7
                refine wpAnyH_ready (rs := [10]) (by kernel_rfl) (by simp) ?_
                refine AllReadyH.cons (o := ⟨none, _, _, _, _, none⟩) rfl (fun K hK => ?_) AllReadyH.nil
                go_simp
                refine hK.out _ _ trivial (fun _ => ?_)
                clear hK K z7 f7
                try simp only [Act.put, List.setIfInBounds_toArray, List.set_cons_zero, List.set_cons_succ]
                refine wpAnyH_done (by kernel_rfl) ?_ _
                have H14 := Lib.hid H13.out.1
                have HL4 := Lib.hid (HL.out.snoc HVl.out)
                clear H13 hLl hbs
                generalize X5.setCell ⟨gt, 7, none⟩ (.slice A' (L.length + 1) cap') = X6 at *
                go_wp2_with fail
                go_roundw
                case rel => exact ⟨c + 1, _, _, by omega, by omega, by go_num, H14, HL4⟩
                case measure => simp [intOf]; omega

              · go_simp
                refine (clamp_any c _ _ hc1 hlt).mono ?_
                rintro e X2 ⟨xv, rfl, hval, g2⟩
                have HVl := Lib.hid hval
                go_wp2_with fail
                have H11 := Lib.hid (H10.out.under g2)
                clear g2 H10 hval hHeld
                refine hK.out _ _ trivial (fun _ => ?_)
                clear hK K
                try simp only [Act.put, List.setIfInBounds_toArray, List.set_cons_zero, List.set_cons_succ]
                refine tk 6 (oi := ⟨some 78, _, _, _, _, none⟩) rfl ?_
                try go_frame
                refine wpAnyH_ready (rs := [1, 7]) (by kernel_rfl) (by simp) ?_
                refine AllReadyH.cons (o := ⟨some 73, _, _, _, _, none⟩) rfl (fun K hK => ?_) (AllReadyH.cons (o := ⟨some 79, _, _, _, _, none⟩) rfl (fun K hK => ?_) AllReadyH.nil)
                · skip
                  have z7 := (row8 H11.out.rb).2.2.2.2.2.2.2
                  go_simp
                  refine hK.out _ _ trivial (fun _ => ?_)
                  clear hK K z7
                  try simp only [Act.put, List.setIfInBounds_toArray, List.set_cons_zero, List.set_cons_succ]

                  have b12 := (Below.refl X2.heap.size X2).alloc (Nat.le_refl _) (.cells #[.int .i64 (c : Int), .int .i64 xv] 81)
                  have H12 : Hid (Si W b w gv gt lo m R u7 nm t u L (X2.alloc (.cells #[.int .i64 (c : Int), .int .i64 xv] 81)) ∧ Row (X2.alloc (.cells #[.int .i64 (c : Int), .int .i64 xv] 81)) X2.heap.size 81 #[.int .i64 (c : Int), .int .i64 xv]) := Lib.hid ⟨H11.out.under b12, Row.new _ _ _⟩
                  clear b12 H11
                  refine wpAnyH_ready (rs := [7]) (by kernel_rfl) (by simp) ?_
                  refine AllReadyH.cons (o := ⟨some 79, _, _, _, _, none⟩) rfl (fun K hK => ?_) AllReadyH.nil
                  go_simp
                  refine hK.out _ _ trivial (fun _ => ?_)
                  clear hK K
                  try simp only [Act.put, List.setIfInBounds_toArray, List.set_cons_zero, List.set_cons_succ]
                  obtain ⟨g6, hg6⟩ : ∃ g, X2.heap.size = g := ⟨_, rfl⟩
                  rw [hg6] at H12 ⊢
                  clear hg6
                  generalize X2.alloc (.cells #[.int .i64 (c : Int), .int .i64 xv] 81) = X3 at *

                  have hLl := HL.out.len
                  have hbs := H12.out.1.rb.lt
                  refine wpAnyH_ready (rs := [8]) (by kernel_rfl) (by simp) ?_
                  refine AllReadyH.cons (o := ⟨some 80, _, _, _, _, none⟩) rfl (fun K hK => ?_) AllReadyH.nil
                  refine El.step_append_own rfl (.tmp 73) (.tmp 79) 36 rfl gt 81 i1 (.agg #[.int .i64 0, .int .i64 0]) 2 16 Tryd.underlying36 hj hr0 hr1 hr2 rfl (by decide) u L.length (El.rdc L) rfl H12.out.1.rd ⟨g6, 0, none⟩ 1 1 [.int .i64 (c : Int), .int .i64 xv] rfl rfl (fun q z hz => by rw [Addr.add_lit, Nat.zero_add, H12.out.2.cell, ← hz]; simp) (fun z hz => by simp at hz; rcases hz with rfl | rfl <;> rfl) (by unfold maxLen; omega) (by omega) (Nat.le_of_lt hbs) ?_
                  intro v' X5 ho' hg'
                  obtain ⟨A', cap', ev⟩ := row_form ho'
                  subst ev
                  have H13 := Lib.hid (H12.out.1.app (L' := L ++ [((c : Int), xv)]) (u' := .slice A' (L.length + 1) cap') hg' (by rw [El.rdc_snoc, List.length_append]; exact ho'))
                  clear ho' hg' H12
                  refine hK.out _ _ trivial (fun _ => ?_)
                  clear hK K
                  try simp only [Act.put, List.setIfInBounds_toArray, List.set_cons_zero, List.set_cons_succ]
                  refine tk 9 (oi := ⟨some 81, _, _, _, _, none⟩) rfl ?_
                  try go_frame
                  have z7 := (row8 H13.out.2).2.2.2.2.2.2.2
                  have f7 := H13.out.2.thaw 7
                  refine wpAnyH_ready (rs := [10]) (by kernel_rfl) (by simp) ?_
                  refine AllReadyH.cons (o := ⟨none, _, _, _, _, none⟩) rfl (fun K hK => ?_) AllReadyH.nil
                  go_simp
                  refine hK.out _ _ trivial (fun _ => ?_)
                  clear hK K z7 f7
                  try simp only [Act.put, List.setIfInBounds_toArray, List.set_cons_zero, List.set_cons_succ]
                  refine wpAnyH_done (by kernel_rfl) ?_ _
                  have H14 := Lib.hid H13.out.1
                  have HL4 := Lib.hid (HL.out.snoc HVl.out)
                  clear H13 hLl hbs
                  generalize X5.setCell ⟨gt, 7, none⟩ (.slice A' (L.length + 1) cap') = X6 at *
                  go_wp2_with fail
                  go_roundw
                  case rel => exact ⟨c + 1, _, _, by omega, by omega, by go_num, H14, HL4⟩
                  case measure => simp [intOf]; omega
                · skip
                  have b12 := (Below.refl X2.heap.size X2).alloc (Nat.le_refl _) (.cells #[.int .i64 (c : Int), .int .i64 xv] 81)
                  have H12 : Hid (Si W b w gv gt lo m R u7 nm t u L (X2.alloc (.cells #[.int .i64 (c : Int), .int .i64 xv] 81)) ∧ Row (X2.alloc (.cells #[.int .i64 (c : Int), .int .i64 xv] 81)) X2.heap.size 81 #[.int .i64 (c : Int), .int .i64 xv]) := Lib.hid ⟨H11.out.under b12, Row.new _ _ _⟩
                  clear b12 H11

                  go_simp
                  refine hK.out _ _ trivial (fun _ => ?_)
                  clear hK K
                  try simp only [Act.put, List.setIfInBounds_toArray, List.set_cons_zero, List.set_cons_succ]
                  obtain ⟨g6, hg6⟩ : ∃ g, X2.heap.size = g := ⟨_, rfl⟩
                  rw [hg6] at H12 ⊢
                  clear hg6
                  generalize X2.alloc (.cells #[.int .i64 (c : Int), .int .i64 xv] 81) = X3 at *
                  refine wpAnyH_ready (rs := [1]) (by kernel_rfl) (by simp) ?_
                  refine AllReadyH.cons (o := ⟨some 73, _, _, _, _, none⟩) rfl (fun K hK => ?_) AllReadyH.nil

                  have z7 := (row8 H12.out.1.rb).2.2.2.2.2.2.2
                  go_simp
                  refine hK.out _ _ trivial (fun _ => ?_)
                  clear hK K z7
                  try simp only [Act.put, List.setIfInBounds_toArray, List.set_cons_zero, List.set_cons_succ]

                  have hLl := HL.out.len
                  have hbs := H12.out.1.rb.lt
                  refine wpAnyH_ready (rs := [8]) (by kernel_rfl) (by simp) ?_
                  refine AllReadyH.cons (o := ⟨some 80, _, _, _, _, none⟩) rfl (fun K hK => ?_) AllReadyH.nil
                  refine El.step_append_own rfl (.tmp 73) (.tmp 79) 36 rfl gt 81 i1 (.agg #[.int .i64 0, .int .i64 0]) 2 16 Tryd.underlying36 hj hr0 hr1 hr2 rfl (by decide) u L.length (El.rdc L) rfl H12.out.1.rd ⟨g6, 0, none⟩ 1 1 [.int .i64 (c : Int), .int .i64 xv] rfl rfl (fun q z hz => by rw [Addr.add_lit, Nat.zero_add, H12.out.2.cell, ← hz]; simp) (fun z hz => by simp at hz; rcases hz with rfl | rfl <;> rfl) (by unfold maxLen; omega) (by omega) (Nat.le_of_lt hbs) ?_
                  intro v' X5 ho' hg'
                  obtain ⟨A', cap', ev⟩ := row_form ho'
                  subst ev
                  have H13 := Lib.hid (H12.out.1.app (L' := L ++ [((c : Int), xv)]) (u' := .slice A' (L.length + 1) cap') hg' (by rw [El.rdc_snoc, List.length_append]; exact ho'))
                  clear ho' hg' H12
                  refine hK.out _ _ trivial (fun _ => ?_)
                  clear hK K
                  try simp only [Act.put, List.setIfInBounds_toArray, List.set_cons_zero, List.set_cons_succ]
                  refine tk 9 (oi := ⟨some 81, _, _, _, _, none⟩) rfl ?_
                  try go_frame
                  have z7 := (row8 H13.out.2).2.2.2.2.2.2.2
                  have f7 := H13.out.2.thaw 7
                  refine wpAnyH_ready (rs := [10]) (by kernel_rfl) (by simp) ?_
                  refine AllReadyH.cons (o := ⟨none, _, _, _, _, none⟩) rfl (fun K hK => ?_) AllReadyH.nil
                  go_simp
                  refine hK.out _ _ trivial (fun _ => ?_)
                  clear hK K z7 f7
                  try simp only [Act.put, List.setIfInBounds_toArray, List.set_cons_zero, List.set_cons_succ]
                  refine wpAnyH_done (by kernel_rfl) ?_ _
                  have H14 := Lib.hid H13.out.1
                  have HL4 := Lib.hid (HL.out.snoc HVl.out)
                  clear H13 hLl hbs
                  generalize X5.setCell ⟨gt, 7, none⟩ (.slice A' (L.length + 1) cap') = X6 at *
                  go_wp2_with fail
                  go_roundw
                  case rel => exact ⟨c + 1, _, _, by omega, by omega, by go_num, H14, HL4⟩
                  case measure => simp [intOf]; omega
            · have ky0 : (y == 0) = false := beq_eq_false_iff_ne.2 hy0
              by_cases hy1 : y = 1
              · subst hy1
                clear y1 y2 hy0 ky0
                go_wp2_with fail
                refine (range_any W b _ _ _ H7.out.sr.src (by omega) (by omega) (by omega) (by omega)).mono ?_
                rintro e w8 ⟨d8, ⟨d81, d82⟩, rfl, s8, g8⟩
                have H9 := Lib.hid (H7.out.step s8 g8)
                clear s8 g8 H7
                obtain ⟨v8, hv8⟩ : ∃ q, wrap64 (vv + d8) = q := ⟨_, rfl⟩
                go_upto_region 23 with fail
                have HD := Lib.hid (show ∀ W : World, Below W.heap.size W W.drew from fun _ => ⟨rfl, rfl, rfl, Nat.le_refl _, fun _ _ => rfl⟩)
                have H10 := Lib.hid (H9.out.under (HD.out (w8)))
                clear H9
                refine wp_region_held_drew (S := fun _ : World => True) (by kernel_rfl) trivial (fun hHeld => ?_)
                generalize (w8).drew = X at *
                refine tk 0 (oi := ⟨some 72, _, _, _, _, none⟩) rfl ?_
                try go_frame
                refine tk 2 (oi := ⟨some 74, _, _, _, _, none⟩) rfl ?_
                try go_frame
                refine tk 3 (oi := ⟨some 75, _, _, _, _, none⟩) rfl ?_
                try go_frame
                refine tk 4 (oi := ⟨some 76, _, _, _, _, none⟩) rfl ?_
                try go_frame
                refine wpAnyH_ready (rs := [1, 5]) (by kernel_rfl) (by simp) ?_
                refine AllReadyH.cons (o := ⟨some 73, _, _, _, _, none⟩) rfl (fun K hK => ?_) (AllReadyH.cons (o := ⟨some 77, _, _, _, _, none⟩) rfl (fun K hK => ?_) AllReadyH.nil)
                · have z7 := (row8 H10.out.rb).2.2.2.2.2.2.2
                  go_simp
                  refine hK.out _ _ trivial (fun _ => ?_)
                  clear hK K z7
                  try simp only [Act.put, List.setIfInBounds_toArray, List.set_cons_zero, List.set_cons_succ]
                  refine wpAnyH_ready (rs := [5]) (by kernel_rfl) (by simp) ?_
                  refine AllReadyH.cons (o := ⟨some 77, _, _, _, _, none⟩) rfl (fun K hK => ?_) AllReadyH.nil
                  go_simp
                  refine (clamp_any c _ _ hc1 hlt).mono ?_
                  rintro e X2 ⟨xv, rfl, hval, g2⟩
                  have HVl := Lib.hid hval
                  go_wp2_with fail
                  have H11 := Lib.hid (H10.out.under g2)
                  clear g2 H10 hval hHeld
                  refine hK.out _ _ trivial (fun _ => ?_)
                  clear hK K
                  try simp only [Act.put, List.setIfInBounds_toArray, List.set_cons_zero, List.set_cons_succ]
                  refine tk 6 (oi := ⟨some 78, _, _, _, _, none⟩) rfl ?_
                  try go_frame
                  have b12 := (Below.refl X2.heap.size X2).alloc (Nat.le_refl _) (.cells #[.int .i64 (c : Int), .int .i64 xv] 81)
                  have H12 : Hid (Si W b w gv gt lo m R u7 nm t u L (X2.alloc (.cells #[.int .i64 (c : Int), .int .i64 xv] 81)) ∧ Row (X2.alloc (.cells #[.int .i64 (c : Int), .int .i64 xv] 81)) X2.heap.size 81 #[.int .i64 (c : Int), .int .i64 xv]) := Lib.hid ⟨H11.out.under b12, Row.new _ _ _⟩
                  clear b12 H11
                  refine wpAnyH_ready (rs := [7]) (by kernel_rfl) (by simp) ?_
                  refine AllReadyH.cons (o := ⟨some 79, _, _, _, _, none⟩) rfl (fun K hK => ?_) AllReadyH.nil
                  go_simp
                  refine hK.out _ _ trivial (fun _ => ?_)
                  clear hK K
                  try simp only [Act.put, List.setIfInBounds_toArray, List.set_cons_zero, List.set_cons_succ]
                  obtain ⟨g6, hg6⟩ : ∃ g, X2.heap.size = g := ⟨_, rfl⟩
                  rw [hg6] at H12 ⊢
                  clear hg6
                  generalize X2.alloc (.cells #[.int .i64 (c : Int), .int .i64 xv] 81) = X3 at *

                  have hLl := HL.out.len
                  have hbs := H12.out.1.rb.lt
                  refine wpAnyH_ready (rs := [8]) (by kernel_rfl) (by simp) ?_
                  refine AllReadyH.cons (o := ⟨some 80, _, _, _, _, none⟩) rfl (fun K hK => ?_) AllReadyH.nil
                  refine El.step_append_own rfl (.tmp 73) (.tmp 79) 36 rfl gt 81 i1 (.agg #[.int .i64 0, .int .i64 0]) 2 16 Tryd.underlying36 hj hr0 hr1 hr2 rfl (by decide) u L.length (El.rdc L) rfl H12.out.1.rd ⟨g6, 0, none⟩ 1 1 [.int .i64 (c : Int), .int .i64 xv] rfl rfl (fun q z hz => by rw [Addr.add_lit, Nat.zero_add, H12.out.2.cell, ← hz]; simp) (fun z hz => by simp at hz; rcases hz with rfl | rfl <;> rfl) (by unfold maxLen; omega) (by omega) (Nat.le_of_lt hbs) ?_
                  intro v' X5 ho' hg'
                  obtain ⟨A', cap', ev⟩ := row_form ho'
                  subst ev
                  have H13 := Lib.hid (H12.out.1.app (L' := L ++ [((c : Int), xv)]) (u' := .slice A' (L.length + 1) cap') hg' (by rw [El.rdc_snoc, List.length_append]; exact ho'))
                  clear ho' hg' H12
                  refine hK.out _ _ trivial (fun _ => ?_)
                  clear hK K
                  try simp only [Act.put, List.setIfInBounds_toArray, List.set_cons_zero, List.set_cons_succ]
                  refine tk 9 (oi := ⟨some 81, _, _, _, _, none⟩) rfl ?_
                  try go_frame
                  have z7 := (row8 H13.out.2).2.2.2.2.2.2.2
                  have f7 := H13.out.2.thaw 7
                  refine wpAnyH_ready (rs := [10]) (by kernel_rfl) (by simp) ?_
                  refine AllReadyH.cons (o := ⟨none, _, _, _, _, none⟩) rfl (fun K hK => ?_) AllReadyH.nil
                  go_simp
                  refine hK.out _ _ trivial (fun _ => ?_)
                  clear hK K z7 f7
                  try simp only [Act.put, List.setIfInBounds_toArray, List.set_cons_zero, List.set_cons_succ]
                  refine wpAnyH_done (by kernel_rfl) ?_ _
                  have H14 := Lib.hid H13.out.1
                  have HL4 := Lib.hid (HL.out.snoc HVl.out)
                  clear H13 hLl hbs
                  generalize X5.setCell ⟨gt, 7, none⟩ (.slice A' (L.length + 1) cap') = X6 at *
                  go_wp2_with fail
                  go_roundw
                  case rel => exact ⟨c + 1, _, _, by omega, by omega, by go_num, H14, HL4⟩
                  case measure => simp [intOf]; omega

                · go_simp
                  refine (clamp_any c _ _ hc1 hlt).mono ?_
                  rintro e X2 ⟨xv, rfl, hval, g2⟩
                  have HVl := Lib.hid hval
                  go_wp2_with fail
                  have H11 := Lib.hid (H10.out.under g2)
                  clear g2 H10 hval hHeld
                  refine hK.out _ _ trivial (fun _ => ?_)
                  clear hK K
                  try simp only [Act.put, List.setIfInBounds_toArray, List.set_cons_zero, List.set_cons_succ]
                  refine tk 6 (oi := ⟨some 78, _, _, _, _, none⟩) rfl ?_
                  try go_frame
                  refine wpAnyH_ready (rs := [1, 7]) (by kernel_rfl) (by simp) ?_
                  refine AllReadyH.cons (o := ⟨some 73, _, _, _, _, none⟩) rfl (fun K hK => ?_) (AllReadyH.cons (o := ⟨some 79, _, _, _, _, none⟩) rfl (fun K hK => ?_) AllReadyH.nil)
                  · skip
                    have z7 := (row8 H11.out.rb).2.2.2.2.2.2.2
                    go_simp
                    refine hK.out _ _ trivial (fun _ => ?_)
                    clear hK K z7
                    try simp only [Act.put, List.setIfInBounds_toArray, List.set_cons_zero, List.set_cons_succ]

                    have b12 := (Below.refl X2.heap.size X2).alloc (Nat.le_refl _) (.cells #[.int .i64 (c : Int), .int .i64 xv] 81)
                    have H12 : Hid (Si W b w gv gt lo m R u7 nm t u L (X2.alloc (.cells #[.int .i64 (c : Int), .int .i64 xv] 81)) ∧ Row (X2.alloc (.cells #[.int .i64 (c : Int), .int .i64 xv] 81)) X2.heap.size 81 #[.int .i64 (c : Int), .int .i64 xv]) := Lib.hid ⟨H11.out.under b12, Row.new _ _ _⟩
                    clear b12 H11
                    refine wpAnyH_ready (rs := [7]) (by kernel_rfl) (by simp) ?_
                    refine AllReadyH.cons (o := ⟨some 79, _, _, _, _, none⟩) rfl (fun K hK => ?_) AllReadyH.nil
                    go_simp
                    refine hK.out _ _ trivial (fun _ => ?_)
                    clear hK K
                    try simp only [Act.put, List.setIfInBounds_toArray, List.set_cons_zero, List.set_cons_succ]
                    obtain ⟨g6, hg6⟩ : ∃ g, X2.heap.size = g := ⟨_, rfl⟩
                    rw [hg6] at H12 ⊢
                    clear hg6
                    generalize X2.alloc (.cells #[.int .i64 (c : Int), .int .i64 xv] 81) = X3 at *

                    have hLl := HL.out.len
                    have hbs := H12.out.1.rb.lt
                    refine wpAnyH_ready (rs := [8]) (by kernel_rfl) (by simp) ?_
                    refine AllReadyH.cons (o := ⟨some 80, _, _, _, _, none⟩) rfl (fun K hK => ?_) AllReadyH.nil
                    refine El.step_append_own rfl (.tmp 73) (.tmp 79) 36 rfl gt 81 i1 (.agg #[.int .i64 0, .int .i64 0]) 2 16 Tryd.underlying36 hj hr0 hr1 hr2 rfl (by decide) u L.length (El.rdc L) rfl H12.out.1.rd ⟨g6, 0, none⟩ 1 1 [.int .i64 (c : Int), .int .i64 xv] rfl rfl (fun q z hz => by rw [Addr.add_lit, Nat.zero_add, H12.out.2.cell, ← hz]; simp) (fun z hz => by simp at hz; rcases hz with rfl | rfl <;> rfl) (by unfold maxLen; omega) (by omega) (Nat.le_of_lt hbs) ?_
                    intro v' X5 ho' hg'
                    obtain ⟨A', cap', ev⟩ := row_form ho'
                    subst ev
                    have H13 := Lib.hid (H12.out.1.app (L' := L ++ [((c : Int), xv)]) (u' := .slice A' (L.length + 1) cap') hg' (by rw [El.rdc_snoc, List.length_append]; exact ho'))
                    clear ho' hg' H12
                    refine hK.out _ _ trivial (fun _ => ?_)
                    clear hK K
                    try simp only [Act.put, List.setIfInBounds_toArray, List.set_cons_zero, List.set_cons_succ]
                    refine tk 9 (oi := ⟨some 81, _, _, _, _, none⟩) rfl ?_
                    try go_frame
                    have z7 := (row8 H13.out.2).2.2.2.2.2.2.2
                    have f7 := H13.out.2.thaw 7
                    refine wpAnyH_ready (rs := [10]) (by kernel_rfl) (by simp) ?_
                    refine AllReadyH.cons (o := ⟨none, _, _, _, _, none⟩) rfl (fun K hK => ?_) AllReadyH.nil
                    go_simp
                    refine hK.out _ _ trivial (fun _ => ?_)
                    clear hK K z7 f7
                    try simp only [Act.put, List.setIfInBounds_toArray, List.set_cons_zero, List.set_cons_succ]
                    refine wpAnyH_done (by kernel_rfl) ?_ _
                    have H14 := Lib.hid H13.out.1
                    have HL4 := Lib.hid (HL.out.snoc HVl.out)
                    clear H13 hLl hbs
                    generalize X5.setCell ⟨gt, 7, none⟩ (.slice A' (L.length + 1) cap') = X6 at *
                    go_wp2_with fail
                    go_roundw
                    case rel => exact ⟨c + 1, _, _, by omega, by omega, by go_num, H14, HL4⟩
                    case measure => simp [intOf]; omega
                  · skip
                    have b12 := (Below.refl X2.heap.size X2).alloc (Nat.le_refl _) (.cells #[.int .i64 (c : Int), .int .i64 xv] 81)
                    have H12 : Hid (Si W b w gv gt lo m R u7 nm t u L (X2.alloc (.cells #[.int .i64 (c : Int), .int .i64 xv] 81)) ∧ Row (X2.alloc (.cells #[.int .i64 (c : Int), .int .i64 xv] 81)) X2.heap.size 81 #[.int .i64 (c : Int), .int .i64 xv]) := Lib.hid ⟨H11.out.under b12, Row.new _ _ _⟩
                    clear b12 H11

                    go_simp
                    refine hK.out _ _ trivial (fun _ => ?_)
                    clear hK K
                    try simp only [Act.put, List.setIfInBounds_toArray, List.set_cons_zero, List.set_cons_succ]
                    obtain ⟨g6, hg6⟩ : ∃ g, X2.heap.size = g := ⟨_, rfl⟩
                    rw [hg6] at H12 ⊢
                    clear hg6
                    generalize X2.alloc (.cells #[.int .i64 (c : Int), .int .i64 xv] 81) = X3 at *
                    refine wpAnyH_ready (rs := [1]) (by kernel_rfl) (by simp) ?_
                    refine AllReadyH.cons (o := ⟨some 73, _, _, _, _, none⟩) rfl (fun K hK => ?_) AllReadyH.nil

                    have z7 := (row8 H12.out.1.rb).2.2.2.2.2.2.2
                    go_simp
                    refine hK.out _ _ trivial (fun _ => ?_)
                    clear hK K z7
                    try simp only [Act.put, List.setIfInBounds_toArray, List.set_cons_zero, List.set_cons_succ]

                    have hLl := HL.out.len
                    have hbs := H12.out.1.rb.lt
                    refine wpAnyH_ready (rs := [8]) (by kernel_rfl) (by simp) ?_
                    refine AllReadyH.cons (o := ⟨some 80, _, _, _, _, none⟩) rfl (fun K hK => ?_) AllReadyH.nil
                    refine El.step_append_own rfl (.tmp 73) (.tmp 79) 36 rfl gt 81 i1 (.agg #[.int .i64 0, .int .i64 0]) 2 16 Tryd.underlying36 hj hr0 hr1 hr2 rfl (by decide) u L.length (El.rdc L) rfl H12.out.1.rd ⟨g6, 0, none⟩ 1 1 [.int .i64 (c : Int), .int .i64 xv] rfl rfl (fun q z hz => by rw [Addr.add_lit, Nat.zero_add, H12.out.2.cell, ← hz]; simp) (fun z hz => by simp at hz; rcases hz with rfl | rfl <;> rfl) (by unfold maxLen; omega) (by omega) (Nat.le_of_lt hbs) ?_
                    intro v' X5 ho' hg'
                    obtain ⟨A', cap', ev⟩ := row_form ho'
                    subst ev
                    have H13 := Lib.hid (H12.out.1.app (L' := L ++ [((c : Int), xv)]) (u' := .slice A' (L.length + 1) cap') hg' (by rw [El.rdc_snoc, List.length_append]; exact ho'))
                    clear ho' hg' H12
                    refine hK.out _ _ trivial (fun _ => ?_)
                    clear hK K
                    try simp only [Act.put, List.setIfInBounds_toArray, List.set_cons_zero, List.set_cons_succ]
                    refine tk 9 (oi := ⟨some 81, _, _, _, _, none⟩) rfl ?_
                    try go_frame
                    have z7 := (row8 H13.out.2).2.2.2.2.2.2.2
                    have f7 := H13.out.2.thaw 7
                    refine wpAnyH_ready (rs := [10]) (by kernel_rfl) (by simp) ?_
                    refine AllReadyH.cons (o := ⟨none, _, _, _, _, none⟩) rfl (fun K hK => ?_) AllReadyH.nil
                    go_simp
                    refine hK.out _ _ trivial (fun _ => ?_)
                    clear hK K z7 f7
                    try simp only [Act.put, List.setIfInBounds_toArray, List.set_cons_zero, List.set_cons_succ]
                    refine wpAnyH_done (by kernel_rfl) ?_ _
                    have H14 := Lib.hid H13.out.1
                    have HL4 := Lib.hid (HL.out.snoc HVl.out)
                    clear H13 hLl hbs
                    generalize X5.setCell ⟨gt, 7, none⟩ (.slice A' (L.length + 1) cap') = X6 at *
                    go_wp2_with fail
                    go_roundw
                    case rel => exact ⟨c + 1, _, _, by omega, by omega, by go_num, H14, HL4⟩
                    case measure => simp [intOf]; omega
              · have ky1 : (y == 1) = false := beq_eq_false_iff_ne.2 hy1
                by_cases hy2 : y = 2
                · subst hy2
                  clear y1 y2 hy0 ky0 hy1 ky1
                  go_wp2_with fail
                  refine (pick_new (fun _ => True) W b _ H7.out.sr.src #[.int .i64 10, .int .i64 (-10), .int .i64 20, .int .i64 60, .int .i64 (-60), .int .i64 100] 6 6 (by decide) (by decide) (fun i hi => by
                    rcases (by omega : i = 0 ∨ i = 1 ∨ i = 2 ∨ i = 3 ∨ i = 4 ∨ i = 5) with rfl | rfl | rfl | rfl | rfl | rfl <;> exact ⟨_, rfl, trivial⟩)).mono ?_
                  rintro e w8 ⟨d8, -, rfl, s8, g8⟩
                  have H8 := Lib.hid (H7.out.step s8 g8)
                  clear s8 g8 H7
                  obtain ⟨v8, hv8⟩ : ∃ q, wrap64 (vv + d8) = q := ⟨_, rfl⟩
                  obtain ⟨ds, dr, dz, dv⟩ := H8.out.sr.vb
                  obtain ⟨ve, hve⟩ := dv c (by omega)
                  have q0 := (dr.cell c).trans hve
                  have f0 := dr.thaw c
                  clear dr dz dv hve
                  have H9 := Lib.hid (H8.out.val c v8)

                  clear H8
                  go_upto_region 23 with fail
                  clear q0 f0
                  have HD := Lib.hid (show ∀ W : World, Below W.heap.size W W.drew from fun _ => ⟨rfl, rfl, rfl, Nat.le_refl _, fun _ _ => rfl⟩)
                  have H10 := Lib.hid (H9.out.under (HD.out (w8.setCell ⟨gv, c, none⟩ (.int .i64 v8))))
                  clear H9
                  refine wp_region_held_drew (S := fun _ : World => True) (by kernel_rfl) trivial (fun hHeld => ?_)
                  generalize (w8.setCell ⟨gv, c, none⟩ (.int .i64 v8)).drew = X at *
                  refine tk 0 (oi := ⟨some 72, _, _, _, _, none⟩) rfl ?_
                  try go_frame
                  refine tk 2 (oi := ⟨some 74, _, _, _, _, none⟩) rfl ?_
                  try go_frame
                  refine tk 3 (oi := ⟨some 75, _, _, _, _, none⟩) rfl ?_
                  try go_frame
                  refine tk 4 (oi := ⟨some 76, _, _, _, _, none⟩) rfl ?_
                  try go_frame
                  refine wpAnyH_ready (rs := [1, 5]) (by kernel_rfl) (by simp) ?_
                  refine AllReadyH.cons (o := ⟨some 73, _, _, _, _, none⟩) rfl (fun K hK => ?_) (AllReadyH.cons (o := ⟨some 77, _, _, _, _, none⟩) rfl (fun K hK => ?_) AllReadyH.nil)
                  · have z7 := (row8 H10.out.rb).2.2.2.2.2.2.2
                    go_simp
                    refine hK.out _ _ trivial (fun _ => ?_)
                    clear hK K z7
                    try simp only [Act.put, List.setIfInBounds_toArray, List.set_cons_zero, List.set_cons_succ]
                    refine wpAnyH_ready (rs := [5]) (by kernel_rfl) (by simp) ?_
                    refine AllReadyH.cons (o := ⟨some 77, _, _, _, _, none⟩) rfl (fun K hK => ?_) AllReadyH.nil
                    go_simp
                    refine (clamp_any c _ _ hc1 hlt).mono ?_
                    rintro e X2 ⟨xv, rfl, hval, g2⟩
                    have HVl := Lib.hid hval
                    go_wp2_with fail
                    have H11 := Lib.hid (H10.out.under g2)
                    clear g2 H10 hval hHeld
                    refine hK.out _ _ trivial (fun _ => ?_)
                    clear hK K
                    try simp only [Act.put, List.setIfInBounds_toArray, List.set_cons_zero, List.set_cons_succ]
                    refine tk 6 (oi := ⟨some 78, _, _, _, _, none⟩) rfl ?_
                    try go_frame
                    have b12 := (Below.refl X2.heap.size X2).alloc (Nat.le_refl _) (.cells #[.int .i64 (c : Int), .int .i64 xv] 81)
                    have H12 : Hid (Si W b w gv gt lo m R u7 nm t u L (X2.alloc (.cells #[.int .i64 (c : Int), .int .i64 xv] 81)) ∧ Row (X2.alloc (.cells #[.int .i64 (c : Int), .int .i64 xv] 81)) X2.heap.size 81 #[.int .i64 (c : Int), .int .i64 xv]) := Lib.hid ⟨H11.out.under b12, Row.new _ _ _⟩
                    clear b12 H11
                    refine wpAnyH_ready (rs := [7]) (by kernel_rfl) (by simp) ?_
                    refine AllReadyH.cons (o := ⟨some 79, _, _, _, _, none⟩) rfl (fun K hK => ?_) AllReadyH.nil
                    go_simp
                    refine hK.out _ _ trivial (fun _ => ?_)
                    clear hK K
                    try simp only [Act.put, List.setIfInBounds_toArray, List.set_cons_zero, List.set_cons_succ]
                    obtain ⟨g6, hg6⟩ : ∃ g, X2.heap.size = g := ⟨_, rfl⟩
                    rw [hg6] at H12 ⊢
                    clear hg6
                    generalize X2.alloc (.cells #[.int .i64 (c : Int), .int .i64 xv] 81) = X3 at *

                    have hLl := HL.out.len
                    have hbs := H12.out.1.rb.lt
                    refine wpAnyH_ready (rs := [8]) (by kernel_rfl) (by simp) ?_
                    refine AllReadyH.cons (o := ⟨some 80, _, _, _, _, none⟩) rfl (fun K hK => ?_) AllReadyH.nil
                    refine El.step_append_own rfl (.tmp 73) (.tmp 79) 36 rfl gt 81 i1 (.agg #[.int .i64 0, .int .i64 0]) 2 16 Tryd.underlying36 hj hr0 hr1 hr2 rfl (by decide) u L.length (El.rdc L) rfl H12.out.1.rd ⟨g6, 0, none⟩ 1 1 [.int .i64 (c : Int), .int .i64 xv] rfl rfl (fun q z hz => by rw [Addr.add_lit, Nat.zero_add, H12.out.2.cell, ← hz]; simp) (fun z hz => by simp at hz; rcases hz with rfl | rfl <;> rfl) (by unfold maxLen; omega) (by omega) (Nat.le_of_lt hbs) ?_
                    intro v' X5 ho' hg'
                    obtain ⟨A', cap', ev⟩ := row_form ho'
                    subst ev
                    have H13 := Lib.hid (H12.out.1.app (L' := L ++ [((c : Int), xv)]) (u' := .slice A' (L.length + 1) cap') hg' (by rw [El.rdc_snoc, List.length_append]; exact ho'))
                    clear ho' hg' H12
                    refine hK.out _ _ trivial (fun _ => ?_)
                    clear hK K
                    try simp only [Act.put, List.setIfInBounds_toArray, List.set_cons_zero, List.set_cons_succ]
                    refine tk 9 (oi := ⟨some 81, _, _, _, _, none⟩) rfl ?_
                    try go_frame
                    have z7 := (row8 H13.out.2).2.2.2.2.2.2.2
                    have f7 := H13.out.2.thaw 7
                    refine wpAnyH_ready (rs := [10]) (by kernel_rfl) (by simp) ?_
                    refine AllReadyH.cons (o := ⟨none, _, _, _, _, none⟩) rfl (fun K hK => ?_) AllReadyH.nil
                    go_simp
                    refine hK.out _ _ trivial (fun _ => ?_)
                    clear hK K z7 f7
                    try simp only [Act.put, List.setIfInBounds_toArray, List.set_cons_zero, List.set_cons_succ]
                    refine wpAnyH_done (by kernel_rfl) ?_ _
                    have H14 := Lib.hid H13.out.1
                    have HL4 := Lib.hid (HL.out.snoc HVl.out)
                    clear H13 hLl hbs
                    generalize X5.setCell ⟨gt, 7, none⟩ (.slice A' (L.length + 1) cap') = X6 at *
                    go_wp2_with fail
                    go_roundw
                    case rel => exact ⟨c + 1, _, _, by omega, by omega, by go_num, H14, HL4⟩
                    case measure => simp [intOf]; omega

                  · go_simp
                    refine (clamp_any c _ _ hc1 hlt).mono ?_
                    rintro e X2 ⟨xv, rfl, hval, g2⟩
                    have HVl := Lib.hid hval
                    go_wp2_with fail
                    have H11 := Lib.hid (H10.out.under g2)
                    clear g2 H10 hval hHeld
                    refine hK.out _ _ trivial (fun _ => ?_)
                    clear hK K
                    try simp only [Act.put, List.setIfInBounds_toArray, List.set_cons_zero, List.set_cons_succ]
                    refine tk 6 (oi := ⟨some 78, _, _, _, _, none⟩) rfl ?_
                    try go_frame
                    refine wpAnyH_ready (rs := [1, 7]) (by kernel_rfl) (by simp) ?_
                    refine AllReadyH.cons (o := ⟨some 73, _, _, _, _, none⟩) rfl (fun K hK => ?_) (AllReadyH.cons (o := ⟨some 79, _, _, _, _, none⟩) rfl (fun K hK => ?_) AllReadyH.nil)
                    · skip
                      have z7 := (row8 H11.out.rb).2.2.2.2.2.2.2
                      go_simp
                      refine hK.out _ _ trivial (fun _ => ?_)
                      clear hK K z7
                      try simp only [Act.put, List.setIfInBounds_toArray, List.set_cons_zero, List.set_cons_succ]

                      have b12 := (Below.refl X2.heap.size X2).alloc (Nat.le_refl _) (.cells #[.int .i64 (c : Int), .int .i64 xv] 81)
                      have H12 : Hid (Si W b w gv gt lo m R u7 nm t u L (X2.alloc (.cells #[.int .i64 (c : Int), .int .i64 xv] 81)) ∧ Row (X2.alloc (.cells #[.int .i64 (c : Int), .int .i64 xv] 81)) X2.heap.size 81 #[.int .i64 (c : Int), .int .i64 xv]) := Lib.hid ⟨H11.out.under b12, Row.new _ _ _⟩
                      clear b12 H11
                      refine wpAnyH_ready (rs := [7]) (by kernel_rfl) (by simp) ?_
                      refine AllReadyH.cons (o := ⟨some 79, _, _, _, _, none⟩) rfl (fun K hK => ?_) AllReadyH.nil
                      go_simp
                      refine hK.out _ _ trivial (fun _ => ?_)
                      clear hK K
                      try simp only [Act.put, List.setIfInBounds_toArray, List.set_cons_zero, List.set_cons_succ]
                      obtain ⟨g6, hg6⟩ : ∃ g, X2.heap.size = g := ⟨_, rfl⟩
                      rw [hg6] at H12 ⊢
                      clear hg6
                      generalize X2.alloc (.cells #[.int .i64 (c : Int), .int .i64 xv] 81) = X3 at *

                      have hLl := HL.out.len
                      have hbs := H12.out.1.rb.lt
                      refine wpAnyH_ready (rs := [8]) (by kernel_rfl) (by simp) ?_
                      refine AllReadyH.cons (o := ⟨some 80, _, _, _, _, none⟩) rfl (fun K hK => ?_) AllReadyH.nil
                      refine El.step_append_own rfl (.tmp 73) (.tmp 79) 36 rfl gt 81 i1 (.agg #[.int .i64 0, .int .i64 0]) 2 16 Tryd.underlying36 hj hr0 hr1 hr2 rfl (by decide) u L.length (El.rdc L) rfl H12.out.1.rd ⟨g6, 0, none⟩ 1 1 [.int .i64 (c : Int), .int .i64 xv] rfl rfl (fun q z hz => by rw [Addr.add_lit, Nat.zero_add, H12.out.2.cell, ← hz]; simp) (fun z hz => by simp at hz; rcases hz with rfl | rfl <;> rfl) (by unfold maxLen; omega) (by omega) (Nat.le_of_lt hbs) ?_
                      intro v' X5 ho' hg'
                      obtain ⟨A', cap', ev⟩ := row_form ho'
                      subst ev
                      have H13 := Lib.hid (H12.out.1.app (L' := L ++ [((c : Int), xv)]) (u' := .slice A' (L.length + 1) cap') hg' (by rw [El.rdc_snoc, List.length_append]; exact ho'))
                      clear ho' hg' H12
                      refine hK.out _ _ trivial (fun _ => ?_)
                      clear hK K
                      try simp only [Act.put, List.setIfInBounds_toArray, List.set_cons_zero, List.set_cons_succ]
                      refine tk 9 (oi := ⟨some 81, _, _, _, _, none⟩) rfl ?_
                      try go_frame
                      have z7 := (row8 H13.out.2).2.2.2.2.2.2.2
                      have f7 := H13.out.2.thaw 7
                      refine wpAnyH_ready (rs := [10]) (by kernel_rfl) (by simp) ?_
                      refine AllReadyH.cons (o := ⟨none, _, _, _, _, none⟩) rfl (fun K hK => ?_) AllReadyH.nil
                      go_simp
                      refine hK.out _ _ trivial (fun _ => ?_)
                      clear hK K z7 f7
                      try simp only [Act.put, List.setIfInBounds_toArray, List.set_cons_zero, List.set_cons_succ]
                      refine wpAnyH_done (by kernel_rfl) ?_ _
                      have H14 := Lib.hid H13.out.1
                      have HL4 := Lib.hid (HL.out.snoc HVl.out)
                      clear H13 hLl hbs
                      generalize X5.setCell ⟨gt, 7, none⟩ (.slice A' (L.length + 1) cap') = X6 at *
                      go_wp2_with fail
                      go_roundw
                      case rel => exact ⟨c + 1, _, _, by omega, by omega, by go_num, H14, HL4⟩
                      case measure => simp [intOf]; omega
                    · skip
                      have b12 := (Below.refl X2.heap.size X2).alloc (Nat.le_refl _) (.cells #[.int .i64 (c : Int), .int .i64 xv] 81)
                      have H12 : Hid (Si W b w gv gt lo m R u7 nm t u L (X2.alloc (.cells #[.int .i64 (c : Int), .int .i64 xv] 81)) ∧ Row (X2.alloc (.cells #[.int .i64 (c : Int), .int .i64 xv] 81)) X2.heap.size 81 #[.int .i64 (c : Int), .int .i64 xv]) := Lib.hid ⟨H11.out.under b12, Row.new _ _ _⟩
                      clear b12 H11

                      go_simp
                      refine hK.out _ _ trivial (fun _ => ?_)
                      clear hK K
                      try simp only [Act.put, List.setIfInBounds_toArray, List.set_cons_zero, List.set_cons_succ]
                      obtain ⟨g6, hg6⟩ : ∃ g, X2.heap.size = g := ⟨_, rfl⟩
                      rw [hg6] at H12 ⊢
                      clear hg6
                      generalize X2.alloc (.cells #[.int .i64 (c : Int), .int .i64 xv] 81) = X3 at *
                      refine wpAnyH_ready (rs := [1]) (by kernel_rfl) (by simp) ?_
                      refine AllReadyH.cons (o := ⟨some 73, _, _, _, _, none⟩) rfl (fun K hK => ?_) AllReadyH.nil

                      have z7 := (row8 H12.out.1.rb).2.2.2.2.2.2.2
                      go_simp
                      refine hK.out _ _ trivial (fun _ => ?_)
                      clear hK K z7
                      try simp only [Act.put, List.setIfInBounds_toArray, List.set_cons_zero, List.set_cons_succ]

                      have hLl := HL.out.len
                      have hbs := H12.out.1.rb.lt
                      refine wpAnyH_ready (rs := [8]) (by kernel_rfl) (by simp) ?_
                      refine AllReadyH.cons (o := ⟨some 80, _, _, _, _, none⟩) rfl (fun K hK => ?_) AllReadyH.nil
                      refine El.step_append_own rfl (.tmp 73) (.tmp 79) 36 rfl gt 81 i1 (.agg #[.int .i64 0, .int .i64 0]) 2 16 Tryd.underlying36 hj hr0 hr1 hr2 rfl (by decide) u L.length (El.rdc L) rfl H12.out.1.rd ⟨g6, 0, none⟩ 1 1 [.int .i64 (c : Int), .int .i64 xv] rfl rfl (fun q z hz => by rw [Addr.add_lit, Nat.zero_add, H12.out.2.cell, ← hz]; simp) (fun z hz => by simp at hz; rcases hz with rfl | rfl <;> rfl) (by unfold maxLen; omega) (by omega) (Nat.le_of_lt hbs) ?_
                      intro v' X5 ho' hg'
                      obtain ⟨A', cap', ev⟩ := row_form ho'
                      subst ev
                      have H13 := Lib.hid (H12.out.1.app (L' := L ++ [((c : Int), xv)]) (u' := .slice A' (L.length + 1) cap') hg' (by rw [El.rdc_snoc, List.length_append]; exact ho'))
                      clear ho' hg' H12
                      refine hK.out _ _ trivial (fun _ => ?_)
                      clear hK K
                      try simp only [Act.put, List.setIfInBounds_toArray, List.set_cons_zero, List.set_cons_succ]
                      refine tk 9 (oi := ⟨some 81, _, _, _, _, none⟩) rfl ?_
                      try go_frame
                      have z7 := (row8 H13.out.2).2.2.2.2.2.2.2
                      have f7 := H13.out.2.thaw 7
                      refine wpAnyH_ready (rs := [10]) (by kernel_rfl) (by simp) ?_
                      refine AllReadyH.cons (o := ⟨none, _, _, _, _, none⟩) rfl (fun K hK => ?_) AllReadyH.nil
                      go_simp
                      refine hK.out _ _ trivial (fun _ => ?_)
                      clear hK K z7 f7
                      try simp only [Act.put, List.setIfInBounds_toArray, List.set_cons_zero, List.set_cons_succ]
                      refine wpAnyH_done (by kernel_rfl) ?_ _
                      have H14 := Lib.hid H13.out.1
                      have HL4 := Lib.hid (HL.out.snoc HVl.out)
                      clear H13 hLl hbs
                      generalize X5.setCell ⟨gt, 7, none⟩ (.slice A' (L.length + 1) cap') = X6 at *
                      go_wp2_with fail
                      go_roundw
                      case rel => exact ⟨c + 1, _, _, by omega, by omega, by go_num, H14, HL4⟩
                      case measure => simp [intOf]; omega
                · have ky2 : (y == 2) = false := beq_eq_false_iff_ne.2 hy2
                  clear y1 y2 hy0 hy1 hy2
                  go_upto_region 23 with fail
                  have HD := Lib.hid (show ∀ W : World, Below W.heap.size W W.drew from fun _ => ⟨rfl, rfl, rfl, Nat.le_refl _, fun _ _ => rfl⟩)
                  have H10 := Lib.hid (H7.out.under (HD.out (w7)))
                  clear H7
                  refine wp_region_held_drew (S := fun _ : World => True) (by kernel_rfl) trivial (fun hHeld => ?_)
                  generalize (w7).drew = X at *
                  refine tk 0 (oi := ⟨some 72, _, _, _, _, none⟩) rfl ?_
                  try go_frame
                  refine tk 2 (oi := ⟨some 74, _, _, _, _, none⟩) rfl ?_
                  try go_frame
                  refine tk 3 (oi := ⟨some 75, _, _, _, _, none⟩) rfl ?_
                  try go_frame
                  refine tk 4 (oi := ⟨some 76, _, _, _, _, none⟩) rfl ?_
                  try go_frame
                  refine wpAnyH_ready (rs := [1, 5]) (by kernel_rfl) (by simp) ?_
                  refine AllReadyH.cons (o := ⟨some 73, _, _, _, _, none⟩) rfl (fun K hK => ?_) (AllReadyH.cons (o := ⟨some 77, _, _, _, _, none⟩) rfl (fun K hK => ?_) AllReadyH.nil)
                  · have z7 := (row8 H10.out.rb).2.2.2.2.2.2.2
                    go_simp
                    refine hK.out _ _ trivial (fun _ => ?_)
                    clear hK K z7
                    try simp only [Act.put, List.setIfInBounds_toArray, List.set_cons_zero, List.set_cons_succ]
                    refine wpAnyH_ready (rs := [5]) (by kernel_rfl) (by simp) ?_
                    refine AllReadyH.cons (o := ⟨some 77, _, _, _, _, none⟩) rfl (fun K hK => ?_) AllReadyH.nil
                    go_simp
                    refine (clamp_any c _ _ hc1 hlt).mono ?_
                    rintro e X2 ⟨xv, rfl, hval, g2⟩
                    have HVl := Lib.hid hval
                    go_wp2_with fail
                    have H11 := Lib.hid (H10.out.under g2)
                    clear g2 H10 hval hHeld
                    refine hK.out _ _ trivial (fun _ => ?_)
                    clear hK K
                    try simp only [Act.put, List.setIfInBounds_toArray, List.set_cons_zero, List.set_cons_succ]
                    refine tk 6 (oi := ⟨some 78, _, _, _, _, none⟩) rfl ?_
                    try go_frame
                    have b12 := (Below.refl X2.heap.size X2).alloc (Nat.le_refl _) (.cells #[.int .i64 (c : Int), .int .i64 xv] 81)
                    have H12 : Hid (Si W b w gv gt lo m R u7 nm t u L (X2.alloc (.cells #[.int .i64 (c : Int), .int .i64 xv] 81)) ∧ Row (X2.alloc (.cells #[.int .i64 (c : Int), .int .i64 xv] 81)) X2.heap.size 81 #[.int .i64 (c : Int), .int .i64 xv]) := Lib.hid ⟨H11.out.under b12, Row.new _ _ _⟩
                    clear b12 H11
                    refine wpAnyH_ready (rs := [7]) (by kernel_rfl) (by simp) ?_
                    refine AllReadyH.cons (o := ⟨some 79, _, _, _, _, none⟩) rfl (fun K hK => ?_) AllReadyH.nil
                    go_simp
                    refine hK.out _ _ trivial (fun _ => ?_)
                    clear hK K
                    try simp only [Act.put, List.setIfInBounds_toArray, List.set_cons_zero, List.set_cons_succ]
                    obtain ⟨g6, hg6⟩ : ∃ g, X2.heap.size = g := ⟨_, rfl⟩
                    rw [hg6] at H12 ⊢
                    clear hg6
                    generalize X2.alloc (.cells #[.int .i64 (c : Int), .int .i64 xv] 81) = X3 at *

                    have hLl := HL.out.len
                    have hbs := H12.out.1.rb.lt
                    refine wpAnyH_ready (rs := [8]) (by kernel_rfl) (by simp) ?_
                    refine AllReadyH.cons (o := ⟨some 80, _, _, _, _, none⟩) rfl (fun K hK => ?_) AllReadyH.nil
                    refine El.step_append_own rfl (.tmp 73) (.tmp 79) 36 rfl gt 81 i1 (.agg #[.int .i64 0, .int .i64 0]) 2 16 Tryd.underlying36 hj hr0 hr1 hr2 rfl (by decide) u L.length (El.rdc L) rfl H12.out.1.rd ⟨g6, 0, none⟩ 1 1 [.int .i64 (c : Int), .int .i64 xv] rfl rfl (fun q z hz => by rw [Addr.add_lit, Nat.zero_add, H12.out.2.cell, ← hz]; simp) (fun z hz => by simp at hz; rcases hz with rfl | rfl <;> rfl) (by unfold maxLen; omega) (by omega) (Nat.le_of_lt hbs) ?_
                    intro v' X5 ho' hg'
                    obtain ⟨A', cap', ev⟩ := row_form ho'
                    subst ev
                    have H13 := Lib.hid (H12.out.1.app (L' := L ++ [((c : Int), xv)]) (u' := .slice A' (L.length + 1) cap') hg' (by rw [El.rdc_snoc, List.length_append]; exact ho'))
                    clear ho' hg' H12
                    refine hK.out _ _ trivial (fun _ => ?_)
                    clear hK K
                    try simp only [Act.put, List.setIfInBounds_toArray, List.set_cons_zero, List.set_cons_succ]
                    refine tk 9 (oi := ⟨some 81, _, _, _, _, none⟩) rfl ?_
                    try go_frame
                    have z7 := (row8 H13.out.2).2.2.2.2.2.2.2
                    have f7 := H13.out.2.thaw 7
                    refine wpAnyH_ready (rs := [10]) (by kernel_rfl) (by simp) ?_
                    refine AllReadyH.cons (o := ⟨none, _, _, _, _, none⟩) rfl (fun K hK => ?_) AllReadyH.nil
                    go_simp
                    refine hK.out _ _ trivial (fun _ => ?_)
                    clear hK K z7 f7
                    try simp only [Act.put, List.setIfInBounds_toArray, List.set_cons_zero, List.set_cons_succ]
                    refine wpAnyH_done (by kernel_rfl) ?_ _
                    have H14 := Lib.hid H13.out.1
                    have HL4 := Lib.hid (HL.out.snoc HVl.out)
                    clear H13 hLl hbs
                    generalize X5.setCell ⟨gt, 7, none⟩ (.slice A' (L.length + 1) cap') = X6 at *
                    go_wp2_with fail
                    go_roundw
                    case rel => exact ⟨c + 1, _, _, by omega, by omega, by go_num, H14, HL4⟩
                    case measure => simp [intOf]; omega

                  · go_simp
                    refine (clamp_any c _ _ hc1 hlt).mono ?_
                    rintro e X2 ⟨xv, rfl, hval, g2⟩
                    have HVl := Lib.hid hval
                    go_wp2_with fail
                    have H11 := Lib.hid (H10.out.under g2)
                    clear g2 H10 hval hHeld
                    refine hK.out _ _ trivial (fun _ => ?_)
                    clear hK K
                    try simp only [Act.put, List.setIfInBounds_toArray, List.set_cons_zero, List.set_cons_succ]
                    refine tk 6 (oi := ⟨some 78, _, _, _, _, none⟩) rfl ?_
                    try go_frame
                    refine wpAnyH_ready (rs := [1, 7]) (by kernel_rfl) (by simp) ?_
                    refine AllReadyH.cons (o := ⟨some 73, _, _, _, _, none⟩) rfl (fun K hK => ?_) (AllReadyH.cons (o := ⟨some 79, _, _, _, _, none⟩) rfl (fun K hK => ?_) AllReadyH.nil)
                    · skip
                      have z7 := (row8 H11.out.rb).2.2.2.2.2.2.2
                      go_simp
                      refine hK.out _ _ trivial (fun _ => ?_)
                      clear hK K z7
                      try simp only [Act.put, List.setIfInBounds_toArray, List.set_cons_zero, List.set_cons_succ]

                      have b12 := (Below.refl X2.heap.size X2).alloc (Nat.le_refl _) (.cells #[.int .i64 (c : Int), .int .i64 xv] 81)
                      have H12 : Hid (Si W b w gv gt lo m R u7 nm t u L (X2.alloc (.cells #[.int .i64 (c : Int), .int .i64 xv] 81)) ∧ Row (X2.alloc (.cells #[.int .i64 (c : Int), .int .i64 xv] 81)) X2.heap.size 81 #[.int .i64 (c : Int), .int .i64 xv]) := Lib.hid ⟨H11.out.under b12, Row.new _ _ _⟩
                      clear b12 H11
                      refine wpAnyH_ready (rs := [7]) (by kernel_rfl) (by simp) ?_
                      refine AllReadyH.cons (o := ⟨some 79, _, _, _, _, none⟩) rfl (fun K hK => ?_) AllReadyH.nil
                      go_simp
                      refine hK.out _ _ trivial (fun _ => ?_)
                      clear hK K
                      try simp only [Act.put, List.setIfInBounds_toArray, List.set_cons_zero, List.set_cons_succ]
                      obtain ⟨g6, hg6⟩ : ∃ g, X2.heap.size = g := ⟨_, rfl⟩
                      rw [hg6] at H12 ⊢
                      clear hg6
                      generalize X2.alloc (.cells #[.int .i64 (c : Int), .int .i64 xv] 81) = X3 at *

                      have hLl := HL.out.len
                      have hbs := H12.out.1.rb.lt
                      refine wpAnyH_ready (rs := [8]) (by kernel_rfl) (by simp) ?_
                      refine AllReadyH.cons (o := ⟨some 80, _, _, _, _, none⟩) rfl (fun K hK => ?_) AllReadyH.nil
                      refine El.step_append_own rfl (.tmp 73) (.tmp 79) 36 rfl gt 81 i1 (.agg #[.int .i64 0, .int .i64 0]) 2 16 Tryd.underlying36 hj hr0 hr1 hr2 rfl (by decide) u L.length (El.rdc L) rfl H12.out.1.rd ⟨g6, 0, none⟩ 1 1 [.int .i64 (c : Int), .int .i64 xv] rfl rfl (fun q z hz => by rw [Addr.add_lit, Nat.zero_add, H12.out.2.cell, ← hz]; simp) (fun z hz => by simp at hz; rcases hz with rfl | rfl <;> rfl) (by unfold maxLen; omega) (by omega) (Nat.le_of_lt hbs) ?_
                      intro v' X5 ho' hg'
                      obtain ⟨A', cap', ev⟩ := row_form ho'
                      subst ev
                      have H13 := Lib.hid (H12.out.1.app (L' := L ++ [((c : Int), xv)]) (u' := .slice A' (L.length + 1) cap') hg' (by rw [El.rdc_snoc, List.length_append]; exact ho'))
                      clear ho' hg' H12
                      refine hK.out _ _ trivial (fun _ => ?_)
                      clear hK K
                      try simp only [Act.put, List.setIfInBounds_toArray, List.set_cons_zero, List.set_cons_succ]
                      refine tk 9 (oi := ⟨some 81, _, _, _, _, none⟩) rfl ?_
                      try go_frame
                      have z7 := (row8 H13.out.2).2.2.2.2.2.2.2
                      have f7 := H13.out.2.thaw 7
                      refine wpAnyH_ready (rs := [10]) (by kernel_rfl) (by simp) ?_
                      refine AllReadyH.cons (o := ⟨none, _, _, _, _, none⟩) rfl (fun K hK => ?_) AllReadyH.nil
                      go_simp
                      refine hK.out _ _ trivial (fun _ => ?_)
                      clear hK K z7 f7
                      try simp only [Act.put, List.setIfInBounds_toArray, List.set_cons_zero, List.set_cons_succ]
                      refine wpAnyH_done (by kernel_rfl) ?_ _
                      have H14 := Lib.hid H13.out.1
                      have HL4 := Lib.hid (HL.out.snoc HVl.out)
                      clear H13 hLl hbs
                      generalize X5.setCell ⟨gt, 7, none⟩ (.slice A' (L.length + 1) cap') = X6 at *
                      go_wp2_with fail
                      go_roundw
                      case rel => exact ⟨c + 1, _, _, by omega, by omega, by go_num, H14, HL4⟩
                      case measure => simp [intOf]; omega
                    · skip
                      have b12 := (Below.refl X2.heap.size X2).alloc (Nat.le_refl _) (.cells #[.int .i64 (c : Int), .int .i64 xv] 81)
                      have H12 : Hid (Si W b w gv gt lo m R u7 nm t u L (X2.alloc (.cells #[.int .i64 (c : Int), .int .i64 xv] 81)) ∧ Row (X2.alloc (.cells #[.int .i64 (c : Int), .int .i64 xv] 81)) X2.heap.size 81 #[.int .i64 (c : Int), .int .i64 xv]) := Lib.hid ⟨H11.out.under b12, Row.new _ _ _⟩
                      clear b12 H11

                      go_simp
                      refine hK.out _ _ trivial (fun _ => ?_)
                      clear hK K
                      try simp only [Act.put, List.setIfInBounds_toArray, List.set_cons_zero, List.set_cons_succ]
                      obtain ⟨g6, hg6⟩ : ∃ g, X2.heap.size = g := ⟨_, rfl⟩
                      rw [hg6] at H12 ⊢
                      clear hg6
                      generalize X2.alloc (.cells #[.int .i64 (c : Int), .int .i64 xv] 81) = X3 at *
                      refine wpAnyH_ready (rs := [1]) (by kernel_rfl) (by simp) ?_
                      refine AllReadyH.cons (o := ⟨some 73, _, _, _, _, none⟩) rfl (fun K hK => ?_) AllReadyH.nil

                      have z7 := (row8 H12.out.1.rb).2.2.2.2.2.2.2
                      go_simp
                      refine hK.out _ _ trivial (fun _ => ?_)
                      clear hK K z7
                      try simp only [Act.put, List.setIfInBounds_toArray, List.set_cons_zero, List.set_cons_succ]

                      have hLl := HL.out.len
                      have hbs := H12.out.1.rb.lt
                      refine wpAnyH_ready (rs := [8]) (by kernel_rfl) (by simp) ?_
                      refine AllReadyH.cons (o := ⟨some 80, _, _, _, _, none⟩) rfl (fun K hK => ?_) AllReadyH.nil
                      refine El.step_append_own rfl (.tmp 73) (.tmp 79) 36 rfl gt 81 i1 (.agg #[.int .i64 0, .int .i64 0]) 2 16 Tryd.underlying36 hj hr0 hr1 hr2 rfl (by decide) u L.length (El.rdc L) rfl H12.out.1.rd ⟨g6, 0, none⟩ 1 1 [.int .i64 (c : Int), .int .i64 xv] rfl rfl (fun q z hz => by rw [Addr.add_lit, Nat.zero_add, H12.out.2.cell, ← hz]; simp) (fun z hz => by simp at hz; rcases hz with rfl | rfl <;> rfl) (by unfold maxLen; omega) (by omega) (Nat.le_of_lt hbs) ?_
                      intro v' X5 ho' hg'
                      obtain ⟨A', cap', ev⟩ := row_form ho'
                      subst ev
                      have H13 := Lib.hid (H12.out.1.app (L' := L ++ [((c : Int), xv)]) (u' := .slice A' (L.length + 1) cap') hg' (by rw [El.rdc_snoc, List.length_append]; exact ho'))
                      clear ho' hg' H12
                      refine hK.out _ _ trivial (fun _ => ?_)
                      clear hK K
                      try simp only [Act.put, List.setIfInBounds_toArray, List.set_cons_zero, List.set_cons_succ]
                      refine tk 9 (oi := ⟨some 81, _, _, _, _, none⟩) rfl ?_
                      try go_frame
                      have z7 := (row8 H13.out.2).2.2.2.2.2.2.2
                      have f7 := H13.out.2.thaw 7
                      refine wpAnyH_ready (rs := [10]) (by kernel_rfl) (by simp) ?_
                      refine AllReadyH.cons (o := ⟨none, _, _, _, _, none⟩) rfl (fun K hK => ?_) AllReadyH.nil
                      go_simp
                      refine hK.out _ _ trivial (fun _ => ?_)
                      clear hK K z7 f7
                      try simp only [Act.put, List.setIfInBounds_toArray, List.set_cons_zero, List.set_cons_succ]
                      refine wpAnyH_done (by kernel_rfl) ?_ _
                      have H14 := Lib.hid H13.out.1
                      have HL4 := Lib.hid (HL.out.snoc HVl.out)
                      clear H13 hLl hbs
                      generalize X5.setCell ⟨gt, 7, none⟩ (.slice A' (L.length + 1) cap') = X6 at *
                      go_wp2_with fail
                      go_roundw
                      case rel => exact ⟨c + 1, _, _, by omega, by omega, by go_num, H14, HL4⟩
                      case measure => simp [intOf]; omega
        · obtain rfl : c = 12 := by omega
          have c0 : ¬ ((12 : Nat) : Int) ≤ 11 := by omega
          have HVd := Lib.hid (vld_of (fun x hx => (HL.out.val x hx).1) HL.out.asc)
          have HNe := Lib.hid H5.out.no
          obtain ⟨Au, cu, hu⟩ := row_form H5.out.rd
          subst hu
          obtain ⟨q0, q1, q2, q3, q4, q5, q6, q7⟩ := row8 H5.out.rb
          have b9 := (Below.refl wr.heap.size wr).alloc (Nat.le_refl _) (.cells (repC 1 nm t 0 0 0 0 (.slice Au L.length cu)) 38)
          have HC8 := Lib.hid (eight_at (r := (⟨1, nm, t, 0, 0, 0, 0, .slice Au L.length cu, L⟩ : Rp)) (Row.new wr (repC 1 nm t 0 0 0 0 (.slice Au L.length cu)) 38))
          have H6 := Lib.hid (H5.out.sr.under b9)
          have HRd := Lib.hid (own_base (El.own_under H5.out.rd b9) H5.out.ht)
          have hsz := H6.out.gro.size
          have HSer := Lib.hid (H6.out.ser.snoc (r := (⟨1, nm, t, 0, 0, 0, 0, .slice Au L.length cu, L⟩ : Rp)) ⟨rfl, HNm.out, ⟨rfl, rfl, rfl, rfl⟩, HVd.out⟩ (m' := t) rfl hts.1 hlm)
          have hRl : R.length ≤ 50 := by omega
          clear b9 H5
          go_wp2_with (at_builtin; go_loud (refine wpList_append_own' rfl (.tmp 82) (.tmp 84) 25 rfl w.heap.size 38 i0 (repV 0 ⟨#[]⟩ 0 0 0 0 0 (.slice none 0 0)) 8 88 Tryd.underlying25 hi hz0 hz1 hz2 rfl (by decide) u7 R.length (rpc R) rfl H6.out.own ⟨wr.heap.size, 0, none⟩ 1 1 (rpCells (⟨1, nm, t, 0, 0, 0, 0, .slice Au L.length cu, L⟩ : Rp)) rfl rfl HC8.out (fun z hz => by simp only [rpCells, List.mem_cons, List.not_mem_nil, or_false] at hz; rcases hz with rfl | rfl | rfl | rfl | rfl | rfl | rfl | rfl <;> rfl) (by unfold maxLen; omega) (by omega) hsz ?_); intro v9 w9 ho9 hg9; have HW9 := Lib.hid (And.intro ho9 hg9); clear ho9 hg9)
          have H9 := Lib.hid (H6.out.app HRd.out HSer.out HW9.out.1 HW9.out.2)
          clear HW9 H6 HC8 HRd HSer
          exact ⟨⟨R ++ [⟨1, nm, t, 0, 0, 0, 0, .slice Au L.length cu, L⟩], t, j - 1, by go_num, rfl, by rw [List.length_append]; simp; omega, by rw [List.length_append]; simp; omega, by omega, H9⟩, by simp [intOf]; omega⟩
    · obtain rfl : j = 0 := by omega
      have k0 : ¬ (0 : Int) < ((0 : Nat) : Int) := by omega
      have HF : Hid (SrO W b w n lo (.returned u7) wr) := Lib.hid ⟨R, u7, m, gv, rfl, by omega, by omega, HR.out⟩
      clear HR
      go_wp2_with fail
      go_ret
      exact HF.out
end Go.Proofs.YtlakgkoohdfiaaaDoor.Tm
