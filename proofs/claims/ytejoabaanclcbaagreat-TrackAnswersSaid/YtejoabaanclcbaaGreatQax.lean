/- Texts of this proof. -/
import Derived.Test.YtejoabaanclcbaaGreatQaw
import Derived.Maps.AppendAt
import Derived.Test.YtejoabaanclcbaaGreatQam
import Derived.Test.YtejoabaanclcbaaGreatLks
import Derived.Shelf.SortM.SortNone
namespace Go.Proofs.YtejoabaanclcbaaGreat.Tk
open Go.RowKit Go.Maps

/-- MAP UPDATE AS ONE STEP OF A DRAWN REGION. -/
theorem step_update {ops : Array Oper} {o : Oper} {a : Act} {w : World} {K : Act → World → Prop} {Q : Exit → Act → World → Prop} {E : Prop} (hgd : o.guard = none) (m x v : Operand) (t : TypeId) (ho : o.op = .mapUpdate t m x v)
    {e : TypeId} (ht : Tryz.prog.underlying t = some (.map 9 e)) {b n : Nat} {f : ByteArray → Option Value} (hm : a.eval m = .map (some b)) (hown : Mn w b n f) (hn : n < maxLen) (key : ByteArray) (hx : a.eval x = .string key) (hk : key.size ≤ maxLen) (val : Value) (hv : a.eval v = val)
    (h : ∀ w', Mn w' b (n + 1) (fun k => if k = key then some val else f k) → w.grownBy w' (some b) → K (a.put o.dst undef) w') :
    if Region.wanted o (yielded ops a.tmps) = true then Oper.wp Tryz.prog o a w K Q else E := by
  have hw : Region.wanted o (yielded ops a.tmps) = true := by simp [Region.wanted, hgd]
  rw [if_pos hw]
  obtain ⟨w', hr, h1, h2⟩ := hown.update ht hn hk val
  unfold Oper.wp execOp
  simp only [ho, Sem.run_bind, Result.andThen_ok, hm, hx, hv, hr, Sem.run_pure]
  exact h w' h1 h2
/-- APPEND TO AN OWNED ROW AS ONE STEP OF A DRAWN REGION, with where the new row lies. -/
theorem step_append_at {P : Program} {ops : Array Oper} {o : Oper} {a : Act} {w : World} {K : Act → World → Prop} {Q : Exit → Act → World → Prop} {E : Prop} (hgd : o.guard = none) (s x : Operand) (t : TypeId)
    (ho : o.op = .call { callee := .builtin .append, args := #[s, x], argTypes := #[t, t] })
    (base : Nat) (e : TypeId) (i : TypeInfo) (z : Value) (size bytes : Nat) (ht : P.underlying t = some (.slice e)) (hi : P.info? e = some i) (hz : i.zero = some z)
    (hsize : i.size = size) (hby : i.bytes = bytes) (hzs : z.cells.size = size) (hsz : 0 < size)
    (v : Value) (n : Nat) (xs : List Value) (hs : a.eval s = v) (hown : w.ownsRow base e size v n xs)
    (ad : Addr) (m c : Nat) (news : List Value) (hx : a.eval x = .slice (some ad) m c) (hl : news.length = m * size) (hnews : ∀ j u, news[j]? = some u → w.cell? (ad.add j) = some u) (h1 : ∀ u ∈ news, u.oneCell' = true)
    (h63 : n + m ≤ maxLen) (hbytes : (n + m) * bytes ≤ 140737488355328) (hbase : base ≤ w.heap.size)
    (h : ∀ v' w', w'.ownsRow base e size v' (n + m) (xs ++ news) → w.grownBy w' v.ownBlock → (v'.ownBlock = v.ownBlock ∨ v'.ownBlock = some w.heap.size) → K (a.put o.dst v') w') :
    if Region.wanted o (yielded ops a.tmps) = true then Oper.wp P o a w K Q else E := by
  have hw : Region.wanted o (yielded ops a.tmps) = true := by simp [Region.wanted, hgd]
  rw [if_pos hw]
  obtain ⟨v', w', hr, h2, h3, -, h5⟩ := run_append_own_at (P := P) w base t o.type e i z size bytes ht hi hz hsize hby hzs hsz v n xs hown ad m c news hl hnews h1 h63 hbytes hbase
  unfold Oper.wp execOp
  simp only [ho, resolve, invoke, builtin, Sem.run_bind, Sem.run_pure, Result.andThen_ok, List.map_toArray, List.map_cons, List.map_nil, hs, hx, hr]
  exact h v' w' h2 h3 h5
theorem gp_take {L : List Sg} {i : Nat} (h : i < L.length) : L.take (i + 1) = L.take i ++ [L[i]] := List.take_succ_eq_append_getElem h
/-- What byName leaves. -/
def ByO (W : World) (v : Value) (L : List Sg) (e : Ending) (w : World) : Prop :=
  ∃ W1 L' b f, W.grownBy W1 v.ownBlock ∧ L'.Perm L ∧ L'.Pairwise (fun x y => x.t ≤ y.t) ∧ e = .returned (.map (some b)) ∧ Gp W1 L' b f w
set_option maxRecDepth 100000 in
set_option maxHeartbeats 8000000 in
theorem byName_any (base : Nat) (v : Value) (L : List Sg) (w : World) (hl : L.length ≤ 12) (ho : w.ownsRow base 74 4 v L.length (sgc L)) (hn : ∀ x ∈ L, x.nm.size ≤ maxLen) :
    Calls Tryz.prog 40 #[v] w (ByO w v L) := by
  obtain ⟨i0, hi, hz0, hz1, hz2⟩ := info_parts infoSight
  obtain ⟨A, cap, rfl⟩ := own_form ho
  have HO := Lib.hid ho; clear ho
  have HNM := Lib.hid hn; clear hn
  have hmm := @run_makeMap Tryz.prog
  go_enter Tryz.func40, Tryz.ntmps40
  go_wp2_with fail
  refine (sortG_any base _ L w hl HO.out).mono ?_
  rintro e w1 ⟨rfl, hgr, L', hperm, hpw, hown⟩
  have HG := Lib.hid hgr
  have HP := Lib.hid hperm
  have HW := Lib.hid hpw
  have hlen := hperm.length_eq
  have hl' : L'.length ≤ 12 := by omega
  have HSG := Lib.hid (show SgIn w1 (.slice A L'.length cap) L' from by have h9 := SgIn.own hown; rwa [← hlen] at h9)
  have HNM2 := Lib.hid (show ∀ x ∈ L', x.nm.size ≤ maxLen from fun x hx => HNM.out x (HP.out.mem_iff.1 hx))
  have HZ : Hid (ByO w (.slice A L.length cap) L = ByO w (.slice A L'.length cap) L) := Lib.hid (by rw [hlen])
  clear hgr hperm hpw hown HNM HO
  rw [← hlen] at HG ⊢
  clear hlen hl
  go_wp2_with fail
  go_loopw [11] (fun t wr => ∃ i : Nat, ∃ f, i ≤ L'.length ∧ t = .int .i64 (i : Int) ∧ Hid (Gp w1 (L'.take i) w1.heap.size f wr)) (fun t _ => L'.length - (intOf t).toNat)
  case atStart => exact ⟨0, _, by omega, rfl, Lib.hid (Gp.made w1)⟩
  case round =>
    obtain ⟨i, f, hi', rfl, HQ⟩ := hrel
    by_cases hlt : i < L'.length
    · obtain ⟨A', c', e1, m1, m2, hat⟩ := HSG.out
      obtain ⟨rfl, rfl⟩ : A = A' ∧ cap = c' := by injection e1 with x1 x2 x3; exact ⟨x1, x3⟩
      obtain ⟨g, rfl, hg, h4⟩ := hat i hlt
      replace h4 := h4.under hg HQ.out.below
      clear e1 hat
      have HX := Lib.hid (gp_take hlt)
      have HNX := Lib.hid (HNM2.out _ (List.getElem_mem hlt))
      generalize hxx : L'[i] = x at *
      clear hxx
      obtain ⟨xn, xt, xd, xi⟩ := x
      obtain ⟨q0, q1, q2, q3⟩ := h4
      simp only at q0 q1 q2 q3
      have k0 : (i : Int) < (L'.length : Int) := by omega
      have k1 : (0 : Int) ≤ (i : Int) := by omega
      go_upto_region 6 with fail
      obtain ⟨u, hu⟩ : ∃ u, (f xn).getD (.slice none 0 0) = u := ⟨_, rfl⟩
      have HUB := Lib.hid (show ∀ j, u.ownBlock = some j → j < wr.heap.size from fun j hj => (own_lt (HQ.out.at xn) (by rw [hu]; exact hj)).2)
      have HU := Lib.hid hu; clear hu
      refine forget (fun Y => Gp w1 (L'.take i) w1.heap.size f Y ∧ Row Y wr.heap.size 74 #[.string xn, .int .i64 xt, .int .i64 (xd : Nat), .int .i64 (xi : Nat)]) ⟨HQ.out.under ((Below.refl _ _).alloc (Nat.le_refl _) _), Row.new _ _ _⟩ ?_
      obtain ⟨gx, hgx⟩ : ∃ gx, wr.heap.size = gx := ⟨_, rfl⟩
      rintro Y ⟨hq, rx⟩
      rw [hgx] at rx HUB
      rw [hgx]
      have HY := Lib.hid hq
      have HX2 := Lib.hid rx
      clear hq rx q0 q1 q2 q3 HQ hgx
      have HS := Lib.hid (show ∀ Z, Row Z gx 74 #[.string xn, .int .i64 xt, .int .i64 (xd : Nat), .int .i64 (xi : Nat)] → Z.cell? ⟨gx, 0, none⟩ = some (.string xn) ∧ Z.cell? ⟨gx, 1, none⟩ = some (.int .i64 xt) ∧ Z.cell? ⟨gx, 2, none⟩ = some (.int .i64 (xd : Nat)) ∧ Z.cell? ⟨gx, 3, none⟩ = some (.int .i64 (xi : Nat)) from fun Z hr => ⟨(hr.cell 0).trans rfl, (hr.cell 1).trans rfl, (hr.cell 2).trans rfl, (hr.cell 3).trans rfl⟩)
      have HLK := Lib.hid (show ∀ Z, Gp w1 (L'.take i) w1.heap.size f Z → (Instr.lookup 70 (.map (some w1.heap.size)) (.string xn) false).run Tryz.prog Z = .ok u Z from fun Z hZ => by rw [hZ.map.look Tryz.underlying70 (z := .slice none 0 0) (Tryz.zeroValue63 Z) HNX.out, HU.out])
      have HD := Lib.hid (show ∀ W : World, Below W.heap.size W W.drew from fun _ => ⟨rfl, rfl, rfl, Nat.le_refl _, fun _ _ => rfl⟩)
      refine wp_region_held_drew (S := fun Z : World => Z.cell? ⟨gx, 0, none⟩ = some (.string xn) ∧ Z.cell? ⟨gx, 1, none⟩ = some (.int .i64 xt) ∧ Z.cell? ⟨gx, 2, none⟩ = some (.int .i64 (xd : Nat)) ∧ Z.cell? ⟨gx, 3, none⟩ = some (.int .i64 (xi : Nat))) (by kernel_rfl) (HS.out _ (HX2.out.under (HD.out _))) (fun hHeld => ?_)
      refine tk 0 (oi := ⟨some 15, _, _, _, _, none⟩) rfl ?_
      try go_frame
      refine tk 1 (oi := ⟨some 16, _, _, _, _, none⟩) rfl ?_
      try go_frame
      refine tk 2 (oi := ⟨some 17, _, _, _, _, none⟩) rfl ?_
      try go_frame
      refine tk 3 (oi := ⟨some 18, _, _, _, _, none⟩) rfl ?_
      try go_frame
      refine tk 4 (oi := ⟨some 19, _, _, _, _, none⟩) rfl ?_
      try go_frame
      refine tk 5 (oi := ⟨some 20, _, _, _, _, none⟩) rfl ?_
      try go_frame
      refine tk 7 (oi := ⟨some 22, _, _, _, _, none⟩) rfl ?_
      try go_frame
      have HY1 := Lib.hid (HY.out.under (HD.out _))
      have HX1 := Lib.hid (HX2.out.under (HD.out _))
      clear HY HX2
      refine genH (fun X => Gp w1 (L'.take i) w1.heap.size f X ∧ Row X gx 74 #[.string xn, .int .i64 xt, .int .i64 (xd : Nat), .int .i64 (xi : Nat)]) ⟨HY1.out, HX1.out⟩ ?_
      clear HY1 HX1 hHeld
      rintro X ⟨hG, hR⟩
      have HG1 := Lib.hid hG
      have HR1 := Lib.hid hR
      clear hG hR
      refine wpAnyH_ready (rs := [6, 8]) (by kernel_rfl) (by simp) ?_
      refine AllReadyH.cons (o := ⟨some 21, _, _, _, _, none⟩) rfl (fun K hK => ?_) (AllReadyH.cons (o := ⟨some 23, _, _, _, _, none⟩) rfl (fun K hK => ?_) AllReadyH.nil)
      · have hlk := HLK.out _ HG1.out
        go_simp
        refine hK.out _ _ (HS.out _ HR1.out) (fun _ => ?_)
        clear hK K hlk
        try go_frame
        refine wpAnyH_ready (rs := [8]) (by kernel_rfl) (by simp) ?_
        refine AllReadyH.cons (o := ⟨some 23, _, _, _, _, none⟩) rfl (fun K hK => ?_) AllReadyH.nil
        have q0 := (HR1.out.cell 0).trans rfl
        go_simp
        clear q0
        refine hK.out _ _ (HS.out _ (HR1.out.under ((Below.refl _ _).alloc (Nat.le_refl _) _))) (fun _ => ?_)
        clear hK K
        try go_frame
        refine genH (fun Z => Gp w1 (L'.take i) w1.heap.size f Z ∧ Row Z gx 74 #[.string xn, .int .i64 xt, .int .i64 (xd : Nat), .int .i64 (xi : Nat)] ∧ Row Z X.heap.size 74 #[.string xn, .int .i64 xt, .int .i64 (xd : Nat), .int .i64 (xi : Nat)]) ⟨HG1.out.under ((Below.refl _ _).alloc (Nat.le_refl _) _), HR1.out.under ((Below.refl _ _).alloc (Nat.le_refl _) _), Row.new _ _ _⟩ ?_
        obtain ⟨gy, hgy⟩ : ∃ gy, X.heap.size = gy := ⟨_, rfl⟩
        rw [hgy]
        clear HG1 HR1 hgy
        rintro Z ⟨hG, hR, hN⟩
        have HG1 := Lib.hid hG
        have HR1 := Lib.hid hR
        have HN1 := Lib.hid hN
        clear hG hR hN
        refine wpAnyH_ready (rs := [9]) (by kernel_rfl) (by simp) ?_
        refine AllReadyH.cons (o := ⟨some 24, _, _, _, _, none⟩) rfl (fun K hK => ?_) AllReadyH.nil
        have hown : Z.ownsRow w1.heap.size 74 4 u (gr (L'.take i) xn).length (sgc (gr (L'.take i) xn)) := by have h9 := HG1.out.at xn; rwa [HU.out] at h9
        have hgl : (gr (L'.take i) xn).length ≤ 12 := Nat.le_trans (List.length_filter_le _ _) (by rw [List.length_take]; omega)
        refine step_append_at rfl (.tmp 21) (.tmp 23) 63 rfl w1.heap.size 74 i0 _ 4 40 Tryz.underlying63 hi hz0 hz1 hz2 rfl (by decide) u (gr (L'.take i) xn).length (sgc (gr (L'.take i) xn)) rfl hown ⟨gy, 0, none⟩ 1 1 (sgCells ⟨xn, xt, xd, xi⟩) rfl rfl (fun j v hv => by rw [Addr.add_lit, Nat.zero_add, HN1.out.cell, ← hv]; simp [sgCells]) (fun v hv => by simp [sgCells] at hv; rcases hv with rfl | rfl | rfl | rfl <;> rfl) (by unfold maxLen; omega) (by omega) HG1.out.below.size ?_
        intro v' Y1 hown' hgr' hnew
        have hgu : Z.grownBy Y1 ((f xn).getD (.slice Option.none 0 0)).ownBlock := by rw [HU.out]; exact hgr'
        have hM1 := HG1.out.map.kept hgu (HG1.out.map.ne_own (HG1.out.at xn))
        have hRx : Row Y1 gx 74 #[.string xn, .int .i64 xt, .int .i64 (xd : Nat), .int .i64 (xi : Nat)] := HR1.out.grown hgr' (fun e => by have := HUB.out gx e.symm; omega)
        refine hK.out _ _ (HS.out _ hRx) (fun _ => ?_)
        clear hK K
        try go_frame
        refine wpAnyH_ready (rs := [10]) (by kernel_rfl) (by simp) ?_
        refine AllReadyH.cons (o := ⟨none, _, _, _, _, none⟩) rfl (fun K hK => ?_) AllReadyH.nil
        refine step_update rfl (.tmp 15) (.tmp 17) (.tmp 24) 70 rfl Tryz.underlying70 rfl hM1 (by rw [List.length_take]; unfold maxLen; omega) xn rfl HNX.out v' rfl ?_
        intro Y2 hm2 hg2
        have hstep := HG1.out.step ⟨xn, xt, xd, xi⟩ hown' hgu (hnew.imp (fun h => by rw [HU.out]; exact h) (fun h => ⟨_, h, Nat.le_refl _⟩)) hm2 hg2
        rw [← HX.out] at hstep
        have HST := Lib.hid hstep
        refine hK.out _ _ (HS.out _ (hRx.grown hg2 (fun e => hM1.ne_row hRx (by injection e with e; exact e.symm)))) (fun _ => ?_)
        clear hK K hstep hm2 hg2 hRx hM1 hgu hnew hgr' hown' hown hgl
        try simp only [Act.put]
        refine wpAnyH_done (by kernel_rfl) ?_ _
        go_wp2_with fail
        go_roundw
        case rel => exact ⟨i + 1, _, by omega, by go_num, HST.out⟩
        case measure => simp [intOf]; omega
      · have q0 := (HR1.out.cell 0).trans rfl
        go_simp
        clear q0
        refine hK.out _ _ (HS.out _ (HR1.out.under ((Below.refl _ _).alloc (Nat.le_refl _) _))) (fun _ => ?_)
        clear hK K
        try go_frame
        refine wpAnyH_ready (rs := [6]) (by kernel_rfl) (by simp) ?_
        refine AllReadyH.cons (o := ⟨some 21, _, _, _, _, none⟩) rfl (fun K hK => ?_) AllReadyH.nil
        have hlk := HLK.out _ (HG1.out.under (show Below X.heap.size X (X.alloc (.cells #[.string xn, .int .i64 xt, .int .i64 (xd : Nat), .int .i64 (xi : Nat)] 74)) from ((Below.refl _ _).alloc (Nat.le_refl _) _)))
        go_simp
        refine hK.out _ _ (HS.out _ (HR1.out.under ((Below.refl _ _).alloc (Nat.le_refl _) _))) (fun _ => ?_)
        clear hK K hlk
        try go_frame
        refine genH (fun Z => Gp w1 (L'.take i) w1.heap.size f Z ∧ Row Z gx 74 #[.string xn, .int .i64 xt, .int .i64 (xd : Nat), .int .i64 (xi : Nat)] ∧ Row Z X.heap.size 74 #[.string xn, .int .i64 xt, .int .i64 (xd : Nat), .int .i64 (xi : Nat)]) ⟨HG1.out.under ((Below.refl _ _).alloc (Nat.le_refl _) _), HR1.out.under ((Below.refl _ _).alloc (Nat.le_refl _) _), Row.new _ _ _⟩ ?_
        obtain ⟨gy, hgy⟩ : ∃ gy, X.heap.size = gy := ⟨_, rfl⟩
        rw [hgy]
        clear HG1 HR1 hgy
        rintro Z ⟨hG, hR, hN⟩
        have HG1 := Lib.hid hG
        have HR1 := Lib.hid hR
        have HN1 := Lib.hid hN
        clear hG hR hN
        refine wpAnyH_ready (rs := [9]) (by kernel_rfl) (by simp) ?_
        refine AllReadyH.cons (o := ⟨some 24, _, _, _, _, none⟩) rfl (fun K hK => ?_) AllReadyH.nil
        have hown : Z.ownsRow w1.heap.size 74 4 u (gr (L'.take i) xn).length (sgc (gr (L'.take i) xn)) := by have h9 := HG1.out.at xn; rwa [HU.out] at h9
        have hgl : (gr (L'.take i) xn).length ≤ 12 := Nat.le_trans (List.length_filter_le _ _) (by rw [List.length_take]; omega)
        refine step_append_at rfl (.tmp 21) (.tmp 23) 63 rfl w1.heap.size 74 i0 _ 4 40 Tryz.underlying63 hi hz0 hz1 hz2 rfl (by decide) u (gr (L'.take i) xn).length (sgc (gr (L'.take i) xn)) rfl hown ⟨gy, 0, none⟩ 1 1 (sgCells ⟨xn, xt, xd, xi⟩) rfl rfl (fun j v hv => by rw [Addr.add_lit, Nat.zero_add, HN1.out.cell, ← hv]; simp [sgCells]) (fun v hv => by simp [sgCells] at hv; rcases hv with rfl | rfl | rfl | rfl <;> rfl) (by unfold maxLen; omega) (by omega) HG1.out.below.size ?_
        intro v' Y1 hown' hgr' hnew
        have hgu : Z.grownBy Y1 ((f xn).getD (.slice Option.none 0 0)).ownBlock := by rw [HU.out]; exact hgr'
        have hM1 := HG1.out.map.kept hgu (HG1.out.map.ne_own (HG1.out.at xn))
        have hRx : Row Y1 gx 74 #[.string xn, .int .i64 xt, .int .i64 (xd : Nat), .int .i64 (xi : Nat)] := HR1.out.grown hgr' (fun e => by have := HUB.out gx e.symm; omega)
        refine hK.out _ _ (HS.out _ hRx) (fun _ => ?_)
        clear hK K
        try go_frame
        refine wpAnyH_ready (rs := [10]) (by kernel_rfl) (by simp) ?_
        refine AllReadyH.cons (o := ⟨none, _, _, _, _, none⟩) rfl (fun K hK => ?_) AllReadyH.nil
        refine step_update rfl (.tmp 15) (.tmp 17) (.tmp 24) 70 rfl Tryz.underlying70 rfl hM1 (by rw [List.length_take]; unfold maxLen; omega) xn rfl HNX.out v' rfl ?_
        intro Y2 hm2 hg2
        have hstep := HG1.out.step ⟨xn, xt, xd, xi⟩ hown' hgu (hnew.imp (fun h => by rw [HU.out]; exact h) (fun h => ⟨_, h, Nat.le_refl _⟩)) hm2 hg2
        rw [← HX.out] at hstep
        have HST := Lib.hid hstep
        refine hK.out _ _ (HS.out _ (hRx.grown hg2 (fun e => hM1.ne_row hRx (by injection e with e; exact e.symm)))) (fun _ => ?_)
        clear hK K hstep hm2 hg2 hRx hM1 hgu hnew hgr' hown' hown hgl
        try simp only [Act.put]
        refine wpAnyH_done (by kernel_rfl) ?_ _
        go_wp2_with fail
        go_roundw
        case rel => exact ⟨i + 1, _, by omega, by go_num, HST.out⟩
        case measure => simp [intOf]; omega
    · have k0 : ¬ (i : Int) < (L'.length : Int) := by omega
      have HF := Lib.hid (show Gp w1 L' w1.heap.size f wr from by have h9 := HQ.out; rwa [List.take_of_length_le (by omega)] at h9)
      clear HQ
      go_wp2_with fail
      go_ret
      exact ⟨w1, L', _, f, by rw [HP.out.length_eq] at *; exact HG.out, HP.out, HW.out, rfl, HF.out⟩
end Go.Proofs.YtejoabaanclcbaaGreat.Tk


namespace Go.Proofs.YtejoabaanclcbaaGreat.Tk
open Go.RowKit Go.Maps

/-- An entry that comes out of the range is what stands at its name. -/
theorem at_held {D : DataW Value} {f : ByteArray → Option Value} {x : ByteArray} {c : Value} {kl : Lit} {y : DataW Value × List MemPlace} (hD : ∀ k, Maps.has D (nk k) = (f k).isSome ∧ ∀ z, D.atKey (nk k) (.held z) = .held ((f k).getD z))
    (hk : keyOf Tryz.prog 9 (.string x) = some kl) (hy : MnR c = some y) (hat : ∀ zd, D.atKey kl zd = y.1) : f x = some c ∧ kl = nk x := by
  obtain ⟨k, e, rfl, -⟩ := nk_inv hk
  injection e with e
  subst e
  have h1 : y.1 = .held c := by
    have := Option.some.inj hy
    rw [← this]
  refine ⟨?_, rfl⟩
  have h2 : ∀ z, (f x).getD z = c := fun z => by
    have h3 := hat (.held z)
    rw [(hD x).2 z, h1] at h3
    exact DataW.held.inj h3
  cases hf : f x with
  | some v => have := h2 (.bool true); rw [hf] at this; exact congrArg some this
  | none =>
    have e1 := h2 (.bool true)
    have e2 := h2 (.bool false)
    rw [hf] at e1 e2
    rw [← e1] at e2
    cases e2
/-- What check says. -/
def ChkO (L : List Sg) (w : World) (e : Ending) (w' : World) : Prop :=
  (∃ c : Int, e = .returned (.int .i64 c) ∧ ((c = 5 ∧ ∃ k, ¬ ascP (gr L k)) ∨ (c = 0 ∧ ∀ k, ascP (gr L k)))) ∧ Below w.heap.size w w'
theorem gr_le (L : List Sg) (k : ByteArray) : (gr L k).length ≤ L.length := List.length_filter_le _ _
theorem asc_nil : ascP [] := fun i h => absurd h (by simp)
/-- The groups that have come out ascend. -/
def donR (L : List Sg) (left : Lit → Bool) : Prop := ∀ k, left (nk k) = false → ascP (gr L k)
set_option maxRecDepth 100000 in
set_option maxHeartbeats 8000000 in
theorem check_any (w0 : World) (b : Nat) (f : ByteArray → Option Value) (L : List Sg) (w : World) (hl : L.length ≤ 12) (hg : Gp w0 L b f w) :
    Calls Tryz.prog 41 #[.map (some b)] w (ChkO L w) := by
  have HG := Lib.hid hg; clear hg
  obtain ⟨D, hown, hD⟩ := HG.out.map
  have HDD := Lib.hid hD; clear hD
  have HHAS := Lib.hid (show donR L (Maps.has D) from fun k hk => by
    rw [(HDD.out k).1] at hk
    have h0 : f k = none := by cases h : f k with
      | none => rfl
      | some v => rw [h] at hk; cases hk
    rw [HG.out.nil k h0]
    exact asc_nil)
  go_enter Tryz.func41, Tryz.ntmps41
  go_wp2_with (at_range; refine wpList_range_own _ rfl _ 70 rfl 9 63 lawS Tryz.underlying70 MnR b L.length D rfl hown ?_; intro w1 hrg hgr hsz)
  go_frame
  have HB1 := Lib.hid ((Below.refl _ w).grown hgr (Nat.le_refl _) (by simp))
  have HR1 := Lib.hid hrg
  clear hrg hgr hsz hown
  go_loopw [3] (fun t wr => ∃ (left : Lit → Bool) (cnt : Nat) (m : Int), Hid (wr.ranges Tryz.prog 9 MnR b w.heap.size L.length D left cnt) ∧ t = .int .i64 m ∧ 0 ≤ m ∧ m ≤ 12 ∧ Hid (donR L left) ∧ Hid (Below w.heap.size w wr)) (fun _ wr => wr.rangeLeft b w.heap.size)
  case atStart => exact ⟨_, _, 0, HR1, rfl, by omega, by omega, HHAS, HB1⟩
  case round =>
    obtain ⟨left, cnt, m, HR, rfl, hm0, hm1, HDN, HB⟩ := hrel
    clear HR1 HB1
    go_wp2_with (at_next; refine wpList_next_ranges _ rfl _ rfl 9 lawS MnR Value.string (fun v : Value => v) (fun key kl h => by obtain ⟨k, e, -⟩ := nk_inv h; exact ⟨k, e⟩) (fun v y _ => ⟨v, rfl⟩) b w.heap.size L.length D left cnt rfl HR.out ?_ ?_)
    · intro _ hl0
      have HALL := Lib.hid (show ∀ k, ascP (gr L k) from fun k => HDN.out k (hl0 _))
      clear hl0
      have k30 : ¬ (30 : Int) < m := by omega
      go_wp2_with fail
      go_ret
      exact ⟨⟨0, rfl, .inr ⟨rfl, HALL.out⟩⟩, HB.out⟩
    · intro x c kl y y2 w1 cnt1 hkey hlx hy hat hrg1 hlt hg1 hs1 hen
      obtain ⟨hfx, rfl⟩ := at_held HDD.out hkey hy hat
      have hB1 := Lib.hid (show Below w.heap.size w w1 from HB.out.grown hg1 HB.out.size (fun j hj => by cases hj; exact Nat.le_refl _))
      have hrow := (HG.out.rows x c hfx).1
      obtain ⟨A, cap, rfl⟩ := own_form hrow
      have HSI := Lib.hid ((SgIn.own hrow).under hB1.out)
      have HR1 := Lib.hid hrg1
      have HLT := Lib.hid hlt
      have HLE := Lib.hid (gr_le L x)
      have HDN2 := Lib.hid (show ascP (gr L x) → donR L (fun z => left z && !z.sameKey (nk x)) from fun h k hk => by
        by_cases e : k = x
        · rw [e]; exact h
        · have h1 : (nk k).sameKey (nk x) = false := by
            cases h2 : (nk k).sameKey (nk x) with
            | false => rfl
            | true => exact absurd (nk_inj (WideAt.sameKey_eq h2)) e
          refine HDN.out k ?_
          dsimp only at hk
          rw [h1] at hk
          simpa using hk)
      have HNO := Lib.hid (show ¬ ascP (gr L x) → ∃ k, ¬ ascP (gr L k) from fun h => ⟨x, h⟩)
      clear hkey hlx hy hat hrg1 hlt hg1 hs1 hrow hfx HDN HB
      generalize gr L x = G at *
      go_wp2_with fail
      clear hen
      refine (ascending_any _ G w1 HSI.out (by have := HLE.out; omega)).mono ?_
      rintro e w2 ⟨⟨bb, rfl, hbb⟩, hb2⟩
      have HBB := Lib.hid hbb
      have HR2 := Lib.hid (HR1.out.kept (grown_below (r := none) hb2) (by simp) (by simp))
      have HB2 := Lib.hid (hB1.out.trans (hb2.mono hB1.out.size))
      clear hbb hb2 hB1 HR1
      cases bb
      · have HN := Lib.hid (HNO.out (fun h => by have := HBB.out.2 h; cases this))
        go_wp2_with fail
        go_ret
        exact ⟨⟨5, rfl, .inl ⟨rfl, HN.out⟩⟩, HB2.out⟩
      · have HN := Lib.hid (HDN2.out (HBB.out.1 rfl))
        go_wp2_with fail
        go_roundw
        case rel => exact ⟨_, _, _, HR2, rfl, by omega, by have := HLE.out; omega, HN, HB2⟩
        case measure => rw [HR2.out.left_eq, HR.out.left_eq]; exact HLT.out
end Go.Proofs.YtejoabaanclcbaaGreat.Tk


namespace Go.Proofs.YtejoabaanclcbaaGreat.Tk
open Go.RowKit Go.Maps Go.Shelf Go.Sort

theorem inC_any (w : World) (v : Value) (l : List Nat) (b : Nat) (h : IlIn w v l) : Calls Tryz.prog 42 #[v, .int .i64 b] w fun e w' => e = .returned (.bool (decide (b ∈ l))) ∧ w = w' := by
  rcases (by omega : l.length = 0 ∨ 0 < l.length) with h0 | h0
  · obtain ⟨A, c, rfl⟩ := il_form h
    rw [h0]
    obtain rfl : l = [] := List.eq_nil_of_length_eq_zero h0
    refine (Any.slices_Contains_int_empty Tryz.lContains A c b w).mono ?_
    rintro e w' ⟨rfl, rfl⟩
    exact ⟨by simp, rfl⟩
  · obtain ⟨g, c, rfl, -⟩ := il_at h h0
    have hcon := Any.slices_Contains_int Tryz.lContains g 0 l.length c (zs l) b w (by rw [zs_len]; exact Nat.le_refl _) (il_len h) (fun j hj => by
      rw [zs_len] at hj
      obtain ⟨g', c', e, -, -, hc⟩ := il_at h hj
      injection e with e
      injection e with e
      injection e with e
      subst e
      rw [Nat.zero_add, hc, List.getD_eq_getElem?_getD, List.getElem?_eq_getElem (by rw [zs_len]; exact hj)]
      simp [zs])
    rw [contains_zs] at hcon
    refine Calls.mono hcon ?_
    rintro e w' ⟨he, rfl⟩
    exact ⟨he, rfl⟩
/-- Numbers in order. -/
def srtN (l : List Nat) : List Nat := l.mergeSort fun x y => decide (x ≤ y)
theorem srtN_perm (l : List Nat) : (srtN l).Perm l := List.mergeSort_perm _ _
theorem srtN_up (l : List Nat) : (srtN l).Pairwise (fun x y => x ≤ y) :=
  (List.pairwise_mergeSort (le := fun x y : Nat => decide (x ≤ y)) (fun a b c h1 h2 => decide_eq_true (Nat.le_trans (of_decide_eq_true h1) (of_decide_eq_true h2))) (fun a b => by simp only [Bool.or_eq_true, decide_eq_true_eq]; omega) l).imp fun h => of_decide_eq_true h
theorem zs_srt (l : List Nat) : (zs l).mergeSort (fun x y => decide (x ≤ y)) = zs (srtN l) := by
  have hq := (List.mergeSort_perm (zs l) (fun x y => decide (x ≤ y))).trans ((srtN_perm l).symm.map (fun x : Nat => (x : Int)))
  have hs := List.pairwise_mergeSort (le := fun x y : Int => decide (x ≤ y)) (fun a b c h1 h2 => decide_eq_true (Int.le_trans (of_decide_eq_true h1) (of_decide_eq_true h2))) (fun a b => by simp only [Bool.or_eq_true, decide_eq_true_eq]; omega) (zs l)
  refine hq.eq_of_pairwise (le := fun x y : Int => x ≤ y) (fun _ _ _ _ h1 h2 => Int.le_antisymm h1 h2) (hs.imp (fun h => of_decide_eq_true h)) ?_
  unfold zs
  rw [List.pairwise_map]
  exact (srtN_up l).imp fun h => by omega
/-- What the sort of numbers leaves. -/
def SrtO (W : World) (base : Nat) (v : Value) (l : List Nat) (e : Ending) (w : World) : Prop :=
  e = .returned (.tuple #[]) ∧ W.grownBy w v.ownBlock ∧ w.ownsRow base 3 1 v l.length (ic (srtN l))
theorem sortI_any (w : World) (base : Nat) (v : Value) (l : List Nat) (h : w.ownsRow base 3 1 v l.length (ic l)) (hl : l.length ≤ 1000000) : Calls Tryz.prog 43 #[v] w (SrtO w base v l) := by
  rcases h.2 with ⟨rfl, h0⟩ | ⟨g, cap, cur, rfl, hg, hb, hn, hcap, hs, ht⟩
  · obtain rfl : l = [] := List.eq_nil_of_length_eq_zero h0
    refine (AnyM.slices_Sort_int_none Tryz.sortInt none 0 w).mono ?_
    rintro e w' ⟨rfl, rfl⟩
    exact ⟨rfl, ⟨rfl, rfl, rfl, Nat.le_refl _, fun _ _ _ => rfl⟩, by rw [show srtN ([] : List Nat) = [] from by simp [srtN]]; exact h⟩
  · have ht' : cur.toList.take (zs l).length = (zs l).map (Value.int .i64) := by
      rw [zs_len]
      have h9 : (zs l).map (Value.int .i64) = ic l := by simp [zs, ic]
      rw [h9]
      simpa using ht
    have hcon := AnyM.slices_Sort_int Tryz.sortInt g 0 cap (zs l) w (holds_of_blockI hb ht') (Array.getElem?_eq_some_iff.1 hb).1 (by rw [zs_len]; omega)
    rw [zs_len] at hcon
    refine Calls.mono hcon ?_
    rintro e w' ⟨rfl, q, os, rfl⟩
    refine ⟨rfl, grownBy_sortedI _, ?_⟩
    have := ownsRow_sortedI (n := q) (os := os) (base := base) (ss := zs l) (ts := (zs l).mergeSort fun x y => decide (x ≤ y)) (List.length_mergeSort _) hg hb (by rw [zs_len]; exact hn) hcap hs
    rw [zs_len] at this
    have h8 : ic (srtN l) = ((zs l).mergeSort fun x y => decide (x ≤ y)).map (Value.int .i64) := by rw [zs_srt]; simp [zs, ic]
    rw [h8]
    exact this
end Go.Proofs.YtejoabaanclcbaaGreat.Tk

