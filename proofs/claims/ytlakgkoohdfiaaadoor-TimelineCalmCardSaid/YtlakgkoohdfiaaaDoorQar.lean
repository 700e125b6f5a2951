/- Texts of this proof. -/
import Derived.Test.YtlakgkoohdfiaaaDoorQaq
import Derived.Test.YtlakgkoohdfiaaaDoorQab
import Derived.Test.YtlakgkoohdfiaaaDoorTmV
namespace Go.Proofs.YtlakgkoohdfiaaaDoor.Tm
open Go.RowKit

theorem set1_below {w0 w : World} {B g j : Nat} {u : Value} (h : Below B w0 w) (hg : B ≤ g) : Below B w0 (w.setCell ⟨g, j, none⟩ u) :=
  ⟨h.os, h.tape, h.output, by simpa [World.setCell] using h.size, fun i hi => (Below.heap_setCell w ⟨g, j, none⟩ u i (by show i ≠ g; omega)).trans (h.block i hi)⟩
theorem below_new {w w' : World} (hg : w.grownBy w' none) : Below w.heap.size w w' := (Below.refl _ w).grown hg (Nat.le_refl _) (by simp)
/-- What is known in awake. -/
structure AwS (w : World) (gr : Nat) (cs : Array Value) (Y : World) : Prop where
  below : Below w.heap.size w Y
  box : Row Y gr 67 cs
  tab : El.Tab Y
theorem AwS.under {w Y Y' : World} {gr : Nat} {cs : Array Value} (h : AwS w gr cs Y) (hb : Below Y.heap.size Y Y') : AwS w gr cs Y' :=
  ⟨h.below.trans (hb.mono h.below.size), h.box.under hb, h.tab.under hb⟩
theorem one_flag (Y : World) : In3 flE (Y.alloc (.cells #[.int .i64 1, .int .i64 1, .int .i64 4] 77)) (.slice (some ⟨Y.heap.size, 0, none⟩) 1 1) [(1, 1)] := by
  have hr := Row.new Y #[.int .i64 1, .int .i64 1, .int .i64 4] 77
  refine ⟨_, 1, rfl, Nat.le_refl _, by decide, fun i hi => ⟨Y.heap.size, 0, rfl, hr.lt, fun j hj => ?_⟩⟩
  obtain rfl : i = 0 := by simp at hi; omega
  rw [hr.cell]
  rcases (by omega : j = 0 ∨ j = 1 ∨ j = 2) with rfl | rfl | rfl <;> rfl
set_option maxRecDepth 100000 in
set_option maxHeartbeats 4000000 in
theorem awake_any (w : World) (hE : El.Tab w) : Calls Tryd.prog 38 #[] w (fun e w' => e = .returned (.bool true) ∧ Below w.heap.size w w') := by
  have b0 := (Below.refl w.heap.size w).alloc (Nat.le_refl _) (.cells cs0 67)
  have hr0 := Row.new w cs0 67
  have q0 := hr0.cell 2
  have f0 := hr0.thaw 2
  have hc0 : CtB cs0 (fun _ => 0) (fun _ => 0) := cs1_ok 0 0 0 0 0
  have hc1 : CtB (cs0.setIfInBounds 2 (.int .i64 10)) S1 P0 := hc0.setS (c := 1) (by decide) (x := 10) (by decide) (by decide)
  have I0 : Hid (AwS w w.heap.size (cs0.setIfInBounds 2 (.int .i64 10)) (w.alloc (.cells #[.int .i64 0, .int .i64 0, .int .i64 10, .int .i64 0, .int .i64 0, .int .i64 0, .int .i64 0, .int .i64 0, .int .i64 0, .int .i64 0, .int .i64 0, .int .i64 0, .int .i64 0, .int .i64 0, .int .i64 0, .int .i64 0, .int .i64 0, .int .i64 0, .int .i64 0, .int .i64 0, .int .i64 0, .int .i64 0, .int .i64 0, .int .i64 0, .int .i64 0, .int .i64 0, .int .i64 0, .int .i64 0, .int .i64 0, .int .i64 0, .int .i64 0, .int .i64 0, .int .i64 0, .int .i64 0, .int .i64 0, .int .i64 0, .int .i64 0, .int .i64 0, .int .i64 0, .int .i64 0, .int .i64 0] 67))) := Lib.hid ⟨(Below.refl _ _).alloc (Nat.le_refl _) _, Row.new _ _ _, hE.under ((Below.refl _ _).alloc (Nat.le_refl _) _)⟩
  have q1 : cs0[2]? = some (.int .i64 0) := rfl
  rw [q1] at q0
  go_enter Tryd.func38, Tryd.ntmps38
  go_upto_region 3 with fail
  clear q0 f0 hr0 b0 hc0 q1
  have hcs : (Tryd.prog.info? 67).map (·.size) = some (cs0.setIfInBounds 2 (.int .i64 10)).size := by rw [hc1.ct.size]; kernel_rfl
  generalize cs0.setIfInBounds 2 (.int .i64 10) = cs at *
  have hct := Lib.hid hc1
  clear hc1
  refine forget (fun Y => Hid (AwS w w.heap.size cs Y)) I0 ?_
  clear I0
  obtain ⟨gr, hgr⟩ : ∃ g, w.heap.size = g := ⟨_, rfl⟩
  have HGR := Lib.hid hgr
  rw [hgr]
  clear hgr
  rintro Y I0
  have HD := Lib.hid (show ∀ W : World, Below W.heap.size W W.drew from fun _ => ⟨rfl, rfl, rfl, Nat.le_refl _, fun _ _ => rfl⟩)
  have H0 := Lib.hid (I0.out.under (HD.out Y))
  clear I0
  refine wp_region_held_drew (S := fun _ : World => True) (by kernel_rfl) trivial (fun hHeld => ?_)
  generalize (Y).drew = X at *
  refine wpAnyH_ready (rs := [0, 1]) (by kernel_rfl) (by simp) ?_
  refine AllReadyH.cons (o := ⟨some 9, _, _, _, _, none⟩) rfl (fun K hK => ?_) (AllReadyH.cons (o := ⟨some 10, _, _, _, _, none⟩) rfl (fun K hK => ?_) AllReadyH.nil)
  · skip
    go_simp
    refine (three_any 10000 10100 10001 _).mono ?_
    rintro e X1 ⟨R, v, rfl, hRl, hHy, hHo⟩
    obtain ⟨u0, u1, u2, rfl⟩ := hHy.form hRl
    have HQ := Lib.hid hHo.ins
    have H1 := Lib.hid (H0.out.under (below_new hHo.gro))
    clear hRl hHy hHo H0
    go_wp2_with fail
    refine hK.out _ _ trivial (fun _ => ?_)
    clear hK K
    try simp only [Act.put, List.setIfInBounds_toArray, List.set_cons_zero, List.set_cons_succ]
    refine wpAnyH_ready (rs := [1]) (by kernel_rfl) (by simp) ?_
    refine AllReadyH.cons (o := ⟨some 10, _, _, _, _, none⟩) rfl (fun K hK => ?_) AllReadyH.nil

    have hbox := H1.out.box
    refine wp_load_row 67 (.tmp 1) rfl gr rfl 67 cs (0, 0) _ hbox Tryd.underlying67 rfl hcs ?_
    refine hK.out _ _ trivial (fun _ => ?_)
    clear hK K hbox
    try simp only [Act.put, List.setIfInBounds_toArray, List.set_cons_zero, List.set_cons_succ]
    refine wpAnyH_ready (rs := [2]) (by kernel_rfl) (by simp) ?_
    refine AllReadyH.cons (o := ⟨some 11, _, _, _, _, none⟩) rfl (fun K hK => ?_) AllReadyH.nil

    go_simp
    refine (check_any v (tri 10000 10100 10001 u0 u1 u2) cs S1 P0 _ HQ.out hct.out.ct H1.out.tab (show 3 ≤ 1000 by decide) tri_nm).mono ?_
    rintro e Xa ⟨va, rfl, hb, -, hz⟩
    rw [tri_er hct.out (by decide) (by decide) (by decide)] at *
    have H2 := Lib.hid (H1.out.under hb)
    have HFa : Hid (In3 flE Xa va [(1, 1)]) := Lib.hid (In3.own flE_len (by have h := hz rfl; rw [tri_flg] at h; exact h))
    clear hb hz HQ H1
    go_wp2_with fail
    refine hK.out _ _ trivial (fun _ => ?_)
    clear hK K
    try simp only [Act.put, List.setIfInBounds_toArray, List.set_cons_zero, List.set_cons_succ]

    refine tk 3 (oi := ⟨some 8, _, _, _, _, none⟩) rfl ?_
    try go_frame
    refine tk 4 (oi := ⟨some 12, _, _, _, _, none⟩) rfl ?_
    try go_frame
    refine tk 5 (oi := ⟨some 13, _, _, _, _, none⟩) rfl ?_
    try go_frame
    refine tk 6 (oi := ⟨some 2, _, _, _, _, none⟩) rfl ?_
    try go_frame
    refine tk 7 (oi := ⟨some 3, _, _, _, _, none⟩) rfl ?_
    try go_frame
    refine wpAnyH_done (by kernel_rfl) ?_ _
    have HB := Lib.hid H2.out.below
    have I4 := Lib.hid (⟨Below.refl _ _, H2.out.box, H2.out.tab⟩ : AwS Xa gr cs Xa)
    clear HD H2
    go_upto_region 4 with fail

    have HD := Lib.hid (show ∀ W : World, Below W.heap.size W W.drew from fun _ => ⟨rfl, rfl, rfl, Nat.le_refl _, fun _ _ => rfl⟩)
    have H0 := Lib.hid (I4.out.under (HD.out Xa))
    clear I4
    refine wp_region_held_drew (S := fun _ : World => True) (by kernel_rfl) trivial (fun hHeld => ?_)
    generalize (Xa).drew = X at *
    refine wpAnyH_ready (rs := [0, 1]) (by kernel_rfl) (by simp) ?_
    refine AllReadyH.cons (o := ⟨some 15, _, _, _, _, none⟩) rfl (fun K hK => ?_) (AllReadyH.cons (o := ⟨some 16, _, _, _, _, none⟩) rfl (fun K hK => ?_) AllReadyH.nil)
    · skip
      go_simp
      refine (three_any 10000 10100 10101 _).mono ?_
      rintro e X1 ⟨R, v, rfl, hRl, hHy, hHo⟩
      obtain ⟨u0, u1, u2, rfl⟩ := hHy.form hRl
      have HQ := Lib.hid hHo.ins
      have H1 := Lib.hid (H0.out.under (below_new hHo.gro))
      clear hRl hHy hHo H0
      go_wp2_with fail
      refine hK.out _ _ trivial (fun _ => ?_)
      clear hK K
      try simp only [Act.put, List.setIfInBounds_toArray, List.set_cons_zero, List.set_cons_succ]
      refine wpAnyH_ready (rs := [1]) (by kernel_rfl) (by simp) ?_
      refine AllReadyH.cons (o := ⟨some 16, _, _, _, _, none⟩) rfl (fun K hK => ?_) AllReadyH.nil

      have hbox := H1.out.box
      refine wp_load_row 67 (.tmp 1) rfl gr rfl 67 cs (0, 0) _ hbox Tryd.underlying67 rfl hcs ?_
      refine hK.out _ _ trivial (fun _ => ?_)
      clear hK K hbox
      try simp only [Act.put, List.setIfInBounds_toArray, List.set_cons_zero, List.set_cons_succ]
      refine wpAnyH_ready (rs := [2]) (by kernel_rfl) (by simp) ?_
      refine AllReadyH.cons (o := ⟨some 17, _, _, _, _, none⟩) rfl (fun K hK => ?_) AllReadyH.nil

      go_simp
      refine (check_any v (tri 10000 10100 10101 u0 u1 u2) cs S1 P0 _ HQ.out hct.out.ct H1.out.tab (show 3 ≤ 1000 by decide) tri_nm).mono ?_
      rintro e Xb ⟨vb, rfl, hb, -, hz⟩
      rw [tri_er hct.out (by decide) (by decide) (by decide)] at *
      have H2 := Lib.hid (H1.out.under hb)
      have HFb : Hid (In3 flE Xb vb []) := Lib.hid (In3.own flE_len (by have h := hz rfl; rw [tri_flg'] at h; exact h))
      clear hb hz HQ H1
      go_wp2_with fail
      refine hK.out _ _ trivial (fun _ => ?_)
      clear hK K
      try simp only [Act.put, List.setIfInBounds_toArray, List.set_cons_zero, List.set_cons_succ]

      refine tk 3 (oi := ⟨some 14, _, _, _, _, none⟩) rfl ?_
      try go_frame
      refine tk 4 (oi := ⟨some 18, _, _, _, _, none⟩) rfl ?_
      try go_frame
      refine tk 5 (oi := ⟨some 19, _, _, _, _, none⟩) rfl ?_
      try go_frame
      refine tk 6 (oi := ⟨some 4, _, _, _, _, none⟩) rfl ?_
      try go_frame
      refine tk 7 (oi := ⟨some 5, _, _, _, _, none⟩) rfl ?_
      try go_frame
      refine wpAnyH_done (by kernel_rfl) ?_ _

      have ba := (Below.refl Xb.heap.size Xb).alloc (Nat.le_refl _) (.cells #[.int .i64 1, .int .i64 1, .int .i64 4] 77)
      have HV := Lib.hid ((HFa.out.under H2.out.below).under ba)
      have HN := Lib.hid (one_flag Xb)
      obtain ⟨Ab, cb, hvb, -⟩ := HFb.out.form'
      subst hvb
      have HBz := Lib.hid (HB.out.trans ((H2.out.below.mono HB.out.size).trans (ba.mono (Nat.le_trans HB.out.size H2.out.below.size))))
      have HSz := Lib.hid (Nat.le_trans HB.out.size (Nat.le_trans H2.out.below.size ba.size))
      clear ba H2 HFa HFb HB
      go_wp2_with fail
      refine (flags_any _ _ _ _ _ HV.out HN.out).mono ?_
      rintro e X9 ⟨rfl, b9⟩
      have HF := Lib.hid (HBz.out.trans (b9.mono HSz.out))
      clear b9 HBz HSz HV HN
      rw [show decide (([((1 : Nat), (1 : Int))] : List (Nat × Int)) = [(1, 1)]) = true from rfl]
      go_wp2_with fail
      go_ret
      exact ⟨rfl, HF.out⟩
    · skip
      have hbox := H0.out.box
      refine wp_load_row 67 (.tmp 1) rfl gr rfl 67 cs (0, 0) _ hbox Tryd.underlying67 rfl hcs ?_
      refine hK.out _ _ trivial (fun _ => ?_)
      clear hK K hbox
      try simp only [Act.put, List.setIfInBounds_toArray, List.set_cons_zero, List.set_cons_succ]
      refine wpAnyH_ready (rs := [0]) (by kernel_rfl) (by simp) ?_
      refine AllReadyH.cons (o := ⟨some 15, _, _, _, _, none⟩) rfl (fun K hK => ?_) AllReadyH.nil

      go_simp
      refine (three_any 10000 10100 10101 _).mono ?_
      rintro e X1 ⟨R, v, rfl, hRl, hHy, hHo⟩
      obtain ⟨u0, u1, u2, rfl⟩ := hHy.form hRl
      have HQ := Lib.hid hHo.ins
      have H1 := Lib.hid (H0.out.under (below_new hHo.gro))
      clear hRl hHy hHo H0
      go_wp2_with fail
      refine hK.out _ _ trivial (fun _ => ?_)
      clear hK K
      try simp only [Act.put, List.setIfInBounds_toArray, List.set_cons_zero, List.set_cons_succ]
      refine wpAnyH_ready (rs := [2]) (by kernel_rfl) (by simp) ?_
      refine AllReadyH.cons (o := ⟨some 17, _, _, _, _, none⟩) rfl (fun K hK => ?_) AllReadyH.nil

      go_simp
      refine (check_any v (tri 10000 10100 10101 u0 u1 u2) cs S1 P0 _ HQ.out hct.out.ct H1.out.tab (show 3 ≤ 1000 by decide) tri_nm).mono ?_
      rintro e Xb ⟨vb, rfl, hb, -, hz⟩
      rw [tri_er hct.out (by decide) (by decide) (by decide)] at *
      have H2 := Lib.hid (H1.out.under hb)
      have HFb : Hid (In3 flE Xb vb []) := Lib.hid (In3.own flE_len (by have h := hz rfl; rw [tri_flg'] at h; exact h))
      clear hb hz HQ H1
      go_wp2_with fail
      refine hK.out _ _ trivial (fun _ => ?_)
      clear hK K
      try simp only [Act.put, List.setIfInBounds_toArray, List.set_cons_zero, List.set_cons_succ]

      refine tk 3 (oi := ⟨some 14, _, _, _, _, none⟩) rfl ?_
      try go_frame
      refine tk 4 (oi := ⟨some 18, _, _, _, _, none⟩) rfl ?_
      try go_frame
      refine tk 5 (oi := ⟨some 19, _, _, _, _, none⟩) rfl ?_
      try go_frame
      refine tk 6 (oi := ⟨some 4, _, _, _, _, none⟩) rfl ?_
      try go_frame
      refine tk 7 (oi := ⟨some 5, _, _, _, _, none⟩) rfl ?_
      try go_frame
      refine wpAnyH_done (by kernel_rfl) ?_ _

      have ba := (Below.refl Xb.heap.size Xb).alloc (Nat.le_refl _) (.cells #[.int .i64 1, .int .i64 1, .int .i64 4] 77)
      have HV := Lib.hid ((HFa.out.under H2.out.below).under ba)
      have HN := Lib.hid (one_flag Xb)
      obtain ⟨Ab, cb, hvb, -⟩ := HFb.out.form'
      subst hvb
      have HBz := Lib.hid (HB.out.trans ((H2.out.below.mono HB.out.size).trans (ba.mono (Nat.le_trans HB.out.size H2.out.below.size))))
      have HSz := Lib.hid (Nat.le_trans HB.out.size (Nat.le_trans H2.out.below.size ba.size))
      clear ba H2 HFa HFb HB
      go_wp2_with fail
      refine (flags_any _ _ _ _ _ HV.out HN.out).mono ?_
      rintro e X9 ⟨rfl, b9⟩
      have HF := Lib.hid (HBz.out.trans (b9.mono HSz.out))
      clear b9 HBz HSz HV HN
      rw [show decide (([((1 : Nat), (1 : Int))] : List (Nat × Int)) = [(1, 1)]) = true from rfl]
      go_wp2_with fail
      go_ret
      exact ⟨rfl, HF.out⟩
  · skip
    have hbox := H0.out.box
    refine wp_load_row 67 (.tmp 1) rfl gr rfl 67 cs (0, 0) _ hbox Tryd.underlying67 rfl hcs ?_
    refine hK.out _ _ trivial (fun _ => ?_)
    clear hK K hbox
    try simp only [Act.put, List.setIfInBounds_toArray, List.set_cons_zero, List.set_cons_succ]
    refine wpAnyH_ready (rs := [0]) (by kernel_rfl) (by simp) ?_
    refine AllReadyH.cons (o := ⟨some 9, _, _, _, _, none⟩) rfl (fun K hK => ?_) AllReadyH.nil

    go_simp
    refine (three_any 10000 10100 10001 _).mono ?_
    rintro e X1 ⟨R, v, rfl, hRl, hHy, hHo⟩
    obtain ⟨u0, u1, u2, rfl⟩ := hHy.form hRl
    have HQ := Lib.hid hHo.ins
    have H1 := Lib.hid (H0.out.under (below_new hHo.gro))
    clear hRl hHy hHo H0
    go_wp2_with fail
    refine hK.out _ _ trivial (fun _ => ?_)
    clear hK K
    try simp only [Act.put, List.setIfInBounds_toArray, List.set_cons_zero, List.set_cons_succ]
    refine wpAnyH_ready (rs := [2]) (by kernel_rfl) (by simp) ?_
    refine AllReadyH.cons (o := ⟨some 11, _, _, _, _, none⟩) rfl (fun K hK => ?_) AllReadyH.nil

    go_simp
    refine (check_any v (tri 10000 10100 10001 u0 u1 u2) cs S1 P0 _ HQ.out hct.out.ct H1.out.tab (show 3 ≤ 1000 by decide) tri_nm).mono ?_
    rintro e Xa ⟨va, rfl, hb, -, hz⟩
    rw [tri_er hct.out (by decide) (by decide) (by decide)] at *
    have H2 := Lib.hid (H1.out.under hb)
    have HFa : Hid (In3 flE Xa va [(1, 1)]) := Lib.hid (In3.own flE_len (by have h := hz rfl; rw [tri_flg] at h; exact h))
    clear hb hz HQ H1
    go_wp2_with fail
    refine hK.out _ _ trivial (fun _ => ?_)
    clear hK K
    try simp only [Act.put, List.setIfInBounds_toArray, List.set_cons_zero, List.set_cons_succ]

    refine tk 3 (oi := ⟨some 8, _, _, _, _, none⟩) rfl ?_
    try go_frame
    refine tk 4 (oi := ⟨some 12, _, _, _, _, none⟩) rfl ?_
    try go_frame
    refine tk 5 (oi := ⟨some 13, _, _, _, _, none⟩) rfl ?_
    try go_frame
    refine tk 6 (oi := ⟨some 2, _, _, _, _, none⟩) rfl ?_
    try go_frame
    refine tk 7 (oi := ⟨some 3, _, _, _, _, none⟩) rfl ?_
    try go_frame
    refine wpAnyH_done (by kernel_rfl) ?_ _
    have HB := Lib.hid H2.out.below
    have I4 := Lib.hid (⟨Below.refl _ _, H2.out.box, H2.out.tab⟩ : AwS Xa gr cs Xa)
    clear HD H2
    go_upto_region 4 with fail

    have HD := Lib.hid (show ∀ W : World, Below W.heap.size W W.drew from fun _ => ⟨rfl, rfl, rfl, Nat.le_refl _, fun _ _ => rfl⟩)
    have H0 := Lib.hid (I4.out.under (HD.out Xa))
    clear I4
    refine wp_region_held_drew (S := fun _ : World => True) (by kernel_rfl) trivial (fun hHeld => ?_)
    generalize (Xa).drew = X at *
    refine wpAnyH_ready (rs := [0, 1]) (by kernel_rfl) (by simp) ?_
    refine AllReadyH.cons (o := ⟨some 15, _, _, _, _, none⟩) rfl (fun K hK => ?_) (AllReadyH.cons (o := ⟨some 16, _, _, _, _, none⟩) rfl (fun K hK => ?_) AllReadyH.nil)
    · skip
      go_simp
      refine (three_any 10000 10100 10101 _).mono ?_
      rintro e X1 ⟨R, v, rfl, hRl, hHy, hHo⟩
      obtain ⟨u0, u1, u2, rfl⟩ := hHy.form hRl
      have HQ := Lib.hid hHo.ins
      have H1 := Lib.hid (H0.out.under (below_new hHo.gro))
      clear hRl hHy hHo H0
      go_wp2_with fail
      refine hK.out _ _ trivial (fun _ => ?_)
      clear hK K
      try simp only [Act.put, List.setIfInBounds_toArray, List.set_cons_zero, List.set_cons_succ]
      refine wpAnyH_ready (rs := [1]) (by kernel_rfl) (by simp) ?_
      refine AllReadyH.cons (o := ⟨some 16, _, _, _, _, none⟩) rfl (fun K hK => ?_) AllReadyH.nil

      have hbox := H1.out.box
      refine wp_load_row 67 (.tmp 1) rfl gr rfl 67 cs (0, 0) _ hbox Tryd.underlying67 rfl hcs ?_
      refine hK.out _ _ trivial (fun _ => ?_)
      clear hK K hbox
      try simp only [Act.put, List.setIfInBounds_toArray, List.set_cons_zero, List.set_cons_succ]
      refine wpAnyH_ready (rs := [2]) (by kernel_rfl) (by simp) ?_
      refine AllReadyH.cons (o := ⟨some 17, _, _, _, _, none⟩) rfl (fun K hK => ?_) AllReadyH.nil

      go_simp
      refine (check_any v (tri 10000 10100 10101 u0 u1 u2) cs S1 P0 _ HQ.out hct.out.ct H1.out.tab (show 3 ≤ 1000 by decide) tri_nm).mono ?_
      rintro e Xb ⟨vb, rfl, hb, -, hz⟩
      rw [tri_er hct.out (by decide) (by decide) (by decide)] at *
      have H2 := Lib.hid (H1.out.under hb)
      have HFb : Hid (In3 flE Xb vb []) := Lib.hid (In3.own flE_len (by have h := hz rfl; rw [tri_flg'] at h; exact h))
      clear hb hz HQ H1
      go_wp2_with fail
      refine hK.out _ _ trivial (fun _ => ?_)
      clear hK K
      try simp only [Act.put, List.setIfInBounds_toArray, List.set_cons_zero, List.set_cons_succ]

      refine tk 3 (oi := ⟨some 14, _, _, _, _, none⟩) rfl ?_
      try go_frame
      refine tk 4 (oi := ⟨some 18, _, _, _, _, none⟩) rfl ?_
      try go_frame
      refine tk 5 (oi := ⟨some 19, _, _, _, _, none⟩) rfl ?_
      try go_frame
      refine tk 6 (oi := ⟨some 4, _, _, _, _, none⟩) rfl ?_
      try go_frame
      refine tk 7 (oi := ⟨some 5, _, _, _, _, none⟩) rfl ?_
      try go_frame
      refine wpAnyH_done (by kernel_rfl) ?_ _

      have ba := (Below.refl Xb.heap.size Xb).alloc (Nat.le_refl _) (.cells #[.int .i64 1, .int .i64 1, .int .i64 4] 77)
      have HV := Lib.hid ((HFa.out.under H2.out.below).under ba)
      have HN := Lib.hid (one_flag Xb)
      obtain ⟨Ab, cb, hvb, -⟩ := HFb.out.form'
      subst hvb
      have HBz := Lib.hid (HB.out.trans ((H2.out.below.mono HB.out.size).trans (ba.mono (Nat.le_trans HB.out.size H2.out.below.size))))
      have HSz := Lib.hid (Nat.le_trans HB.out.size (Nat.le_trans H2.out.below.size ba.size))
      clear ba H2 HFa HFb HB
      go_wp2_with fail
      refine (flags_any _ _ _ _ _ HV.out HN.out).mono ?_
      rintro e X9 ⟨rfl, b9⟩
      have HF := Lib.hid (HBz.out.trans (b9.mono HSz.out))
      clear b9 HBz HSz HV HN
      rw [show decide (([((1 : Nat), (1 : Int))] : List (Nat × Int)) = [(1, 1)]) = true from rfl]
      go_wp2_with fail
      go_ret
      exact ⟨rfl, HF.out⟩
    · skip
      have hbox := H0.out.box
      refine wp_load_row 67 (.tmp 1) rfl gr rfl 67 cs (0, 0) _ hbox Tryd.underlying67 rfl hcs ?_
      refine hK.out _ _ trivial (fun _ => ?_)
      clear hK K hbox
      try simp only [Act.put, List.setIfInBounds_toArray, List.set_cons_zero, List.set_cons_succ]
      refine wpAnyH_ready (rs := [0]) (by kernel_rfl) (by simp) ?_
      refine AllReadyH.cons (o := ⟨some 15, _, _, _, _, none⟩) rfl (fun K hK => ?_) AllReadyH.nil

      go_simp
      refine (three_any 10000 10100 10101 _).mono ?_
      rintro e X1 ⟨R, v, rfl, hRl, hHy, hHo⟩
      obtain ⟨u0, u1, u2, rfl⟩ := hHy.form hRl
      have HQ := Lib.hid hHo.ins
      have H1 := Lib.hid (H0.out.under (below_new hHo.gro))
      clear hRl hHy hHo H0
      go_wp2_with fail
      refine hK.out _ _ trivial (fun _ => ?_)
      clear hK K
      try simp only [Act.put, List.setIfInBounds_toArray, List.set_cons_zero, List.set_cons_succ]
      refine wpAnyH_ready (rs := [2]) (by kernel_rfl) (by simp) ?_
      refine AllReadyH.cons (o := ⟨some 17, _, _, _, _, none⟩) rfl (fun K hK => ?_) AllReadyH.nil

      go_simp
      refine (check_any v (tri 10000 10100 10101 u0 u1 u2) cs S1 P0 _ HQ.out hct.out.ct H1.out.tab (show 3 ≤ 1000 by decide) tri_nm).mono ?_
      rintro e Xb ⟨vb, rfl, hb, -, hz⟩
      rw [tri_er hct.out (by decide) (by decide) (by decide)] at *
      have H2 := Lib.hid (H1.out.under hb)
      have HFb : Hid (In3 flE Xb vb []) := Lib.hid (In3.own flE_len (by have h := hz rfl; rw [tri_flg'] at h; exact h))
      clear hb hz HQ H1
      go_wp2_with fail
      refine hK.out _ _ trivial (fun _ => ?_)
      clear hK K
      try simp only [Act.put, List.setIfInBounds_toArray, List.set_cons_zero, List.set_cons_succ]

      refine tk 3 (oi := ⟨some 14, _, _, _, _, none⟩) rfl ?_
      try go_frame
      refine tk 4 (oi := ⟨some 18, _, _, _, _, none⟩) rfl ?_
      try go_frame
      refine tk 5 (oi := ⟨some 19, _, _, _, _, none⟩) rfl ?_
      try go_frame
      refine tk 6 (oi := ⟨some 4, _, _, _, _, none⟩) rfl ?_
      try go_frame
      refine tk 7 (oi := ⟨some 5, _, _, _, _, none⟩) rfl ?_
      try go_frame
      refine wpAnyH_done (by kernel_rfl) ?_ _

      have ba := (Below.refl Xb.heap.size Xb).alloc (Nat.le_refl _) (.cells #[.int .i64 1, .int .i64 1, .int .i64 4] 77)
      have HV := Lib.hid ((HFa.out.under H2.out.below).under ba)
      have HN := Lib.hid (one_flag Xb)
      obtain ⟨Ab, cb, hvb, -⟩ := HFb.out.form'
      subst hvb
      have HBz := Lib.hid (HB.out.trans ((H2.out.below.mono HB.out.size).trans (ba.mono (Nat.le_trans HB.out.size H2.out.below.size))))
      have HSz := Lib.hid (Nat.le_trans HB.out.size (Nat.le_trans H2.out.below.size ba.size))
      clear ba H2 HFa HFb HB
      go_wp2_with fail
      refine (flags_any _ _ _ _ _ HV.out HN.out).mono ?_
      rintro e X9 ⟨rfl, b9⟩
      have HF := Lib.hid (HBz.out.trans (b9.mono HSz.out))
      clear b9 HBz HSz HV HN
      rw [show decide (([((1 : Nat), (1 : Int))] : List (Nat × Int)) = [(1, 1)]) = true from rfl]
      go_wp2_with fail
      go_ret
      exact ⟨rfl, HF.out⟩
end Go.Proofs.YtlakgkoohdfiaaaDoor.Tm

namespace Go.Proofs.YtlakgkoohdfiaaaDoor.Tm
open Go.RowKit Go.Great

structure Ti (W : World) (gc : Nat) (cs : Array Value) (v : Value) (R : List Rp) (Y : World) : Prop where
  below : Below W.heap.size W Y
  ins : RpsIn Y v R
  box : Row Y gc 67 cs
  tab : El.Tab Y
theorem Ti.under {W Y Y' : World} {gc : Nat} {cs : Array Value} {v : Value} {R : List Rp} (h : Ti W gc cs v R Y) (hb : Below Y.heap.size Y Y') : Ti W gc cs v R Y' :=
  ⟨h.below.trans (hb.mono h.below.size), h.ins.under hb, h.box.under hb, h.tab.under hb⟩
theorem Ti.new {W w w2 w3 : World} {b gv : Nat} {lo m : Int} {R : List Rp} {v : Value} (hT : El.Tab W) (h : Sr W b w gv lo m R v w2) (hs : Src W b w3) (hg : w2.grownBy w3 (some b)) (cs : Array Value) : Ti W w3.heap.size cs v R (w3.alloc (.cells cs 67)) := by
  have h3 := h.step hs hg
  have hb := (Below.refl w3.heap.size w3).alloc (Nat.le_refl _) (.cells cs 67)
  exact ⟨hs.below.trans (hb.mono hs.below.size), (RpsIn.own h3.own (fun r hr => El.RdIn.own (h3.rds r hr))).under hb, Row.new _ _ _, (hT.under hs.below).under hb⟩
end Go.Proofs.YtlakgkoohdfiaaaDoor.Tm
