/- Texts of this proof. -/
import Derived.Test.YtejoabaanclcbaaGreatQas
import Derived.Test.YtejoabaanclcbaaGreatTkH
namespace Go.Proofs.YtejoabaanclcbaaGreat.Tk
open Go.RowKit

theorem clockIn_any (t : Int) (w : World) : Calls Tryz.prog 55 #[.int .i64 t] w fun e w' => e = .returned (.bool (tOk t)) ∧ w = w' := by
  by_cases h0 : 0 ≤ t
  · by_cases h1 : t ≤ 52595999
    · have HD := Lib.hid (show tOk t = true from decide_eq_true (show 0 ≤ t ∧ t ≤ 52595999 from ⟨h0, h1⟩))
      go_enter Tryz.func55, Tryz.ntmps55
      go_wp2_with fail
      go_ret
      exact ⟨by rw [HD.out]; rfl, rfl⟩
    · have HD := Lib.hid (show tOk t = false from decide_eq_false (show ¬ (0 ≤ t ∧ t ≤ 52595999) from fun h => h1 h.2))
      go_enter Tryz.func55, Tryz.ntmps55
      go_wp2_with fail
      go_ret
      exact ⟨by rw [HD.out]; rfl, rfl⟩
  · have HD := Lib.hid (show tOk t = false from decide_eq_false (show ¬ (0 ≤ t ∧ t ≤ 52595999) from fun h => h0 h.1))
    go_enter Tryz.func55, Tryz.ntmps55
    go_wp2_with fail
    go_ret
    exact ⟨by rw [HD.out]; rfl, rfl⟩
set_option maxHeartbeats 2000000 in
theorem refValid12_any (k : Int) (nm : ByteArray) (t F A B C : Int) (ua : Option Addr) (un uc : Nat) (w : World) :
    Calls Tryz.prog 37 #[rqV k nm t F A B C ua un uc] w fun e w' => e = .returned (.bool (okr ⟨k, nm, t, F, A, B, C, ua, un, uc⟩)) ∧ Below w.heap.size w w' := by
  go_enter Tryz.func37, Tryz.ntmps37
  go_upto_region 1 with fail
  refine forget (fun Y => Below w.heap.size w Y ∧ Row Y w.heap.size 35 (rqC k nm t F A B C ua un uc)) ⟨(Below.refl _ _).alloc (Nat.le_refl _) _, Row.new _ _ _⟩ ?_
  obtain ⟨gx, hgx⟩ : ∃ g, w.heap.size = g := ⟨_, rfl⟩
  rintro Y ⟨hb, rx⟩
  rw [hgx] at rx
  rw [hgx]
  have HB := Lib.hid hb; clear hb hgx
  obtain ⟨p0, p1, p2, p3, p4, p5, p6, p7⟩ := row8 rx
  have HX := Lib.hid rx; clear rx
  go_wp2_with fail
  refine (refValid_any F A B C Y).mono ?_
  rintro e w1 ⟨rfl, hb1⟩
  have HB1 := Lib.hid (HB.out.trans (hb1.mono HB.out.size))
  clear p0 p1 p2 p3 p4 p5 p6 p7
  obtain ⟨p0, p1, p2, p3, p4, p5, p6, p7⟩ := row8 (HX.out.under hb1)
  clear hb1
  obtain ⟨b, hb⟩ : ∃ b, vb F A B C = b := ⟨_, rfl⟩
  have HV := Lib.hid (show okr ⟨k, nm, t, F, A, B, C, ua, un, uc⟩ = (b && tOk t) by rw [← hb]; rfl)
  rw [hb]
  clear hb
  cases b
  · go_wp2_with fail
    go_ret
    exact ⟨by rw [HV.out]; rfl, HB1.out⟩
  · go_wp2_with fail
    refine (clockIn_any t _).mono ?_
    rintro e w2 ⟨rfl, rfl⟩
    go_wp2_with fail
    go_ret
    exact ⟨by rw [HV.out, Bool.true_and]; rfl, HB1.out⟩
theorem cn8 : cn 8 = 642 := by decide
theorem around8_any (w : World) : Calls Tryz.prog 47 #[.int .i64 8] w (AroundR w 8) := by
  go_enter Tryz.func47, Tryz.ntmps47
  go_wp2_with fail
  refine (around_any 8 _ frq8).mono ?_
  rintro e w1 ⟨g, cap, rfl, h1, h2, hb, hnb⟩
  have HB := Lib.hid hb; clear hb
  have HN := Lib.hid hnb; clear hnb
  have HC := Lib.hid (And.intro h1 h2); clear h1 h2
  go_wp2_with fail
  go_ret
  exact ⟨g, cap, rfl, HC.out.1, HC.out.2, HB.out, HN.out⟩
/-- What a report says, with a number. -/
noncomputable def sgr (r : Rq) (i : Nat) : Sg := ⟨r.nm, r.t, nod r.F r.A r.B r.C, i⟩
theorem sgr_gd {r : Rq} {i : Nat} (h : okr r = true) : Gd (sgr r i) := by
  unfold okr at h
  obtain ⟨h1, h2⟩ := Bool.and_eq_true_iff.1 h
  have := of_decide_eq_true h2
  exact ⟨nod_lt h1, this.1, this.2⟩
set_option maxRecDepth 100000 in
set_option maxHeartbeats 4000000 in
theorem refPlausible_any (g cap : Nat) (kx : Int) (nx : ByteArray) (tx Fx Ax Bx Cx : Int) (ax : Option Addr) (ux cx : Nat) (ky : Int) (ny : ByteArray) (ty Fy Ay By Cy : Int) (ay : Option Addr) (uy cy : Nat) (h : Int) (w : World) (hg : Nb w g 8) (hc1 : 642 ≤ cap) (hc2 : cap ≤ 9223372036854775807)
    (hx : okr ⟨kx, nx, tx, Fx, Ax, Bx, Cx, ax, ux, cx⟩ = true) (hy : okr ⟨ky, ny, ty, Fy, Ay, By, Cy, ay, uy, cy⟩ = true) (hh : 0 ≤ h ∧ h ≤ 1000) :
    Calls Tryz.prog 46 #[.slice (some ⟨g, 0, none⟩) 642 cap, rqV kx nx tx Fx Ax Bx Cx ax ux cx, rqV ky ny ty Fy Ay By Cy ay uy cy, .int .i64 h] w fun e w' => e = .returned (.bool (pls h (sgr ⟨kx, nx, tx, Fx, Ax, Bx, Cx, ax, ux, cx⟩ 0) (sgr ⟨ky, ny, ty, Fy, Ay, By, Cy, ay, uy, cy⟩ 0))) ∧ Below w.heap.size w w' := by
  obtain ⟨hx1, hx2, hx3⟩ := sgr_gd (i := 0) hx
  obtain ⟨hy1, hy2, hy3⟩ := sgr_gd (i := 0) hy
  have vx : vb Fx Ax Bx Cx = true := (Bool.and_eq_true_iff.1 hx).1
  have vy : vb Fy Ay By Cy = true := (Bool.and_eq_true_iff.1 hy).1
  obtain ⟨h1, h2⟩ := hh
  simp only [sgr] at hx1 hx2 hx3 hy1 hy2 hy3
  have HN := Lib.hid hg; clear hg
  obtain ⟨z, hz⟩ : ∃ z, pls h (sgr ⟨kx, nx, tx, Fx, Ax, Bx, Cx, ax, ux, cx⟩ 0) (sgr ⟨ky, ny, ty, Fy, Ay, By, Cy, ay, uy, cy⟩ 0) = z := ⟨_, rfl⟩
  have HZ := Lib.hid hz
  clear hz hx hy
  go_enter Tryz.func46, Tryz.ntmps46
  go_upto_region 1 with fail
  refine forget (fun Y => Below w.heap.size w Y ∧ Row Y w.heap.size 35 (rqC kx nx tx Fx Ax Bx Cx ax ux cx) ∧ Row Y (w.heap.size + 1) 35 (rqC ky ny ty Fy Ay By Cy ay uy cy))
    ⟨((Below.refl _ _).alloc (Nat.le_refl _) _).alloc (by simp) _, (Row.new _ _ _).alloc _, Row.newAt (by simp)⟩ ?_
  generalize w.heap.size + 1 = gy at *
  obtain ⟨gx, hgx⟩ : ∃ g, w.heap.size = g := ⟨_, rfl⟩
  rintro Y ⟨hb, rx, ry⟩
  rw [hgx] at rx
  rw [hgx]
  have HB := Lib.hid hb; clear hb hgx
  obtain ⟨a0, a1, a2, a3, a4, a5, a6, a7⟩ := row8 rx
  obtain ⟨b0, b1, b2, b3, b4, b5, b6, b7⟩ := row8 ry
  have HX := Lib.hid rx; clear rx
  have HY := Lib.hid ry; clear ry
  by_cases ht : ty ≤ tx
  · have HF := Lib.hid (show z = false by rw [← HZ.out]; unfold pls; rw [decide_eq_false_iff_not]; simp only [sgr]; omega)
    go_wp2_with fail
    go_ret
    exact ⟨by rw [HZ.out, HF.out]; rfl, HB.out⟩
  · have HZ2 := Lib.hid (show z = decide (1440 * (hp (nod Fx Ax Bx Cx) (nod Fy Ay By Cy) : Int) ≤ h * (ty - tx) + 1440) by rw [← HZ.out]; unfold pls; exact decide_eq_decide.2 ⟨fun h => h.2, fun h => ⟨by show tx < ty; omega, h⟩⟩)
    go_wp2_with fail
    refine (refNearest8_any Fx Ax Bx Cx _).mono ?_
    rintro e w1 ⟨hcase, hb1⟩
    obtain rfl : e = .returned (.tuple #[.int .i64 (nod Fx Ax Bx Cx : Nat), .int .i64 0]) := by
      rcases hcase with ⟨-, h⟩ | ⟨h, -⟩
      · exact h
      · rw [vx] at h; cases h
    clear hcase a0 a1 a2 a3 a4 a5 a6 a7 b0 b1 b2 b3 b4 b5 b6 b7
    have HB1 := Lib.hid (HB.out.trans (hb1.mono HB.out.size))
    have HX1 := Lib.hid (HX.out.under hb1)
    have HY1 := Lib.hid (HY.out.under hb1)
    obtain ⟨b0, b1, b2, b3, b4, b5, b6, b7⟩ := row8 HY1.out
    clear hb1 HX HY HB
    go_wp2_with fail
    refine (refNearest8_any Fy Ay By Cy _).mono ?_
    rintro e w2 ⟨hcase, hb1⟩
    obtain rfl : e = .returned (.tuple #[.int .i64 (nod Fy Ay By Cy : Nat), .int .i64 0]) := by
      rcases hcase with ⟨-, h⟩ | ⟨h, -⟩
      · exact h
      · rw [vy] at h; cases h
    clear hcase b0 b1 b2 b3 b4 b5 b6 b7
    have HB2 := Lib.hid (HB1.out.trans (hb1.mono HB1.out.size))
    have HX2 := Lib.hid (HX1.out.under hb1)
    have HY2 := Lib.hid (HY1.out.under hb1)
    clear hb1 HX1 HY1 HB1
    have hd := hp_le hx1 hy1
    have HFR := Lib.hid (fun (W : World) (hW : Nb W g 8) => fromList_any 8 g cap (nod Fx Ax Bx Cx) (hp (nod Fx Ax Bx Cx)) W frq8 (by rw [cn8]; exact hx1) hW (hp_far hx1) (fun x hx => by rw [cn8] at hx; have := hp_le hx1 hx; omega) (by rw [cn8]; exact hc1) hc2)
    rw [cn8] at HFR
    generalize nod Fx Ax Bx Cx = nx' at *
    generalize nod Fy Ay By Cy = ny' at *
    have i0 : (0 : Int) ≤ (ny' : Int) := by omega
    have i1 : (ny' : Int) < 642 := by omega
    have hm0 : 0 ≤ h * (ty - tx) := Int.mul_nonneg h1 (by omega)
    have hm1 : h * (ty - tx) ≤ 1000 * 52595999 := Int.mul_le_mul h2 (by omega) (by omega) (by omega)
    have w0 : IntKind.i64.wrap (ty - tx) = ty - tx := IntWalk.i64_in _ (by omega)
    have w1' : IntKind.i64.wrap (h * (ty - tx)) = h * (ty - tx) := by
      generalize h * (ty - tx) = q at *
      exact IntWalk.i64_in _ (by omega)
    have w2' : IntKind.i64.wrap (h * (ty - tx) + 1440) = h * (ty - tx) + 1440 := by
      generalize h * (ty - tx) = q at *
      exact IntWalk.i64_in _ (by omega)
    go_upto_region 5 with fail
    obtain ⟨-, -, a2, -, -, -, -, -⟩ := row8 HX2.out
    obtain ⟨-, -, b2, -, -, -, -, -⟩ := row8 HY2.out
    refine wp_region_held_drew (S := fun w' : World => w'.cell? ⟨gx, 2, none⟩ = some (.int .i64 tx) ∧ w'.cell? ⟨gy, 2, none⟩ = some (.int .i64 ty)) (by kernel_rfl) ⟨a2, b2⟩ (fun hHeld => ?_)
    refine tk 0 (oi := ⟨some 30, _, _, _, _, none⟩) rfl ?_
    try go_frame
    refine tk 1 (oi := ⟨some 31, _, _, _, _, none⟩) rfl ?_
    try go_frame
    refine tk 3 (oi := ⟨some 33, _, _, _, _, none⟩) rfl ?_
    try go_frame
    refine tk 7 (oi := ⟨some 37, _, _, _, _, none⟩) rfl ?_
    try go_frame
    refine tk 8 (oi := ⟨some 38, _, _, _, _, none⟩) rfl ?_
    try go_frame
    refine tk 9 (oi := ⟨some 39, _, _, _, _, none⟩) rfl ?_
    try go_frame
    refine tk 10 (oi := ⟨some 40, _, _, _, _, none⟩) rfl ?_
    try go_frame
    refine tk 11 (oi := ⟨some 41, _, _, _, _, none⟩) rfl ?_
    try go_frame
    refine tk 12 (oi := ⟨some 42, _, _, _, _, none⟩) rfl ?_
    try go_frame
    refine tk 13 (oi := ⟨some 43, _, _, _, _, none⟩) rfl ?_
    try go_frame
    refine tk 14 (oi := ⟨some 44, _, _, _, _, none⟩) rfl ?_
    try go_frame
    refine wpAnyH_ready (rs := [2]) (by kernel_rfl) (by simp) ?_
    refine AllReadyH.cons (o := ⟨some 32, _, _, _, _, none⟩) rfl (fun K hK => ?_) AllReadyH.nil
    have BD : Below w2.heap.size w2 w2.drew := ⟨rfl, rfl, rfl, Nat.le_refl _, fun _ _ => rfl⟩
    go_simp
    refine (HFR.out _ ((HN.out.under HB2.out).under BD)).mono ?_
    rintro e w3 ⟨gf, rfl, hb3, -, hns⟩
    rw [cn8] at hns ⊢
    have BD3 := BD.trans (hb3.mono BD.size)
    have HX3 := Lib.hid (HX2.out.under BD3)
    have HY3 := Lib.hid (HY2.out.under BD3)
    have HB3 := Lib.hid (HB2.out.trans (BD3.mono HB2.out.size))
    have HNS := Lib.hid hns
    clear hns hb3 BD BD3 HX2 HY2 HB2 HFR hHeld a2 b2
    go_wp2_with fail
    obtain ⟨-, -, a2, -, -, -, -, -⟩ := row8 HX3.out
    obtain ⟨-, -, b2, -, -, -, -, -⟩ := row8 HY3.out
    refine hK.out _ _ ⟨a2, b2⟩ (fun hHeld => ?_)
    clear hK K
    try simp only [Act.put]
    refine tk 4 (oi := ⟨some 34, _, _, _, _, none⟩) rfl ?_
    try go_frame
    refine wpAnyH_ready (rs := [5]) (by kernel_rfl) (by simp) ?_
    refine AllReadyH.cons (o := ⟨some 35, _, _, _, _, none⟩) rfl (fun K hK => ?_) AllReadyH.nil
    have cc := (HNS.out.at_ (i := ny') hy1).1
    generalize hp nx' ny' = d at *
    have w3' : IntKind.i64.wrap (1440 * (d : Int)) = 1440 * (d : Int) := IntWalk.i64_in _ (by omega)
    go_simp
    refine hK.out _ _ ⟨a2, b2⟩ (fun hHeld2 => ?_)
    clear hK K cc
    try simp only [Act.put]
    refine tk 6 (oi := ⟨some 36, _, _, _, _, none⟩) rfl ?_
    try go_frame
    refine tk 15 (oi := ⟨some 45, _, _, _, _, none⟩) rfl ?_
    try go_frame
    refine tk 16 (oi := ⟨some 8, _, _, _, _, none⟩) rfl ?_
    try go_frame
    refine wpAnyH_done (by kernel_rfl) ?_ _
    clear hHeld hHeld2 a2 b2
    go_wp2_with fail
    go_ret
    exact ⟨by rw [HZ.out, HZ2.out]; rfl, HB3.out⟩
end Go.Proofs.YtejoabaanclcbaaGreat.Tk


namespace Go.Proofs.YtejoabaanclcbaaGreat.Tk
open Go.RowKit

theorem RqIn.row {V : World} {g : Nat} {R : List Rq} (h : Row V g 35 (rqc R).toArray) (hl : R.length ≤ 100000) : RqIn V (.slice (some ⟨g, 0, none⟩) R.length R.length) R := by
  refine ⟨some ⟨g, 0, none⟩, R.length, rfl, Nat.le_refl _, by omega, fun i hi => ⟨g, 0, rfl, h.lt, ?_⟩⟩
  have k : ∀ j < 8, V.cell? ⟨g, 0 + i * 8 + j, none⟩ = (rqCells R[i])[j]? := fun j hj => by
    rw [h.cell, List.getElem?_toArray, Nat.zero_add]
    exact rqc_at R i hi j hj
  exact ⟨k 0 (by omega), k 1 (by omega), k 2 (by omega), k 3 (by omega), k 4 (by omega), k 5 (by omega), k 6 (by omega), k 7 (by omega)⟩
/-- What Plausible answers. -/
noncomputable def plB (h : Int) (a b : Rq) : Bool := (okr a && okr b) && (decide (0 ≤ h ∧ h ≤ 1000) && pls h (sgr a 0) (sgr b 0))
theorem plB_no {h : Int} {a b : Rq} (hn : ¬ ((0 ≤ h ∧ h ≤ 1000) ∧ oks (fun _ => true) [a, b])) : plB h a b = false := by
  unfold plB
  cases ha : okr a
  · rfl
  cases hb : okr b
  · rfl
  by_cases hh : 0 ≤ h ∧ h ≤ 1000
  · exact absurd ⟨hh, fun r hr _ => by
      rcases List.mem_cons.1 hr with rfl | hr
      · exact ha
      · rcases List.mem_cons.1 hr with rfl | hr
        · exact hb
        · cases hr⟩ hn
  · rw [decide_eq_false hh]
    rfl
theorem plB_yes {h : Int} {a b : Rq} (hy : (0 ≤ h ∧ h ≤ 1000) ∧ oks (fun _ => true) [a, b]) : plB h a b = pls h (sgr a 0) (sgr b 0) := by
  unfold plB
  rw [hy.2 a (by simp) rfl, hy.2 b (by simp) rfl, decide_eq_true hy.1]
  rfl
set_option maxRecDepth 100000 in
set_option maxHeartbeats 4000000 in
theorem plausibleP_any (kx : Int) (nx : ByteArray) (tx Fx Ax Bx Cx : Int) (ax : Option Addr) (ux cx : Nat) (ky : Int) (ny : ByteArray) (ty Fy Ay By Cy : Int) (ay : Option Addr) (uy cy : Nat) (h : Int) (w : World) :
    Calls Tryz.prog 19 #[rqV kx nx tx Fx Ax Bx Cx ax ux cx, rqV ky ny ty Fy Ay By Cy ay uy cy, .int .i64 h] w fun e w' => e = .returned (.bool (plB h ⟨kx, nx, tx, Fx, Ax, Bx, Cx, ax, ux, cx⟩ ⟨ky, ny, ty, Fy, Ay, By, Cy, ay, uy, cy⟩)) ∧ Below w.heap.size w w' := by
  obtain ⟨z, hz⟩ : ∃ z, plB h ⟨kx, nx, tx, Fx, Ax, Bx, Cx, ax, ux, cx⟩ ⟨ky, ny, ty, Fy, Ay, By, Cy, ay, uy, cy⟩ = z := ⟨_, rfl⟩
  have HZ := Lib.hid hz
  clear hz
  go_enter Tryz.func19, Tryz.ntmps19
  go_upto_region 1 with fail
  refine forget (fun Y => Below w.heap.size w Y ∧ Row Y w.heap.size 35 (rqC kx nx tx Fx Ax Bx Cx ax ux cx) ∧ Row Y (w.heap.size + 1) 35 (rqC ky ny ty Fy Ay By Cy ay uy cy))
    ⟨((Below.refl _ _).alloc (Nat.le_refl _) _).alloc (by simp) _, (Row.new _ _ _).alloc _, Row.newAt (by simp)⟩ ?_
  generalize w.heap.size + 1 = gy at *
  obtain ⟨gx, hgx⟩ : ∃ g, w.heap.size = g := ⟨_, rfl⟩
  rintro Y ⟨hb, rx, ry⟩
  rw [hgx] at rx
  rw [hgx]
  clear hgx
  obtain ⟨a0, a1, a2, a3, a4, a5, a6, a7⟩ := row8 rx
  obtain ⟨b0, b1, b2, b3, b4, b5, b6, b7⟩ := row8 ry
  have HB := Lib.hid (hb.alloc hb.size (.cells (rqc [⟨kx, nx, tx, Fx, Ax, Bx, Cx, ax, ux, cx⟩, ⟨ky, ny, ty, Fy, Ay, By, Cy, ay, uy, cy⟩]).toArray 35))
  have HR := Lib.hid (show RqIn (Y.alloc (.cells (rqc [⟨kx, nx, tx, Fx, Ax, Bx, Cx, ax, ux, cx⟩, ⟨ky, ny, ty, Fy, Ay, By, Cy, ay, uy, cy⟩]).toArray 35)) (.slice (some ⟨Y.heap.size, 0, none⟩) 2 2) [⟨kx, nx, tx, Fx, Ax, Bx, Cx, ax, ux, cx⟩, ⟨ky, ny, ty, Fy, Ay, By, Cy, ay, uy, cy⟩] from RqIn.row (Row.new _ _ _) (by simp))
  clear rx ry hb
  go_wp2_with fail
  refine (sightings_all _ _ h _ HR.out (by simp)).mono ?_
  rintro e w1 ⟨hcase, hb1⟩
  have HB1 := Lib.hid (HB.out.trans (hb1.mono HB.out.size))
  clear a0 a1 a2 a3 a4 a5 a6 a7 b0 b1 b2 b3 b4 b5 b6 b7 hb1 HB HR
  rcases hcase with ⟨hy, v, rfl, ho⟩ | ⟨hn, rfl⟩
  · have HZ2 := Lib.hid ((plB_yes hy).symm.trans HZ.out)
    have hg1 := sgr_gd (i := 0) (hy.2 _ (List.mem_cons_self ..) rfl)
    have hg2 := sgr_gd (i := 1) (hy.2 _ (List.mem_cons_of_mem _ (List.mem_cons_self ..)) rfl)
    obtain ⟨A, cap, hv, hc1, hc2, hat⟩ := SgIn.own ho
    subst hv
    obtain ⟨g, rfl, hg, h0⟩ := hat 0 (by simp [sgl])
    obtain ⟨g', e', -, h1⟩ := hat 1 (by simp [sgl])
    obtain rfl : g = g' := by injection e' with e'; injection e'
    clear hat e' ho
    have hh := hy.1
    simp only [sgl, if_true, List.getElem_cons_zero, List.getElem_cons_succ, List.length_cons, List.length_nil, sgr] at h0 h1 hc1 HZ2 hg1 hg2 ⊢
    clear hy
    have HPL := Lib.hid (fun W => plausible_any nx tx (nod Fx Ax Bx Cx) 0 ny ty (nod Fy Ay By Cy) (0 + 1) h W hg1 hg2 hh)
    generalize nod Fx Ax Bx Cx = n1 at *
    generalize nod Fy Ay By Cy = n2 at *
    obtain ⟨a0, a1, a2, a3⟩ := h0
    obtain ⟨b0, b1, b2, b3⟩ := h1
    simp only at a0 a1 a2 a3 b0 b1 b2 b3
    go_upto_region 2 with fail
    have hb2 := Below.refl w1.drew.heap.size w1.drew
    refine wp_region_held_drew (S := fun w' : World => (w'.cell? ⟨g, 0, none⟩ = some (.string nx) ∧ w'.cell? ⟨g, 1, none⟩ = some (.int .i64 tx) ∧ w'.cell? ⟨g, 2, none⟩ = some (.int .i64 (n1 : Nat)) ∧ w'.cell? ⟨g, 3, none⟩ = some (.int .i64 (0 : Nat))) ∧ w'.cell? ⟨g, 4, none⟩ = some (.string ny) ∧ w'.cell? ⟨g, 5, none⟩ = some (.int .i64 ty) ∧ w'.cell? ⟨g, 6, none⟩ = some (.int .i64 (n2 : Nat)) ∧ w'.cell? ⟨g, 7, none⟩ = some (.int .i64 ((0 + 1 : Nat) : Nat))) (by kernel_rfl) ⟨⟨a0, a1, a2, a3⟩, b0, b1, b2, b3⟩ (fun hHeld => ?_)
    refine tk 0 (oi := ⟨some 17, _, _, _, _, none⟩) rfl ?_
    try go_frame
    refine tk 1 (oi := ⟨some 18, _, _, _, _, none⟩) rfl ?_
    try go_frame
    refine tk 2 (oi := ⟨some 19, _, _, _, _, none⟩) rfl ?_
    try go_frame
    refine tk 3 (oi := ⟨some 20, _, _, _, _, some _⟩) rfl ?_
    try go_frame
    refine tk 4 (oi := ⟨some 21, _, _, _, _, some _⟩) rfl ?_
    try go_frame
    refine tk 5 (oi := ⟨some 22, _, _, _, _, some _⟩) rfl ?_
    try go_frame
    refine tk 6 (oi := ⟨some 23, _, _, _, _, some _⟩) rfl ?_
    try go_frame
    refine tk 7 (oi := ⟨some 24, _, _, _, _, some _⟩) rfl ?_
    try go_frame
    refine tk 8 (oi := ⟨some 25, _, _, _, _, some _⟩) rfl ?_
    try go_frame
    refine tk 9 (oi := ⟨some 26, _, _, _, _, some _⟩) rfl ?_
    try go_frame
    refine wpAnyH_ready (rs := [10]) (by kernel_rfl) (by simp) ?_
    refine AllReadyH.cons (o := ⟨some 27, _, _, _, _, some _⟩) rfl (fun K hK => ?_) AllReadyH.nil
    go_simp
    refine (HPL.out _).mono ?_
    rintro e w2 ⟨rfl, hb3⟩
    have BD : Below w1.heap.size w1 w1.drew := ⟨rfl, rfl, rfl, Nat.le_refl _, fun _ _ => rfl⟩
    have BD3 := BD.trans (hb3.mono BD.size)
    have HB3 := Lib.hid (HB1.out.trans (BD3.mono HB1.out.size))
    have kc : ∀ j, w2.cell? ⟨g, j, none⟩ = w1.cell? ⟨g, j, none⟩ := fun j => BD3.cell (p := ⟨g, j, none⟩) hg
    have hS9 := Lib.hid (show (w2.cell? ⟨g, 0, none⟩ = some (.string nx) ∧ w2.cell? ⟨g, 1, none⟩ = some (.int .i64 tx) ∧ w2.cell? ⟨g, 2, none⟩ = some (.int .i64 (n1 : Nat)) ∧ w2.cell? ⟨g, 3, none⟩ = some (.int .i64 (0 : Nat))) ∧ w2.cell? ⟨g, 4, none⟩ = some (.string ny) ∧ w2.cell? ⟨g, 5, none⟩ = some (.int .i64 ty) ∧ w2.cell? ⟨g, 6, none⟩ = some (.int .i64 (n2 : Nat)) ∧ w2.cell? ⟨g, 7, none⟩ = some (.int .i64 ((0 + 1 : Nat) : Nat)) from
      ⟨⟨(kc 0).trans a0, (kc 1).trans a1, (kc 2).trans a2, (kc 3).trans a3⟩, (kc 4).trans b0, (kc 5).trans b1, (kc 6).trans b2, (kc 7).trans b3⟩)
    clear hb3 BD BD3 hHeld kc a0 a1 a2 a3 b0 b1 b2 b3 hg hb2
    go_wp2_with fail
    refine hK.out _ _ hS9.out (fun hHeld => ?_)
    clear hK K
    try simp only [Act.put]
    refine tk 11 (oi := ⟨some 28, _, _, _, _, none⟩) rfl ?_
    try go_frame
    refine tk 12 (oi := ⟨some 6, _, _, _, _, none⟩) rfl ?_
    try go_frame
    refine wpAnyH_done (by kernel_rfl) ?_ _
    clear hHeld
    go_wp2_with fail
    go_ret
    exact ⟨by rw [HZ.out, ← HZ2.out]; rfl, HB3.out⟩
  · have HF := Lib.hid ((plB_no hn).symm.trans HZ.out)
    clear hn
    go_upto_region 2 with fail
    have BD : Below w1.heap.size w1 w1.drew := ⟨rfl, rfl, rfl, Nat.le_refl _, fun _ _ => rfl⟩
    have HB3 := Lib.hid (HB1.out.trans (BD.mono HB1.out.size))
    refine wp_region_held_drew (S := fun _ : World => True) (by kernel_rfl) trivial (fun hHeld => ?_)
    refine tk 0 (oi := ⟨some 17, _, _, _, _, none⟩) rfl ?_
    try go_frame
    refine tk 1 (oi := ⟨some 18, _, _, _, _, none⟩) rfl ?_
    try go_frame
    refine tk 2 (oi := ⟨some 19, _, _, _, _, none⟩) rfl ?_
    try go_frame
    refine sk 3 (oi := ⟨some 20, _, _, _, _, some _⟩) rfl ?_
    try go_frame
    refine sk 4 (oi := ⟨some 21, _, _, _, _, some _⟩) rfl ?_
    try go_frame
    refine sk 5 (oi := ⟨some 22, _, _, _, _, some _⟩) rfl ?_
    try go_frame
    refine sk 6 (oi := ⟨some 23, _, _, _, _, some _⟩) rfl ?_
    try go_frame
    refine sk 7 (oi := ⟨some 24, _, _, _, _, some _⟩) rfl ?_
    try go_frame
    refine sk 8 (oi := ⟨some 25, _, _, _, _, some _⟩) rfl ?_
    try go_frame
    refine sk 9 (oi := ⟨some 26, _, _, _, _, some _⟩) rfl ?_
    try go_frame
    refine sk 10 (oi := ⟨some 27, _, _, _, _, some _⟩) rfl ?_
    try go_frame
    refine tk 11 (oi := ⟨some 28, _, _, _, _, none⟩) rfl ?_
    try go_frame
    refine tk 12 (oi := ⟨some 6, _, _, _, _, none⟩) rfl ?_
    try go_frame
    refine wpAnyH_done (by kernel_rfl) ?_ _
    clear hHeld BD
    go_wp2_with fail
    go_ret
    exact ⟨by rw [HZ.out, ← HF.out]; rfl, HB3.out⟩
end Go.Proofs.YtejoabaanclcbaaGreat.Tk


namespace Go.Proofs.YtejoabaanclcbaaGreat.Tk
open Go.RowKit

theorem sgl_full : ∀ (R : List Rq) (i : Nat), (sgl (fun _ => true) i R).length = R.length
  | [], _ => rfl
  | r :: R, i => by simp [sgl, sgl_full R (i + 1)]
theorem sgl_get : ∀ (R : List Rq) (i j : Nat) (h : j < (sgl (fun _ => true) i R).length) (h' : j < R.length), (sgl (fun _ => true) i R)[j] = ⟨R[j].nm, R[j].t, nod R[j].F R[j].A R[j].B R[j].C, i + j⟩
  | r :: R, i, 0, _, _ => by simp [sgl]
  | r :: R, i, j + 1, h, h' => by
    have := sgl_get R (i + 1) j (by simpa [sgl] using h) (by simpa using h')
    simp only [sgl, if_true, List.getElem_cons_succ]
    rw [this, show i + 1 + j = i + (j + 1) by omega]
/-- What is plausible among reports. -/
noncomputable def pR (h : Int) (R : List Rq) (i j : Nat) : Bool := match R[i]?, R[j]? with
  | some x, some y => pls h (sgr x 0) (sgr y 0)
  | _, _ => false
theorem pR_at {h : Int} {R : List Rq} {i j : Nat} (hi : i < R.length) (hj : j < R.length) : pR h R i j = pls h (sgr R[i] 0) (sgr R[j] 0) := by
  unfold pR
  rw [List.getElem?_eq_getElem hi, List.getElem?_eq_getElem hj]
theorem pL_pR {h : Int} {R : List Rq} {i j : Nat} (hij : i < j) (hj : j < R.length) : pL h (sgl (fun _ => true) 0 R) i j = pR h R i j := by
  have hn := sgl_full R 0
  rw [pL_at (by omega) (by omega), pR_at (by omega) hj, sgl_get R 0 i (by omega) (by omega), sgl_get R 0 j (by omega) hj]
  rfl
theorem chf_lt {n : Nat} {P : Nat → Nat → Bool} : ∀ m i, i < n → m = ln n P i → ∀ x ∈ chf n P m i, x < n
  | 0, i, hi, hm, x, hx => by cases hx
  | m + 1, i, hi, hm, x, hx => by
    rcases List.mem_cons.1 hx with rfl | hx
    · exact hi
    · by_cases h1 : ln n P i = 1
      · obtain rfl : m = 0 := by omega
        cases hx
      · obtain ⟨k1, k2, k3, k4, k5⟩ := nx_yes hi h1
        exact chf_lt m _ k2 (by omega) x hx
theorem best_lt {n : Nat} {P : Nat → Nat → Bool} {l : List Nat} (h : Best n P l) : ∀ x ∈ l, x < n := by
  rcases h with ⟨-, rfl⟩ | ⟨s, hs, rfl⟩
  · intro x hx; cases hx
  · exact chf_lt _ s hs.1.2 rfl
theorem ixs_full {R : List Rq} {l : List Nat} (h : ∀ x ∈ l, x < R.length) : ixs (sgl (fun _ => true) 0 R) l = l := by
  unfold ixs
  conv => rhs; rw [← List.map_id l]
  refine List.map_congr_left fun x hx => ?_
  have hn := sgl_full R 0
  have hx' := h x hx
  rw [List.getElem?_eq_getElem (by omega), sgl_get R 0 x (by omega) hx']
  simp
/-- The times of reports ascend. -/
def ascR (R : List Rq) : Prop := ∀ i, ∀ h : i + 1 < R.length, R[i].t < R[i + 1].t
theorem asc_iff (R : List Rq) : ascP (sgl (fun _ => true) 0 R) ↔ ascR R := by
  have hn := sgl_full R 0
  constructor
  · intro h i hi
    have := h i (by omega) (by omega)
    rw [sgl_get R 0 i (by omega) (by omega), sgl_get R 0 (i + 1) (by omega) hi] at this
    exact this
  · intro h i h1 h2
    rw [sgl_get R 0 i (by omega) (by omega), sgl_get R 0 (i + 1) (by omega) (by omega)]
    exact h i (by omega)
/-- What Chain says: the chain and the error. -/
def CTag (h : Int) (R : List Rq) (l : List Nat) (c : Int) : Prop :=
  (30 < R.length ∧ l = [] ∧ c = 2) ∨ (R.length ≤ 30 ∧ ¬ ((0 ≤ h ∧ h ≤ 1000) ∧ oks (fun _ => true) R) ∧ l = [] ∧ c = 1) ∨
  (R.length ≤ 30 ∧ ((0 ≤ h ∧ h ≤ 1000) ∧ oks (fun _ => true) R) ∧ ¬ ascR R ∧ l = [] ∧ c = 8) ∨
  (R.length ≤ 30 ∧ ((0 ≤ h ∧ h ≤ 1000) ∧ oks (fun _ => true) R) ∧ ascR R ∧ Best R.length (pR h R) l ∧ c = 0)
theorem ctag_one {h : Int} {R : List Rq} {l l' : List Nat} {c c' : Int} (h1 : CTag h R l c) (h2 : CTag h R l' c') : l = l' ∧ c = c' := by
  rcases h1 with ⟨a, rfl, rfl⟩ | ⟨a, b, rfl, rfl⟩ | ⟨a, b, d, rfl, rfl⟩ | ⟨a, b, d, e, rfl⟩ <;> rcases h2 with ⟨a', rfl, rfl⟩ | ⟨a', b', rfl, rfl⟩ | ⟨a', b', d', rfl, rfl⟩ | ⟨a', b', d', e', rfl⟩ <;>
    first
      | exact ⟨rfl, rfl⟩
      | (exfalso; omega)
      | (exfalso; first | exact b b' | exact b' b | exact d d' | exact d' d)
      | exact ⟨best_uniq e e', rfl⟩
def CAns (h : Int) (R : List Rq) (w : World) (e : Ending) (w' : World) : Prop := ∃ (l : List Nat) (c : Int) (v : Value), CTag h R l c ∧ e = .returned (.tuple #[v, .int .i64 c]) ∧ IlIn w' v l ∧ Below w.heap.size w w'
theorem sgl_gd {p : Int → Bool} : ∀ (R : List Rq) (i : Nat), oks p R → ∀ x ∈ sgl p i R, Gd x
  | [], _, _, x, hx => by cases hx
  | r :: R, i, ho, x, hx => by
    simp only [sgl] at hx
    have hr : oks p R := fun y hy => ho y (List.mem_cons_of_mem _ hy)
    split at hx
    · rename_i hp
      rcases List.mem_cons.1 hx with rfl | hx
      · have := sgr_gd (i := i) (ho r (List.mem_cons_self ..) hp)
        exact this
      · exact sgl_gd R (i + 1) hr x hx
    · exact sgl_gd R (i + 1) hr x hx
set_option maxRecDepth 100000 in
set_option maxHeartbeats 4000000 in
theorem chainP_any (v : Value) (R : List Rq) (h : Int) (w : World) (hR : RqIn w v R) (hl : R.length ≤ 100000) :
    Calls Tryz.prog 14 #[v, .int .i64 h] w (CAns h R w) := by
  have hRR := hR
  obtain ⟨A, cap, rfl, hc1, hc2, -⟩ := hR
  have HR := Lib.hid hRR; clear hRR
  by_cases h30 : 30 < R.length
  · have k0 : (30 : Int) < (R.length : Int) := by omega
    go_enter Tryz.func14, Tryz.ntmps14
    go_wp2_with fail
    go_ret2
    exact ⟨[], 2, _, .inl ⟨h30, rfl, rfl⟩, rfl, il_nil _, Below.refl _ _⟩
  · have k0 : ¬ (30 : Int) < (R.length : Int) := by omega
    have H30 := Lib.hid (Nat.not_lt.1 h30); clear h30
    go_enter Tryz.func14, Tryz.ntmps14
    go_wp2_with fail
    refine (sightings_all _ R h w HR.out hl).mono ?_
    rintro e w1 ⟨⟨hy, u, rfl, ho⟩ | ⟨hn, rfl⟩, hb⟩
    · have HY := Lib.hid hy; clear hy
      have HB := Lib.hid hb; clear hb
      have hsl : (sgl (fun _ => true) 0 R).length ≤ 100000 := by rw [sgl_full]; exact hl
      have HS := Lib.hid (SgIn.own ho); clear ho
      have HAS := Lib.hid (asc_iff R)
      have HGD := Lib.hid (sgl_gd R 0 HY.out.2)
      have HFU := Lib.hid (sgl_full R 0)
      have HPP := Lib.hid (fun (i j : Nat) (h1 : i < j) (h2 : j < R.length) => pL_pR (h := h) (R := R) h1 h2)
      have HIX := Lib.hid (fun (l : List Nat) (hl : ∀ x ∈ l, x < R.length) => ixs_full (R := R) hl)
      generalize sgl (fun _ => true) 0 R = L at *
      go_wp2_with fail
      refine (ascending_any u L w1 HS.out hsl).mono ?_
      rintro e w2 ⟨⟨b, rfl, hb⟩, hb2⟩
      have HBB := Lib.hid hb; clear hb
      have HS2 := Lib.hid (HS.out.under hb2)
      have HB2 := Lib.hid (HB.out.trans (hb2.mono HB.out.size)); clear hb2
      cases b
      · have HNA := Lib.hid (show ¬ ascR R from fun h => by have := HBB.out.2 (HAS.out.2 h); cases this)
        go_wp2_with fail
        go_ret2
        exact ⟨[], 8, _, .inr (.inr (.inl ⟨H30.out, HY.out, HNA.out, rfl, rfl⟩)), rfl, il_nil _, HB2.out⟩
      · have HNA := Lib.hid (show ascR R from HAS.out.1 (HBB.out.1 rfl))
        go_wp2_with fail
        refine (chain_any u L h w2 HS2.out hsl HGD.out HY.out.1).mono ?_
        rintro e w3 ⟨l, v3, hB, rfl, hil, hb3⟩
        have HB3 := Lib.hid (HB2.out.trans (hb3.mono HB2.out.size)); clear hb3
        have HBE := Lib.hid (show Best R.length (pR h R) l from by
          have h9 := hB
          rw [HFU.out] at h9
          exact best_congr HPP.out h9)
        have HIL := Lib.hid (show IlIn w3 v3 l from by
          have h9 := hil.zero
          rwa [HIX.out l (best_lt HBE.out)] at h9)
        clear hil hB
        go_wp2_with fail
        go_ret2
        exact ⟨l, 0, v3, .inr (.inr (.inr ⟨H30.out, HY.out, HNA.out, HBE.out, rfl⟩)), rfl, HIL.out, HB3.out⟩
    · have HN := Lib.hid hn; clear hn
      have HB := Lib.hid hb; clear hb
      go_wp2_with fail
      go_ret2
      exact ⟨[], 1, _, .inr (.inl ⟨H30.out, HN.out, rfl, rfl⟩), rfl, il_nil _, HB.out⟩
end Go.Proofs.YtejoabaanclcbaaGreat.Tk

