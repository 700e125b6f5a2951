/- The reference's Plausible. -/
import Derived.Test.YtejoabaanclcbaaGreatQau
namespace Go.Proofs.YtejoabaanclcbaaGreat.Tk
open Go.RowKit

set_option maxRecDepth 100000 in
set_option maxHeartbeats 8000000 in
theorem plausibleR_any (kx : Int) (nx : ByteArray) (tx Fx Ax Bx Cx : Int) (ax : Option Addr) (ux cx : Nat) (ky : Int) (ny : ByteArray) (ty Fy Ay By Cy : Int) (ay : Option Addr) (uy cy : Nat) (h : Int) (w : World) :
    Calls Tryz.prog 20 #[rqV kx nx tx Fx Ax Bx Cx ax ux cx, rqV ky ny ty Fy Ay By Cy ay uy cy, .int .i64 h] w fun e w' => e = .returned (.bool (plB h ⟨kx, nx, tx, Fx, Ax, Bx, Cx, ax, ux, cx⟩ ⟨ky, ny, ty, Fy, Ay, By, Cy, ay, uy, cy⟩)) ∧ Below w.heap.size w w' := by
  obtain ⟨z, hz⟩ : ∃ z, plB h ⟨kx, nx, tx, Fx, Ax, Bx, Cx, ax, ux, cx⟩ ⟨ky, ny, ty, Fy, Ay, By, Cy, ay, uy, cy⟩ = z := ⟨_, rfl⟩
  have HZ := Lib.hid hz
  clear hz
  go_enter Tryz.func20, Tryz.ntmps20
  go_upto_region 1 with fail
  refine forget (fun Y => Below w.heap.size w Y ∧ Row Y w.heap.size 35 (rqC kx nx tx Fx Ax Bx Cx ax ux cx) ∧ Row Y (w.heap.size + 1) 35 (rqC ky ny ty Fy Ay By Cy ay uy cy))
    ⟨((Below.refl _ _).alloc (Nat.le_refl _) _).alloc (by simp) _, (Row.new _ _ _).alloc _, Row.newAt (by simp)⟩ ?_
  generalize w.heap.size + 1 = gy at *
  obtain ⟨gx, hgx⟩ : ∃ g, w.heap.size = g := ⟨_, rfl⟩
  rintro Y ⟨hb, rx, ry⟩
  rw [hgx] at rx
  rw [hgx]
  clear hgx
  have HB := Lib.hid hb
  have HX := Lib.hid rx
  have HY := Lib.hid ry
  have BD := Lib.hid (show Below Y.heap.size Y Y.drew from ⟨rfl, rfl, rfl, Nat.le_refl _, fun _ _ => rfl⟩)
  have hb2 := Below.refl Y.drew.heap.size Y.drew
  refine wp_region_held_drew (S := (fun w' : World => (w'.cell? ⟨gx, 0, none⟩ = some (.int .i64 kx) ∧ w'.cell? ⟨gx, 1, none⟩ = some (.string nx) ∧ w'.cell? ⟨gx, 2, none⟩ = some (.int .i64 tx) ∧ w'.cell? ⟨gx, 3, none⟩ = some (.int .i64 Fx) ∧ w'.cell? ⟨gx, 4, none⟩ = some (.int .i64 Ax) ∧ w'.cell? ⟨gx, 5, none⟩ = some (.int .i64 Bx) ∧ w'.cell? ⟨gx, 6, none⟩ = some (.int .i64 Cx) ∧ w'.cell? ⟨gx, 7, none⟩ = some (.slice ax ux cx)) ∧ (w'.cell? ⟨gy, 0, none⟩ = some (.int .i64 ky) ∧ w'.cell? ⟨gy, 1, none⟩ = some (.string ny) ∧ w'.cell? ⟨gy, 2, none⟩ = some (.int .i64 ty) ∧ w'.cell? ⟨gy, 3, none⟩ = some (.int .i64 Fy) ∧ w'.cell? ⟨gy, 4, none⟩ = some (.int .i64 Ay) ∧ w'.cell? ⟨gy, 5, none⟩ = some (.int .i64 By) ∧ w'.cell? ⟨gy, 6, none⟩ = some (.int .i64 Cy) ∧ w'.cell? ⟨gy, 7, none⟩ = some (.slice ay uy cy)))) (by kernel_rfl) ⟨row8 rx, row8 ry⟩ (fun hHeld => ?_)
  clear rx ry hb
  refine tk 0 (oi := ⟨some 7, _, _, _, _, none⟩) rfl ?_
  try go_frame
  refine wpAnyH_ready (rs := [1]) (by kernel_rfl) (by simp) ?_
  refine AllReadyH.cons (o := ⟨some 8, _, _, _, _, none⟩) rfl (fun K hK => ?_) AllReadyH.nil
  go_simp
  refine (refValid12_any kx nx tx Fx Ax Bx Cx ax ux cx _).mono ?_
  rintro e w3 ⟨rfl, hb3⟩
  replace hb2 := hb2.trans (hb3.mono hb2.size)
  clear hb3
  go_wp2_with fail
  clear hHeld
  refine hK.out _ _ ⟨row8 (HX.out.under (BD.out.trans (hb2.mono BD.out.size))), row8 (HY.out.under (BD.out.trans (hb2.mono BD.out.size)))⟩ (fun hHeld => ?_)
  clear hK K
  try simp only [Act.put]
  cases va : okr ⟨kx, nx, tx, Fx, Ax, Bx, Cx, ax, ux, cx⟩
  · have HF := Lib.hid (show false = z by rw [← HZ.out]; unfold plB; rw [va]; rfl)
    refine tk 2 (oi := ⟨some 9, _, _, _, _, none⟩) rfl ?_
    try go_frame
    refine sk 3 (oi := ⟨some 10, _, _, _, _, some _⟩) rfl ?_
    try go_frame
    refine sk 4 (oi := ⟨some 11, _, _, _, _, some _⟩) rfl ?_
    try go_frame
    refine tk 5 (oi := ⟨some 12, _, _, _, _, none⟩) rfl ?_
    try go_frame
    refine tk 6 (oi := ⟨some 13, _, _, _, _, none⟩) rfl ?_
    try go_frame
    refine sk 7 (oi := ⟨some 14, _, _, _, _, some _⟩) rfl ?_
    try go_frame
    refine sk 8 (oi := ⟨some 15, _, _, _, _, some _⟩) rfl ?_
    try go_frame
    refine tk 9 (oi := ⟨some 16, _, _, _, _, none⟩) rfl ?_
    try go_frame
    refine tk 10 (oi := ⟨some 17, _, _, _, _, none⟩) rfl ?_
    try go_frame
    refine sk 11 (oi := ⟨some 18, _, _, _, _, some _⟩) rfl ?_
    try go_frame
    refine sk 12 (oi := ⟨some 19, _, _, _, _, some _⟩) rfl ?_
    try go_frame
    refine tk 13 (oi := ⟨some 20, _, _, _, _, none⟩) rfl ?_
    try go_frame
    refine tk 14 (oi := ⟨some 21, _, _, _, _, none⟩) rfl ?_
    try go_frame
    refine sk 15 (oi := ⟨some 22, _, _, _, _, some _⟩) rfl ?_
    try go_frame
    refine sk 16 (oi := ⟨some 23, _, _, _, _, some _⟩) rfl ?_
    try go_frame
    refine sk 17 (oi := ⟨some 24, _, _, _, _, some _⟩) rfl ?_
    try go_frame
    refine sk 18 (oi := ⟨some 25, _, _, _, _, some _⟩) rfl ?_
    try go_frame
    refine sk 19 (oi := ⟨some 26, _, _, _, _, some _⟩) rfl ?_
    try go_frame
    refine tk 20 (oi := ⟨some 27, _, _, _, _, none⟩) rfl ?_
    try go_frame
    refine tk 21 (oi := ⟨some 6, _, _, _, _, none⟩) rfl ?_
    try go_frame
    refine wpAnyH_done (by kernel_rfl) ?_ _
    have HB3 := Lib.hid (HB.out.trans ((BD.out.trans (hb2.mono BD.out.size)).mono HB.out.size))
    clear hHeld
    go_wp2_with fail
    go_ret
    exact ⟨by rw [HZ.out, ← HF.out]; rfl, HB3.out⟩
  refine tk 2 (oi := ⟨some 9, _, _, _, _, none⟩) rfl ?_
  try go_frame
  refine tk 3 (oi := ⟨some 10, _, _, _, _, some _⟩) rfl ?_
  try go_frame
  refine wpAnyH_ready (rs := [4]) (by kernel_rfl) (by simp) ?_
  refine AllReadyH.cons (o := ⟨some 11, _, _, _, _, some _⟩) rfl (fun K hK => ?_) AllReadyH.nil
  go_simp
  refine (refValid12_any ky ny ty Fy Ay By Cy ay uy cy _).mono ?_
  rintro e w3 ⟨rfl, hb3⟩
  replace hb2 := hb2.trans (hb3.mono hb2.size)
  clear hb3
  go_wp2_with fail
  clear hHeld
  refine hK.out _ _ ⟨row8 (HX.out.under (BD.out.trans (hb2.mono BD.out.size))), row8 (HY.out.under (BD.out.trans (hb2.mono BD.out.size)))⟩ (fun hHeld => ?_)
  clear hK K
  try simp only [Act.put]
  cases vb' : okr ⟨ky, ny, ty, Fy, Ay, By, Cy, ay, uy, cy⟩
  · have HF := Lib.hid (show false = z by rw [← HZ.out]; unfold plB; rw [va, vb']; rfl)
    refine tk 5 (oi := ⟨some 12, _, _, _, _, none⟩) rfl ?_
    try go_frame
    refine tk 6 (oi := ⟨some 13, _, _, _, _, none⟩) rfl ?_
    try go_frame
    refine sk 7 (oi := ⟨some 14, _, _, _, _, some _⟩) rfl ?_
    try go_frame
    refine sk 8 (oi := ⟨some 15, _, _, _, _, some _⟩) rfl ?_
    try go_frame
    refine tk 9 (oi := ⟨some 16, _, _, _, _, none⟩) rfl ?_
    try go_frame
    refine tk 10 (oi := ⟨some 17, _, _, _, _, none⟩) rfl ?_
    try go_frame
    refine sk 11 (oi := ⟨some 18, _, _, _, _, some _⟩) rfl ?_
    try go_frame
    refine sk 12 (oi := ⟨some 19, _, _, _, _, some _⟩) rfl ?_
    try go_frame
    refine tk 13 (oi := ⟨some 20, _, _, _, _, none⟩) rfl ?_
    try go_frame
    refine tk 14 (oi := ⟨some 21, _, _, _, _, none⟩) rfl ?_
    try go_frame
    refine sk 15 (oi := ⟨some 22, _, _, _, _, some _⟩) rfl ?_
    try go_frame
    refine sk 16 (oi := ⟨some 23, _, _, _, _, some _⟩) rfl ?_
    try go_frame
    refine sk 17 (oi := ⟨some 24, _, _, _, _, some _⟩) rfl ?_
    try go_frame
    refine sk 18 (oi := ⟨some 25, _, _, _, _, some _⟩) rfl ?_
    try go_frame
    refine sk 19 (oi := ⟨some 26, _, _, _, _, some _⟩) rfl ?_
    try go_frame
    refine tk 20 (oi := ⟨some 27, _, _, _, _, none⟩) rfl ?_
    try go_frame
    refine tk 21 (oi := ⟨some 6, _, _, _, _, none⟩) rfl ?_
    try go_frame
    refine wpAnyH_done (by kernel_rfl) ?_ _
    have HB3 := Lib.hid (HB.out.trans ((BD.out.trans (hb2.mono BD.out.size)).mono HB.out.size))
    clear hHeld
    go_wp2_with fail
    go_ret
    exact ⟨by rw [HZ.out, ← HF.out]; rfl, HB3.out⟩
  refine tk 5 (oi := ⟨some 12, _, _, _, _, none⟩) rfl ?_
  try go_frame
  refine tk 6 (oi := ⟨some 13, _, _, _, _, none⟩) rfl ?_
  try go_frame
  by_cases h0 : 0 ≤ h
  case neg =>
    have HF := Lib.hid (show false = z by rw [← HZ.out]; unfold plB; rw [va, vb', decide_eq_false (show ¬ (0 ≤ h ∧ h ≤ 1000) from fun x => h0 x.1)]; rfl)
    have d0 : decide (0 ≤ h) = false := decide_eq_false h0
    refine tk 7 (oi := ⟨some 14, _, _, _, _, some _⟩) rfl ?_
    try go_frame
    refine tk 8 (oi := ⟨some 15, _, _, _, _, some _⟩) rfl ?_
    try go_frame
    refine tk 9 (oi := ⟨some 16, _, _, _, _, none⟩) rfl ?_
    try go_frame
    refine tk 10 (oi := ⟨some 17, _, _, _, _, none⟩) rfl ?_
    try go_frame
    refine sk 11 (oi := ⟨some 18, _, _, _, _, some _⟩) rfl ?_
    try go_frame
    refine sk 12 (oi := ⟨some 19, _, _, _, _, some _⟩) rfl ?_
    try go_frame
    refine tk 13 (oi := ⟨some 20, _, _, _, _, none⟩) rfl ?_
    try go_frame
    refine tk 14 (oi := ⟨some 21, _, _, _, _, none⟩) rfl ?_
    try go_frame
    refine sk 15 (oi := ⟨some 22, _, _, _, _, some _⟩) rfl ?_
    try go_frame
    refine sk 16 (oi := ⟨some 23, _, _, _, _, some _⟩) rfl ?_
    try go_frame
    refine sk 17 (oi := ⟨some 24, _, _, _, _, some _⟩) rfl ?_
    try go_frame
    refine sk 18 (oi := ⟨some 25, _, _, _, _, some _⟩) rfl ?_
    try go_frame
    refine sk 19 (oi := ⟨some 26, _, _, _, _, some _⟩) rfl ?_
    try go_frame
    refine tk 20 (oi := ⟨some 27, _, _, _, _, none⟩) rfl ?_
    try go_frame
    refine tk 21 (oi := ⟨some 6, _, _, _, _, none⟩) rfl ?_
    try go_frame
    refine wpAnyH_done (by kernel_rfl) ?_ _
    have HB3 := Lib.hid (HB.out.trans ((BD.out.trans (hb2.mono BD.out.size)).mono HB.out.size))
    clear hHeld
    go_wp2_with fail
    go_ret
    exact ⟨by rw [HZ.out, ← HF.out]; rfl, HB3.out⟩
  have d0 : decide (0 ≤ h) = true := decide_eq_true h0
  refine tk 7 (oi := ⟨some 14, _, _, _, _, some _⟩) rfl ?_
  try go_frame
  refine tk 8 (oi := ⟨some 15, _, _, _, _, some _⟩) rfl ?_
  try go_frame
  refine tk 9 (oi := ⟨some 16, _, _, _, _, none⟩) rfl ?_
  try go_frame
  refine tk 10 (oi := ⟨some 17, _, _, _, _, none⟩) rfl ?_
  try go_frame
  by_cases h1 : h ≤ 1000
  case neg =>
    have HF := Lib.hid (show false = z by rw [← HZ.out]; unfold plB; rw [va, vb', decide_eq_false (show ¬ (0 ≤ h ∧ h ≤ 1000) from fun x => h1 x.2)]; rfl)
    have d1 : decide (h ≤ 1000) = false := decide_eq_false h1
    refine tk 11 (oi := ⟨some 18, _, _, _, _, some _⟩) rfl ?_
    try go_frame
    refine tk 12 (oi := ⟨some 19, _, _, _, _, some _⟩) rfl ?_
    try go_frame
    refine tk 13 (oi := ⟨some 20, _, _, _, _, none⟩) rfl ?_
    try go_frame
    refine tk 14 (oi := ⟨some 21, _, _, _, _, none⟩) rfl ?_
    try go_frame
    refine sk 15 (oi := ⟨some 22, _, _, _, _, some _⟩) rfl ?_
    try go_frame
    refine sk 16 (oi := ⟨some 23, _, _, _, _, some _⟩) rfl ?_
    try go_frame
    refine sk 17 (oi := ⟨some 24, _, _, _, _, some _⟩) rfl ?_
    try go_frame
    refine sk 18 (oi := ⟨some 25, _, _, _, _, some _⟩) rfl ?_
    try go_frame
    refine sk 19 (oi := ⟨some 26, _, _, _, _, some _⟩) rfl ?_
    try go_frame
    refine tk 20 (oi := ⟨some 27, _, _, _, _, none⟩) rfl ?_
    try go_frame
    refine tk 21 (oi := ⟨some 6, _, _, _, _, none⟩) rfl ?_
    try go_frame
    refine wpAnyH_done (by kernel_rfl) ?_ _
    have HB3 := Lib.hid (HB.out.trans ((BD.out.trans (hb2.mono BD.out.size)).mono HB.out.size))
    clear hHeld
    go_wp2_with fail
    go_ret
    exact ⟨by rw [HZ.out, ← HF.out]; rfl, HB3.out⟩
  have d1 : decide (h ≤ 1000) = true := decide_eq_true h1
  refine tk 11 (oi := ⟨some 18, _, _, _, _, some _⟩) rfl ?_
  try go_frame
  refine tk 12 (oi := ⟨some 19, _, _, _, _, some _⟩) rfl ?_
  try go_frame
  refine tk 13 (oi := ⟨some 20, _, _, _, _, none⟩) rfl ?_
  try go_frame
  refine tk 14 (oi := ⟨some 21, _, _, _, _, none⟩) rfl ?_
  try go_frame
  have HF := Lib.hid (show pls h (sgr ⟨kx, nx, tx, Fx, Ax, Bx, Cx, ax, ux, cx⟩ 0) (sgr ⟨ky, ny, ty, Fy, Ay, By, Cy, ay, uy, cy⟩ 0) = z by rw [← HZ.out]; unfold plB; rw [va, vb', decide_eq_true (show 0 ≤ h ∧ h ≤ 1000 from ⟨h0, h1⟩)]; rfl)
  have HV := Lib.hid (And.intro va vb')
  clear va vb'
  refine tk 16 (oi := ⟨some 23, _, _, _, _, some _⟩) rfl ?_
  try go_frame
  refine tk 17 (oi := ⟨some 24, _, _, _, _, some _⟩) rfl ?_
  try go_frame
  refine tk 18 (oi := ⟨some 25, _, _, _, _, some _⟩) rfl ?_
  try go_frame
  refine wpAnyH_ready (rs := [15]) (by kernel_rfl) (by simp) ?_
  refine AllReadyH.cons (o := ⟨some 22, _, _, _, _, some _⟩) rfl (fun K hK => ?_) AllReadyH.nil
  go_simp
  refine (around8_any _).mono ?_
  rintro e w3 ⟨g, cap, rfl, hc1, hc2, hb3, hnb⟩
  rw [cn8] at hc1 ⊢
  have HN := Lib.hid hnb
  replace hb2 := hb2.trans (hb3.mono hb2.size)
  clear hb3 hnb
  go_wp2_with fail
  clear hHeld
  refine hK.out _ _ ⟨row8 (HX.out.under (BD.out.trans (hb2.mono BD.out.size))), row8 (HY.out.under (BD.out.trans (hb2.mono BD.out.size)))⟩ (fun hHeld => ?_)
  clear hK K
  try simp only [Act.put]
  refine wpAnyH_ready (rs := [19]) (by kernel_rfl) (by simp) ?_
  refine AllReadyH.cons (o := ⟨some 26, _, _, _, _, some _⟩) rfl (fun K hK => ?_) AllReadyH.nil
  go_simp
  refine (refPlausible_any g cap kx nx tx Fx Ax Bx Cx ax ux cx ky ny ty Fy Ay By Cy ay uy cy h _ HN.out hc1 hc2 HV.out.1 HV.out.2 ⟨h0, h1⟩).mono ?_
  rintro e w3 ⟨rfl, hb3⟩
  replace hb2 := hb2.trans (hb3.mono hb2.size)
  clear hb3
  go_wp2_with fail
  clear hHeld
  refine hK.out _ _ ⟨row8 (HX.out.under (BD.out.trans (hb2.mono BD.out.size))), row8 (HY.out.under (BD.out.trans (hb2.mono BD.out.size)))⟩ (fun hHeld => ?_)
  clear hK K
  try simp only [Act.put]
  refine tk 20 (oi := ⟨some 27, _, _, _, _, none⟩) rfl ?_
  try go_frame
  refine tk 21 (oi := ⟨some 6, _, _, _, _, none⟩) rfl ?_
  try go_frame
  refine wpAnyH_done (by kernel_rfl) ?_ _
  have HB3 := Lib.hid (HB.out.trans ((BD.out.trans (hb2.mono BD.out.size)).mono HB.out.size))
  clear hHeld
  go_wp2_with fail
  go_ret
  exact ⟨by rw [HZ.out, ← HF.out]; rfl, HB3.out⟩
end Go.Proofs.YtejoabaanclcbaaGreat.Tk

