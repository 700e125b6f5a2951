/- The walk of GroupFormats. -/
import Derived.Test.YtkdjmgdgpbmmpaaGreatDoorMzw
import Derived.Test.YtkdjmgdgpbmmpaaGreatDoorMzf
namespace Go.Proofs.YtkdjmgdgpbmmpaaGreatDoor
open Go.RowKit

set_option maxRecDepth 100000 in
set_option maxHeartbeats 40000000 in
theorem groupFormats_any (kx : Int) (nx : ByteArray) (tx fx ax qx cx : Int) (vx : Value) (Lx : List El.Elt.R) (ky : Int) (ny : ByteArray) (ty fy ay qy cy : Int) (vy : Value) (Ly : List El.Elt.R) (v : Value) (near : Int) (w : World) (hE : Env w) (hl : ListIn w v) (hx : El.RdIn w vx Lx) (hy : El.RdIn w vy Ly) :
    Calls Tryz.prog 3 #[repV kx nx tx fx ax qx cx vx, repV ky ny ty fy ay qy cy vy, v, .int .i64 near] w fun e w' => e = .returned (.bool true) ∧ Below w.heap.size w w' := by
  obtain ⟨Sx, ux, rfl, -⟩ := id hx
  obtain ⟨Sy, uy, rfl, -⟩ := id hy
  have HE := Lib.hid hE; clear hE
  obtain ⟨sx, hsx⟩ : ∃ s, (decide (nx.size ≤ 40) && decide (Lx.length ≤ 40)) = s := ⟨_, rfl⟩
  obtain ⟨sy, hsy⟩ : ∃ s, (decide (ny.size ≤ 40) && decide (Ly.length ≤ 40)) = s := ⟨_, rfl⟩
  have HX := Lib.hid (And.intro hx hsx); clear hx hsx
  have HY := Lib.hid (And.intro hy hsy); clear hy hsy
  have HL := Lib.hid hl; clear hl
  go_enter Tryz.func3, Tryz.ntmps3
  go_upto_region 1 with fail
  refine forget (fun Y => Below w.heap.size w Y ∧ Row Y w.heap.size 26 (repC kx nx tx fx ax qx cx (.slice Sx Lx.length ux)) ∧ Row Y (w.heap.size + 1) 26 (repC ky ny ty fy ay qy cy (.slice Sy Ly.length uy)))
    ⟨((Below.refl _ _).alloc (Nat.le_refl _) _).alloc (by simp) _, (Row.new _ _ _).alloc _, Row.newAt (by simp)⟩ ?_
  obtain ⟨gx, hgx⟩ : ∃ g, w.heap.size = g := ⟨_, rfl⟩
  obtain ⟨gy, hgy⟩ : ∃ g, w.heap.size + 1 = g := ⟨_, rfl⟩
  rw [hgy]
  rintro Y ⟨bY, rx, ry⟩
  rw [hgx] at rx
  rw [hgx]
  clear hgx hgy
  obtain ⟨p0, p1, p2, p3, p4, p5, p6, p7⟩ := row8 rx
  go_wp2_with fail
  refine (small_k _ _ _ _ _ _ _ _ _ sx w _ HX.out.1 HX.out.2 bY).mono ?_
  rintro e w1 ⟨rfl, gY⟩
  replace bY := bY.trans (gY.mono bY.size)
  replace rx := rx.under gY
  replace ry := ry.under gY
  clear p0 p1 p2 p3 p4 p5 p6 p7 gY
  cases sx
  · go_wp2_with fail
    refine (awake_from (w0 := w) _ (HE.out.under bY) bY).mono ?_
    rintro e w2 ⟨rfl, gQ⟩
    go_wp2_with fail
    go_ret
    exact ⟨rfl, gQ⟩
  obtain ⟨p0, p1, p2, p3, p4, p5, p6, p7⟩ := row8 ry
  go_wp2_with fail
  refine (small_k _ _ _ _ _ _ _ _ _ sy w _ HY.out.1 HY.out.2 bY).mono ?_
  rintro e w1 ⟨rfl, gY⟩
  replace bY := bY.trans (gY.mono bY.size)
  replace rx := rx.under gY
  replace ry := ry.under gY
  clear p0 p1 p2 p3 p4 p5 p6 p7 gY
  cases sy
  · go_wp2_with fail
    refine (awake_from (w0 := w) _ (HE.out.under bY) bY).mono ?_
    rintro e w2 ⟨rfl, gQ⟩
    go_wp2_with fail
    go_ret
    exact ⟨rfl, gQ⟩
  have NX := Lib.hid (show nx.size ≤ 40 from of_decide_eq_true (Bool.and_eq_true_iff.1 HX.out.2).1)
  have NY := Lib.hid (show ny.size ≤ 40 from of_decide_eq_true (Bool.and_eq_true_iff.1 HY.out.2).1)
  go_wp2_with fail
  refine (new_any _ _ (HL.out.under bY)).mono ?_
  rintro e w2 ⟨rfl, s1, -⟩
  go_wp2_with fail
  refine (minute_any _ _ _ s1).mono ?_
  rintro e w3 ⟨m, ⟨m1, m2⟩, rfl, s2, -⟩
  go_wp2_with fail
  refine (report_any _ _ _ m s2 m1 m2).mono ?_
  rintro e w4 ⟨kr, nr, tr, fr, ar, qr, cr, vr, Lr, hVr, -, rfl, hG⟩
  obtain ⟨Sr, ur, rfl, -⟩ := id (El.RdIn.own hG.own)
  have hl11 := vld_len hVr.list
  have hn40 := hVr.short
  have hcb := hVr.cbd
  have HXr := Lib.hid (HX.out.1.under bY)
  have HYr := Lib.hid (HY.out.1.under bY)
  have RX := Lib.hid rx
  have RY := Lib.hid ry
  have BY := Lib.hid bY
  have hba := (Below.refl w4.heap.size w4).alloc (Nat.le_refl _) (.cells (repC kr nr tr fr ar qr cr (.slice Sr Lr.length ur)) 26)
  have G1 := hG.under hba
  have R1 := Row.new w4 (repC kr nr tr fr ar qr cr (.slice Sr Lr.length ur)) 26
  have hrb := Nat.ne_of_gt (src_lt hG.src)
  go_upto_region 6 with fail
  clear s1 s2 rx ry bY HX HY HL hG hba hVr
  generalize w4.alloc (.cells (repC kr nr tr fr ar qr cr (.slice Sr Lr.length ur)) 26) = w5 at *
  obtain ⟨gr, hgr⟩ : ∃ g, w4.heap.size = g := ⟨_, rfl⟩
  rw [hgr] at R1 hrb ⊢
  clear hgr
  have G2 := Lib.hid (G1.under (show Below w5.heap.size w5 w5.drew from ⟨rfl, rfl, rfl, Nat.le_refl _, fun _ _ => rfl⟩))
  have R2 := Lib.hid R1.drew
  clear G1 R1
  refine wp_region_held_drew (S := fun w' : World => (w'.cell? ⟨gx, 0, none⟩ = some (.int .i64 kx) ∧ w'.cell? ⟨gx, 1, none⟩ = some (.string nx) ∧ w'.cell? ⟨gx, 2, none⟩ = some (.int .i64 tx) ∧ w'.cell? ⟨gx, 3, none⟩ = some (.int .i64 fx) ∧ w'.cell? ⟨gx, 4, none⟩ = some (.int .i64 ax) ∧ w'.cell? ⟨gx, 5, none⟩ = some (.int .i64 qx) ∧ w'.cell? ⟨gx, 6, none⟩ = some (.int .i64 cx) ∧ w'.cell? ⟨gx, 7, none⟩ = some (.slice Sx Lx.length ux)) ∧ (w'.cell? ⟨gr, 0, none⟩ = some (.int .i64 kr) ∧ w'.cell? ⟨gr, 1, none⟩ = some (.string nr) ∧ w'.cell? ⟨gr, 2, none⟩ = some (.int .i64 tr) ∧ w'.cell? ⟨gr, 3, none⟩ = some (.int .i64 fr) ∧ w'.cell? ⟨gr, 4, none⟩ = some (.int .i64 ar) ∧ w'.cell? ⟨gr, 5, none⟩ = some (.int .i64 qr) ∧ w'.cell? ⟨gr, 6, none⟩ = some (.int .i64 cr) ∧ w'.cell? ⟨gr, 7, none⟩ = some (.slice Sr Lr.length ur))) (by kernel_rfl) ⟨row8 (RX.out.under G2.out.src.below), row8 R2.out⟩ (fun hHeld => ?_)
  generalize w5.drew = wd at *
  refine wpAnyH_take (i := 0) (v := ?_) rfl (by kernel_rfl) (by kernel_rfl) (by kernel_rfl) (fun _ _ _ h => h) (Or.inl ⟨by rfl, ?_⟩) (by assumption) ?_
  case refine_2 => (intro wx hSx; (try dsimp only at hSx); go_simp; first | done | with_reducible rfl)
  try simp only [Act.put, List.setIfInBounds_toArray, List.set_cons_zero, List.set_cons_succ]
  refine wpAnyH_take (i := 1) (v := ?_) rfl (by kernel_rfl) (by kernel_rfl) (by kernel_rfl) (fun _ _ _ h => h) (Or.inl ⟨by rfl, ?_⟩) (by assumption) ?_
  case refine_2 => (intro wx hSx; (try dsimp only at hSx); go_simp; first | done | with_reducible rfl)
  try simp only [Act.put, List.setIfInBounds_toArray, List.set_cons_zero, List.set_cons_succ]
  refine wpAnyH_take (i := 2) (v := ?_) rfl (by kernel_rfl) (by kernel_rfl) (by kernel_rfl) (fun _ _ _ h => h) (Or.inl ⟨by rfl, ?_⟩) (by assumption) ?_
  case refine_2 => (intro wx hSx; (try dsimp only at hSx); go_simp; first | done | with_reducible rfl)
  try simp only [Act.put, List.setIfInBounds_toArray, List.set_cons_zero, List.set_cons_succ]
  refine wpAnyH_take (i := 3) (v := ?_) rfl (by kernel_rfl) (by kernel_rfl) (by kernel_rfl) (fun _ _ _ h => h) (Or.inl ⟨by rfl, ?_⟩) (by assumption) ?_
  case refine_2 => (intro wx hSx; (try dsimp only at hSx); go_simp; first | done | with_reducible rfl)
  try simp only [Act.put, List.setIfInBounds_toArray, List.set_cons_zero, List.set_cons_succ]
  refine wpAnyH_take (i := 5) (v := ?_) rfl (by kernel_rfl) (by kernel_rfl) (by kernel_rfl) (fun _ _ _ h => h) (Or.inl ⟨by rfl, ?_⟩) (by assumption) ?_
  case refine_2 => (intro wx hSx; (try dsimp only at hSx); go_simp; first | done | with_reducible rfl)
  try simp only [Act.put, List.setIfInBounds_toArray, List.set_cons_zero, List.set_cons_succ]
  refine wpAnyH_take (i := 6) (v := ?_) rfl (by kernel_rfl) (by kernel_rfl) (by kernel_rfl) (fun _ _ _ h => h) (Or.inl ⟨by rfl, ?_⟩) (by assumption) ?_
  case refine_2 => (intro wx hSx; (try dsimp only at hSx); go_simp; first | done | with_reducible rfl)
  try simp only [Act.put, List.setIfInBounds_toArray, List.set_cons_zero, List.set_cons_succ]
  refine wpAnyH_take (i := 10) (oi := ⟨some 46, _, _, _, _, none⟩) (v := ?_) rfl (by kernel_rfl) (by kernel_rfl) (by kernel_rfl) (fun _ _ _ h => h) (Or.inl ⟨by rfl, ?_⟩) (by assumption) ?_
  case refine_2 => (intro wx hSx; (try dsimp only at hSx); go_simp; first | done | with_reducible rfl)
  try simp only [Act.put, List.setIfInBounds_toArray, List.set_cons_zero, List.set_cons_succ]
  refine wpAnyH_ready (rs := [4]) (by kernel_rfl) (by simp) ?_
  refine AllReadyH.cons (o := ⟨some 40, _, _, _, _, none⟩) rfl (fun K hK => ?_) AllReadyH.nil
  go_simp
  refine (bent_any _ _ _ kr nr tr fr ar qr cr _ Lr G2.out.src (El.RdIn.own G2.out.own) hl11 hn40 hcb).mono ?_
  rintro e w6 ⟨kb, nb, tb, fb, ab, qb, cb, vb, Lb, hnb, hlb, rfl, hGb⟩
  obtain ⟨Sb, ub, rfl, -⟩ := id (El.RdIn.own hGb.own)
  have R3 := Lib.hid (R2.out.grown hGb.gro (fun e => hrb (by injection e)))
  have G3 := Lib.hid (G2.out.step hGb.src hGb.gro)
  go_wp2_with fail
  refine hK.out _ _ ⟨row8 (RX.out.under hGb.src.below), row8 R3.out⟩ (fun hHeld2 => ?_)
  clear hK K hHeld R2 G2
  try simp only [Act.put, List.setIfInBounds_toArray, List.set_cons_zero, List.set_cons_succ]
  refine wpAnyH_ready (rs := [7]) (by kernel_rfl) (by simp) ?_
  refine AllReadyH.cons (o := ⟨some 43, _, _, _, _, none⟩) rfl (fun K hK => ?_) AllReadyH.nil
  go_simp
  refine (report_any _ _ _ m hGb.src m1 m2).mono ?_
  rintro e w7 ⟨kd, nd, td, fd, ad, qd, cd, vd, Ld, hVd, -, rfl, hGd⟩
  obtain ⟨Sd, ud, rfl, -⟩ := id (El.RdIn.own hGd.own)
  have hnd := hVd.short
  have R4 := Lib.hid (R3.out.grown hGd.gro (fun e => hrb (by injection e)))
  have DR := Lib.hid (El.RdIn.own (G3.out.step hGd.src hGd.gro).own)
  have DB := Lib.hid (El.RdIn.own (hGb.step hGd.src hGd.gro).own)
  have DD := Lib.hid (El.RdIn.own hGd.own)
  have BS := Lib.hid hGd.src.below
  go_wp2_with fail
  refine hK.out _ _ ⟨row8 (RX.out.under BS.out), row8 R4.out⟩ (fun hHeld3 => ?_)
  clear hK K hHeld2 R3 G3 hGb hGd hVd
  try simp only [Act.put, List.setIfInBounds_toArray, List.set_cons_zero, List.set_cons_succ]
  refine wpAnyH_ready (rs := [8]) (by kernel_rfl) (by simp) ?_
  refine AllReadyH.cons (o := ⟨some 44, _, _, _, _, none⟩) rfl (fun K hK => ?_) AllReadyH.nil
  go_simp
  refine hK.out _ _ ⟨row8 ((RX.out.under BS.out).alloc _), row8 (R4.out.alloc _)⟩ (fun hHeld4 => ?_)
  clear hK K hHeld3
  try simp only [Act.put, List.setIfInBounds_toArray, List.set_cons_zero, List.set_cons_succ]
  refine wpAnyH_take (i := 9) (oi := ⟨some 45, _, _, _, _, none⟩) (v := ?_) rfl (by kernel_rfl) (by kernel_rfl) (by kernel_rfl) (fun _ _ _ h => h) (Or.inl ⟨by rfl, ?_⟩) (by assumption) ?_
  case refine_2 => (intro wx hSx; (try dsimp only at hSx); go_simp; first | done | with_reducible rfl)
  try simp only [Act.put, List.setIfInBounds_toArray, List.set_cons_zero, List.set_cons_succ]
  clear hHeld4
  refine El.genH (fun V => Below w7.heap.size w7 V ∧ Row V w7.heap.size 26 (rpc [⟨kx, nx, tx, fx, ax, qx, cx, .slice Sx Lx.length ux, Lx⟩, ⟨kr, nr, tr, fr, ar, qr, cr, .slice Sr Lr.length ur, Lr⟩, ⟨kb, nb, tb, fb, ab, qb, cb, .slice Sb Lb.length ub, Lb⟩, ⟨kd, nd, td, fd, ad, qd, cd, .slice Sd Ld.length ud, Ld⟩]).toArray) ⟨(Below.refl _ _).alloc (Nat.le_refl _) _, Row.new _ _ _⟩ ?_
  rintro V ⟨bV, oV⟩
  refine wpAnyH_done (by kernel_rfl) ?_ _
  have HV := Lib.hid (Reps.of (n := 4) oV rfl (by
    intro r hr
    simp only [List.mem_cons, List.not_mem_nil, or_false] at hr
    rcases hr with rfl | rfl | rfl | rfl
    · exact ⟨(HXr.out.under BS.out).under bV, NX.out⟩
    · exact ⟨DR.out.under bV, hn40⟩
    · exact ⟨DB.out.under bV, hnb⟩
    · exact ⟨DD.out.under bV, hnd⟩))
  have EX := Lib.hid ((HXr.out.under BS.out).under bV)
  have EY := Lib.hid ((HYr.out.under BS.out).under bV)
  have ER := Lib.hid (DR.out.under bV)
  have QX := Lib.hid ((RX.out.under BS.out).under bV)
  have QY := Lib.hid ((RY.out.under BS.out).under bV)
  have QR := Lib.hid (R4.out.under bV)
  have BV := Lib.hid (BY.out.trans ((BS.out.trans (bV.mono BS.out.size)).mono BY.out.size))
  have NR := Lib.hid hn40
  clear bV oV BS DR DB DD R4 hnd hnb hlb hl11 hcb hrb HXr HYr RX RY BY m1 m2 hn40
  generalize w7.heap.size = g4 at *
  go_wp2_with fail
  go_loopw [46] (fun t wr => ∃ i : Nat, i ≤ 4 ∧ t = .int .i64 i ∧ Below V.heap.size V wr) (fun t _ => 4 - (intOf t).toNat)
  case atStart => exact ⟨0, by omega, rfl, Below.refl _ _⟩
  case round =>
    obtain ⟨i, hi, rfl, hB⟩ := hrel
    by_cases hlt : i < 4
    · skip
      have i0a : (0 : Int) ≤ (i : Int) := by omega
      have i1a : (i : Int) < 4 := by omega
      obtain ⟨⟨ka, na, ta, fa, aa, qa, ca, va, La⟩, hca, hra, hna⟩ := HV.out.2 i hlt
      have hca' := hca.under HV.out.1 hB
      obtain ⟨Sa, ua, hva, -⟩ := id hra
      simp only at hva
      subst hva
      obtain ⟨p0, p1, p2, p3, p4, p5, p6, p7⟩ := hca'
      simp only at p0 p1 p2 p3 p4 p5 p6 p7 hna
      have Ha := Lib.hid hra
      have HBa := Lib.hid hB
      clear hra hca hB
      go_upto_region 9 with fail
      refine forget (fun Y => Below V.heap.size V Y ∧ Row Y wr.heap.size 26 (repC ka na ta fa aa qa ca (.slice Sa La.length ua))) ⟨HBa.out.alloc HBa.out.size _, Row.new _ _ _⟩ ?_
      clear p0 p1 p2 p3 p4 p5 p6 p7 HBa i0a i1a
      generalize wr.heap.size = ga at *
      rintro Ya ⟨bY, ra⟩
      have FA := Lib.hid (fun W h => fmt_from ⟨ka, na, ta, fa, aa, qa, ca, .slice Sa La.length ua, La⟩ Ya W (Ha.out.under bY) ((HE.out.under BV.out).under bY) h)
      have FB := Lib.hid (fun W h => rfmt_from ⟨ka, na, ta, fa, aa, qa, ca, .slice Sa La.length ua, La⟩ Ya W (Ha.out.under bY) hna h)
      have FC := Lib.hid (fun w0 W h0 h => val_from ⟨ka, na, ta, fa, aa, qa, ca, .slice Sa La.length ua, La⟩ w0 W (Ha.out.under h0) ((HE.out.under BV.out).under h0) h)
      have FD := Lib.hid (fun w0 W h0 h => rval_from ⟨ka, na, ta, fa, aa, qa, ca, .slice Sa La.length ua, La⟩ w0 W (Ha.out.under h0) hna h)
      have FE := Lib.hid (fun n w0 W h0 h => rd_from ⟨ka, na, ta, fa, aa, qa, ca, .slice Sa La.length ua, La⟩ n w0 W (Ha.out.under h0) ((HE.out.under BV.out).under h0) h)
      have FF := Lib.hid (fun n w0 W h0 h => rrd_from ⟨ka, na, ta, fa, aa, qa, ca, .slice Sa La.length ua, La⟩ n w0 W (Ha.out.under h0) hna h)
      generalize Rp.text ⟨ka, na, ta, fa, aa, qa, ca, .slice Sa La.length ua, La⟩ = sa at *
      generalize Rp.code ⟨ka, na, ta, fa, aa, qa, ca, .slice Sa La.length ua, La⟩ = oa at *
      generalize Rp.rdk ⟨ka, na, ta, fa, aa, qa, ca, .slice Sa La.length ua, La⟩ = rk at *
      have qs : (sa.toList == sa.toList) = true := beq_self_eq_true _
      have qc : (oa != oa) = false := by simp
      obtain ⟨p0, p1, p2, p3, p4, p5, p6, p7⟩ := row8 ra
      go_wp2_with fail
      refine (FA.out _ (Below.refl _ _)).mono ?_
      rintro e wy ⟨rfl, g1⟩
      clear p0 p1 p2 p3 p4 p5 p6 p7
      obtain ⟨p0, p1, p2, p3, p4, p5, p6, p7⟩ := row8 (ra.under g1)
      go_wp2_with fail
      refine (FB.out _ g1).mono ?_
      rintro e wz ⟨rfl, g2⟩
      have BZ := Lib.hid (bY.trans (g2.mono bY.size))
      have RZ := Lib.hid (ra.under g2)
      clear p0 p1 p2 p3 p4 p5 p6 p7 g1 g2 bY ra FA FB
      go_upto_region 11 with fail
      have hb2 := Below.refl wz.drew.heap.size wz.drew
      have BZD : Hid (Below V.heap.size V wz.drew) := Lib.hid ((BZ.out.trans ⟨rfl, rfl, rfl, Nat.le_refl _, fun _ _ => rfl⟩))
      obtain ⟨p0, p1, p2, p3, p4, p5, p6, p7⟩ := row8 RZ.out.drew
      go_region_held3 (fun w' => w'.cell? ⟨ga, 0, none⟩ = some (.int .i64 ka) ∧ w'.cell? ⟨ga, 1, none⟩ = some (.string na) ∧ w'.cell? ⟨ga, 2, none⟩ = some (.int .i64 ta) ∧ w'.cell? ⟨ga, 3, none⟩ = some (.int .i64 fa) ∧ w'.cell? ⟨ga, 4, none⟩ = some (.int .i64 aa) ∧ w'.cell? ⟨ga, 5, none⟩ = some (.int .i64 qa) ∧ w'.cell? ⟨ga, 6, none⟩ = some (.int .i64 ca) ∧ w'.cell? ⟨ga, 7, none⟩ = some (.slice Sa La.length ua))
        (first | go_keep | exact row8 (RZ.out.drew.under hb2))
        (first
          | (go_at_call 24; refine (FC.out wz.drew _ BZD.out hb2).mono ?_; clear hb2; rintro e w3 ⟨rfl, hb2⟩)
          | (go_at_call 25; refine (FD.out wz.drew _ BZD.out hb2).mono ?_; clear hb2; rintro e w3 ⟨rfl, hb2⟩)
          | (go_at_call 26; refine (FE.out _ wz.drew _ BZD.out hb2).mono ?_; clear hb2; rintro e w3 ⟨rfl, hb2⟩)
          | (go_at_call 27; refine (FF.out _ wz.drew _ BZD.out hb2).mono ?_; clear hb2; rintro e w3 ⟨rfl, hb2⟩))
      have hq := (undrew hb2).mono BZ.out.size
      have bQ := BZ.out.trans hq
      have rQ := RZ.out.under (undrew hb2)
      clear p0 p1 p2 p3 p4 p5 p6 p7 hq BZ RZ BZD FC FD FE FF
      obtain ⟨p0, p1, p2, p3, p4, p5, p6, p7⟩ := row8 (QX.out.under bQ)
      obtain ⟨d0, d1, d2, d3, d4, d5, d6, d7⟩ := row8 (QY.out.under bQ)
      obtain ⟨e0, e1, e2, e3, e4, e5, e6, e7⟩ := row8 (QR.out.under bQ)
      have B3 := Lib.hid (bQ.alloc bQ.size (.cells (rpc [⟨kx, nx, tx, fx, ax, qx, cx, .slice Sx Lx.length ux, Lx⟩, ⟨ky, ny, ty, fy, ay, qy, cy, .slice Sy Ly.length uy, Ly⟩, ⟨kr, nr, tr, fr, ar, qr, cr, .slice Sr Lr.length ur, Lr⟩]).toArray 26))
      have R3 := Lib.hid (rQ.alloc (.cells (rpc [⟨kx, nx, tx, fx, ax, qx, cx, .slice Sx Lx.length ux, Lx⟩, ⟨ky, ny, ty, fy, ay, qy, cy, .slice Sy Ly.length uy, Ly⟩, ⟨kr, nr, tr, fr, ar, qr, cr, .slice Sr Lr.length ur, Lr⟩]).toArray 26))
      have N3 := Lib.hid (Row.new w3 (rpc [⟨kx, nx, tx, fx, ax, qx, cx, .slice Sx Lx.length ux, Lx⟩, ⟨ky, ny, ty, fy, ay, qy, cy, .slice Sy Ly.length uy, Ly⟩, ⟨kr, nr, tr, fr, ar, qr, cr, .slice Sr Lr.length ur, Lr⟩]).toArray 26)
      clear bQ rQ hb2
      go_wp2_with fail
      clear p0 p1 p2 p3 p4 p5 p6 p7 d0 d1 d2 d3 d4 d5 d6 d7 e0 e1 e2 e3 e4 e5 e6 e7
      go_loopw [98] (fun t wr => ∃ j : Nat, j ≤ 3 ∧ t = .int .i64 j ∧ Below V.heap.size V wr ∧ Row wr ga 26 (repC ka na ta fa aa qa ca (.slice Sa La.length ua)) ∧ Row wr w3.heap.size 26 (rpc [⟨kx, nx, tx, fx, ax, qx, cx, .slice Sx Lx.length ux, Lx⟩, ⟨ky, ny, ty, fy, ay, qy, cy, .slice Sy Ly.length uy, Ly⟩, ⟨kr, nr, tr, fr, ar, qr, cr, .slice Sr Lr.length ur, Lr⟩]).toArray) (fun t _ => 3 - (intOf t).toNat)
      case atStart => exact ⟨0, by omega, rfl, B3.out, R3.out, N3.out⟩
      case round =>
        clear B3 R3 N3
        obtain ⟨j, hj, rfl, hB, hA, hR⟩ := hrel
        by_cases hlt2 : j < 3
        · skip
          have i0b : (0 : Int) ≤ (j : Int) := by omega
          have i1b : (j : Int) < 3 := by omega
          obtain ⟨⟨ke, ne, te, fe, ae, qe, ce, ve, Le⟩, hce, hre, -⟩ := (Reps.of (n := 3) hR rfl (by
            intro r hr
            simp only [List.mem_cons, List.not_mem_nil, or_false] at hr
            rcases hr with rfl | rfl | rfl
            · exact ⟨EX.out.under hB, NX.out⟩
            · exact ⟨EY.out.under hB, NY.out⟩
            · exact ⟨ER.out.under hB, NR.out⟩)).2 j hlt2
          obtain ⟨Se, ue, hve, -⟩ := id hre
          simp only at hve
          subst hve
          obtain ⟨p0, p1, p2, p3, p4, p5, p6, p7⟩ := hce
          simp only at p0 p1 p2 p3 p4 p5 p6 p7
          have HBb := Lib.hid hB
          have HRa := Lib.hid hA
          have HRr := Lib.hid hR
          have He := Lib.hid hre
          have Hw := Lib.hid (Ha.out.under hB)
          clear hB hA hR hre
          go_upto_region 16 with fail
          refine forget (fun Y => Below wr.heap.size wr Y ∧ Row Y wr.heap.size 26 (repC ke ne te fe ae qe ce (.slice Se Le.length ue))) ⟨(Below.refl _ _).alloc (Nat.le_refl _) _, Row.new _ _ _⟩ ?_
          clear p0 p1 p2 p3 p4 p5 p6 p7 i0b i1b
          rintro Yb ⟨bY, re⟩
          have He2 := Lib.hid (He.out.under bY)
          have Ha2 := Lib.hid (Hw.out.under bY)
          have RA := Lib.hid (HRa.out.under bY)
          have RE := Lib.hid re
          have BR := Lib.hid (HBb.out.trans (bY.mono HBb.out.size))
          have RR := Lib.hid (HRr.out.under bY)
          clear He Hw HRa HRr HBb bY re
          generalize wr.heap.size = ge at *
          have FC := Lib.hid (fun w0 W hd h => same_from ⟨ka, na, ta, fa, aa, qa, ca, .slice Sa La.length ua, La⟩ ⟨ke, ne, te, fe, ae, qe, ce, .slice Se Le.length ue, Le⟩ w0 W (Ha2.out.under hd) (He2.out.under hd) h)
          have FD := Lib.hid (fun w0 W hd h => rsame_from ⟨ka, na, ta, fa, aa, qa, ca, .slice Sa La.length ua, La⟩ ⟨ke, ne, te, fe, ae, qe, ce, .slice Se Le.length ue, Le⟩ w0 W (Ha2.out.under hd) (He2.out.under hd) h)
          have FE := Lib.hid (fun w0 W hd h => cmp_from ⟨ka, na, ta, fa, aa, qa, ca, .slice Sa La.length ua, La⟩ ⟨ke, ne, te, fe, ae, qe, ce, .slice Se Le.length ue, Le⟩ w0 W (Ha2.out.under hd) (He2.out.under hd) h)
          have FF := Lib.hid (fun w0 W hd h => rcmp_from ⟨ka, na, ta, fa, aa, qa, ca, .slice Sa La.length ua, La⟩ ⟨ke, ne, te, fe, ae, qe, ce, .slice Se Le.length ue, Le⟩ w0 W (Ha2.out.under hd) (He2.out.under hd) h)
          clear Ha2 He2
          generalize cR2 ⟨ka, na, ta, fa, aa, qa, ca, .slice Sa La.length ua, La⟩ ⟨ke, ne, te, fe, ae, qe, ce, .slice Se Le.length ue, Le⟩ = k0 at *
          obtain ⟨sb, hsb⟩ : ∃ s, (k0 == 0) = s := ⟨_, rfl⟩
          rw [hsb] at FC FD
          clear hsb
          have q1 : (k0 != k0) = false := by simp
          have q2 : (sb != sb) = false := by cases sb <;> rfl
          have hD : Below Yb.heap.size Yb Yb.drew := ⟨rfl, rfl, rfl, Nat.le_refl _, fun _ _ => rfl⟩
          have BD := Lib.hid hD
          have hb2 := Below.refl Yb.drew.heap.size Yb.drew
          obtain ⟨p0, p1, p2, p3, p4, p5, p6, p7⟩ := row8 RA.out.drew
          obtain ⟨d0, d1, d2, d3, d4, d5, d6, d7⟩ := row8 RE.out.drew
          clear hD
          go_region_held3 (fun w' => (w'.cell? ⟨ga, 0, none⟩ = some (.int .i64 ka) ∧ w'.cell? ⟨ga, 1, none⟩ = some (.string na) ∧ w'.cell? ⟨ga, 2, none⟩ = some (.int .i64 ta) ∧ w'.cell? ⟨ga, 3, none⟩ = some (.int .i64 fa) ∧ w'.cell? ⟨ga, 4, none⟩ = some (.int .i64 aa) ∧ w'.cell? ⟨ga, 5, none⟩ = some (.int .i64 qa) ∧ w'.cell? ⟨ga, 6, none⟩ = some (.int .i64 ca) ∧ w'.cell? ⟨ga, 7, none⟩ = some (.slice Sa La.length ua)) ∧ (w'.cell? ⟨ge, 0, none⟩ = some (.int .i64 ke) ∧ w'.cell? ⟨ge, 1, none⟩ = some (.string ne) ∧ w'.cell? ⟨ge, 2, none⟩ = some (.int .i64 te) ∧ w'.cell? ⟨ge, 3, none⟩ = some (.int .i64 fe) ∧ w'.cell? ⟨ge, 4, none⟩ = some (.int .i64 ae) ∧ w'.cell? ⟨ge, 5, none⟩ = some (.int .i64 qe) ∧ w'.cell? ⟨ge, 6, none⟩ = some (.int .i64 ce) ∧ w'.cell? ⟨ge, 7, none⟩ = some (.slice Se Le.length ue)))
            (first | go_keep | exact ⟨row8 (RA.out.drew.under hb2), row8 (RE.out.drew.under hb2)⟩)
            (first
              | (go_at_call 28; refine (FC.out Yb.drew _ BD.out hb2).mono ?_; clear hb2; rintro e w4 ⟨rfl, hb2⟩)
              | (go_at_call 29; refine (FD.out Yb.drew _ BD.out hb2).mono ?_; clear hb2; rintro e w4 ⟨rfl, hb2⟩)
              | (go_at_call 30; refine (FE.out Yb.drew _ BD.out hb2).mono ?_; clear hb2; rintro e w4 ⟨rfl, hb2⟩)
              | (go_at_call 31; refine (FF.out Yb.drew _ BD.out hb2).mono ?_; clear hb2; rintro e w4 ⟨rfl, hb2⟩))
          have hq := (undrew hb2).mono BR.out.size
          have BQ := Lib.hid (BR.out.trans hq)
          have RA2 := Lib.hid (RA.out.under (undrew hb2))
          have RR2 := Lib.hid (RR.out.under (undrew hb2))
          clear p0 p1 p2 p3 p4 p5 p6 p7 d0 d1 d2 d3 d4 d5 d6 d7 hq hb2 BD FC FD FE FF RA RE RR BR
          go_wp2_with fail
          go_roundw
          case rel => exact ⟨j + 1, by omega, by go_num, BQ.out, RA2.out, RR2.out⟩
          case measure => simp [intOf]; omega
        · have k2 : ¬ (j : Int) < 3 := by omega
          have BYY := Lib.hid hB
          clear hB hA hR
          go_wp2_with fail
          go_roundw
          case rel => exact ⟨i + 1, by omega, by go_num, BYY.out⟩
          case measure => simp [intOf]; omega
    · have k1 : ¬ (i : Int) < 4 := by omega
      have BW := Lib.hid (BV.out.trans (hB.mono BV.out.size))
      clear hB
      go_wp2_with fail
      refine (awake_from (w0 := w) _ (HE.out.under BW.out) BW.out).mono ?_
      rintro e w2 ⟨rfl, gQ⟩
      go_wp2_with fail
      go_ret
      exact ⟨rfl, gQ⟩
end Go.Proofs.YtkdjmgdgpbmmpaaGreatDoor
