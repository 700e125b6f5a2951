/- The walk of GroupPlaces. -/
import Derived.Test.YtkdjmgdgpbmmpaaGreatDoorMzza
import Derived.Test.YtkdjmgdgpbmmpaaGreatDoorMzf
namespace Go.Proofs.YtkdjmgdgpbmmpaaGreatDoor
open Go.RowKit
open Ck (dig2 b10)

/-- What is known once the report has its place. -/
structure Pst (W : World) (b : Nat) (w0 : World) (gr gq : Nat) (k : Int) (nm : ByteArray) (t : Int) (f : Nat) (A : Int) (u : Value) (L : List El.Elt.R) (w : World) : Prop where
  gl : El.Gl W b w0 L u w
  rep : Row w gr 26 (repC k nm t (f : Int) A (840 - A) 0 u)
  pla : Row w gq 23 #[.int .i64 f, .int .i64 A, .int .i64 (840 - A), .int .i64 0]
  w0W : W.heap.size ≤ w0.heap.size
section
variable {W w0 w w' : World} {b gr gq : Nat} {k : Int} {nm : ByteArray} {t : Int} {f : Nat} {A : Int} {u : Value} {L : List El.Elt.R}
theorem Pst.under (h : Pst W b w0 gr gq k nm t f A u L w) (hb : Below w.heap.size w w') : Pst W b w0 gr gq k nm t f A u L w' :=
  ⟨h.gl.under hb, h.rep.under hb, h.pla.under hb, h.w0W⟩
theorem Pst.fill (h : Pst W b w0 gr gq k nm t f A u L w) {ga : Nat} {y0 y1 y2 y3 y4 y5 y6 y7 : Value} (D : Row w ga 26 #[y0, y1, y2, y3, y4, y5, y6, y7]) (hga : ga ≠ gr ∧ ga ≠ gq ∧ ga ≠ b ∧ w0.heap.size ≤ ga) (u0 u1 u2 u3 u4 u5 u6 u7 : Value) :
    Pst W b w0 gr gq k nm t f A u L ((((((((w.setCell ⟨ga, 0, none⟩ u0).setCell ⟨ga, 1, none⟩ u1).setCell ⟨ga, 2, none⟩ u2).setCell ⟨ga, 3, none⟩ u3).setCell ⟨ga, 4, none⟩ u4).setCell ⟨ga, 5, none⟩ u5).setCell ⟨ga, 6, none⟩ u6).setCell ⟨ga, 7, none⟩ u7) := by
  obtain ⟨n1, n2, n3, n4⟩ := hga
  have hne : some ga ≠ u.ownBlock := El.own_ne h.gl.own D (by decide)
  exact ⟨gl_set (gl_set (gl_set (gl_set (gl_set (gl_set (gl_set (gl_set h.gl ga 0 u0 h.w0W n4 n3 hne) ga 1 u1 h.w0W n4 n3 hne) ga 2 u2 h.w0W n4 n3 hne) ga 3 u3 h.w0W n4 n3 hne) ga 4 u4 h.w0W n4 n3 hne) ga 5 u5 h.w0W n4 n3 hne) ga 6 u6 h.w0W n4 n3 hne) ga 7 u7 h.w0W n4 n3 hne, set8_far u0 u1 u2 u3 u4 u5 u6 u7 h.rep n1, set8_far u0 u1 u2 u3 u4 u5 u6 u7 h.pla n2, h.w0W⟩
theorem Pst.of {k0 F0 A0 B0 C0 : Int} (gl : El.Gl W b w0 L u w) (rep : Row w gr 26 (repC k0 nm t F0 A0 B0 C0 u)) (pla : Row w gq 23 #[.int .i64 f, .int .i64 A, .int .i64 (840 - A), .int .i64 0])
    (h1 : gr ≠ gq) (h2 : gr ≠ b) (h3 : w0.heap.size ≤ gr) (h4 : W.heap.size ≤ w0.heap.size) (k : Int) :
    Pst W b w0 gr gq k nm t f A u L (((((w.setCell ⟨gr, 0, none⟩ (.int .i64 k)).setCell ⟨gr, 3, none⟩ (.int .i64 f)).setCell ⟨gr, 4, none⟩ (.int .i64 A)).setCell ⟨gr, 5, none⟩ (.int .i64 (840 - A))).setCell ⟨gr, 6, none⟩ (.int .i64 0)) := by
  have hne : some gr ≠ u.ownBlock := El.own_ne gl.own rep (by decide)
  have r1 : Row (w.setCell ⟨gr, 0, none⟩ (.int .i64 k)) gr 26 (repC k nm t F0 A0 B0 C0 u) := rep.put 0 _
  have r2 : Row ((w.setCell ⟨gr, 0, none⟩ (.int .i64 k)).setCell ⟨gr, 3, none⟩ (.int .i64 f)) gr 26 (repC k nm t f A0 B0 C0 u) := r1.put 3 _
  have r3 : Row (((w.setCell ⟨gr, 0, none⟩ (.int .i64 k)).setCell ⟨gr, 3, none⟩ (.int .i64 f)).setCell ⟨gr, 4, none⟩ (.int .i64 A)) gr 26 (repC k nm t f A B0 C0 u) := r2.put 4 _
  have r4 : Row ((((w.setCell ⟨gr, 0, none⟩ (.int .i64 k)).setCell ⟨gr, 3, none⟩ (.int .i64 f)).setCell ⟨gr, 4, none⟩ (.int .i64 A)).setCell ⟨gr, 5, none⟩ (.int .i64 (840 - A))) gr 26 (repC k nm t f A (840 - A) C0 u) := r3.put 5 _
  exact ⟨gl_set (gl_set (gl_set (gl_set (gl_set gl gr 0 _ h4 h3 h2 hne) gr 3 _ h4 h3 h2 hne) gr 4 _ h4 h3 h2 hne) gr 5 _ h4 h3 h2 hne) gr 6 _ h4 h3 h2 hne, r4.put 6 _,
    ((((pla.far (p := ⟨gr, 0, none⟩) h1 _).far (p := ⟨gr, 3, none⟩) h1 _).far (p := ⟨gr, 4, none⟩) h1 _).far (p := ⟨gr, 5, none⟩) h1 _).far (p := ⟨gr, 6, none⟩) h1 _, h4⟩
end
theorem el2_from (n : Int) (w0 w : World) (h1 : 0 ≤ n) (h2 : n ≤ 99) (hb : Below w0.heap.size w0 w) :
    Calls Tryz.prog 38 #[.int .i64 n] w fun e w' => e = .returned (.string (S (dig2 n))) ∧ Below w0.heap.size w0 w' :=
  (element2_any n w h1 h2).mono fun _ _ ⟨he, hg⟩ => ⟨he, hb.trans (hg.mono hb.size)⟩
theorem dg3_from (n : Int) (w0 w : World) (h1 : 0 ≤ n) (h2 : n ≤ 999) (hb : Below w0.heap.size w0 w) :
    Calls Tryz.prog 39 #[.int .i64 n] w fun e w' => e = .returned (.string (S (Pl.dig3 n))) ∧ Below w0.heap.size w0 w' :=
  (digits3_any n w h1 h2).mono fun _ _ ⟨he, hg⟩ => ⟨he, hb.trans (hg.mono hb.size)⟩
theorem dig3_len (n : Int) : (Pl.dig3 n).length = 3 := rfl
attribute [local go_sem] S_add S_size dig2_len dig3_len Ck.S_one
set_option maxRecDepth 100000 in
set_option maxHeartbeats 40000000 in
theorem groupPlaces_any (v : Value) (w : World) (hE : Env w) (hl : ListIn w v) :
    Calls Tryz.prog 8 #[v] w fun e w' => e = .returned (.bool true) ∧ Below w.heap.size w w' := by
  have HE := Lib.hid hE; clear hE
  go_enter Tryz.func8, Tryz.ntmps8
  go_wp2_with fail
  refine (new_any _ _ hl).mono ?_
  rintro e w1 ⟨rfl, s1, -⟩
  go_wp2_with fail
  refine (minute_any _ _ _ s1).mono ?_
  rintro e w2 ⟨m, hm, rfl, s2, -⟩
  go_wp2_with fail
  refine (report_any _ _ _ m s2 hm.1 hm.2).mono ?_
  rintro e w4 ⟨k0, nm, t, F0, A0, B0, C0, vr, L, hV, hnear, rfl, hG⟩
  obtain ⟨Sr, ur, rfl, -⟩ := id (El.RdIn.own hG.own)
  have HEW := HE
  have HM := Lib.hid hm
  have HV := Lib.hid hV
  have HN := Lib.hid hnear
  have HT := Lib.hid hV.time
  have hW := s2.below.size
  clear hm hV hnear s1
  have ba := (Below.refl w4.heap.size w4).alloc (Nat.le_refl _) (.cells (repC k0 nm t F0 A0 B0 C0 (.slice Sr L.length ur)) 26)
  have G1 := hG.under ba
  have R1 := Row.new w4 (repC k0 nm t F0 A0 B0 C0 (.slice Sr L.length ur)) 26
  have grb := Nat.ne_of_gt (src_lt hG.src)
  have gr2 := hG.gro.size
  obtain ⟨b0, hbb⟩ : ∃ g, w.heap.size = g := ⟨_, rfl⟩
  rw [hbb] at G1 grb ⊢
  go_upto_region 4 with fail
  generalize w4.alloc (.cells (repC k0 nm t F0 A0 B0 C0 (.slice Sr L.length ur)) 26) = w5 at *
  obtain ⟨gr, hgr⟩ : ∃ g, w4.heap.size = g := ⟨_, rfl⟩
  rw [hgr] at R1 grb gr2 ⊢
  clear hgr hG ba s2 hl hbb
  go_wp2_with fail
  refine (n_any _ _ _ _ G1.src (by omega) (by omega)).mono ?_
  rintro e w6 ⟨x, ⟨x1, x2⟩, rfl, s6, g6⟩
  obtain ⟨f, rfl⟩ := Int.eq_ofNat_of_zero_le x1
  have G2 := G1.step s6 g6
  have R2 := R1.grown g6 (fun e => grb (by injection e))
  clear s6 g6 G1 R1
  go_wp2_with fail
  refine (n_any _ _ _ _ G2.src (by omega) (by omega)).mono ?_
  rintro e w7 ⟨A, ⟨A1, A2⟩, rfl, s7, g7⟩
  have G3 := G2.step s7 g7
  have R3 := R2.grown g7 (fun e => grb (by injection e))
  have bp := (Below.refl w7.heap.size w7).alloc (Nat.le_refl _) (.cells #[.int .i64 f, .int .i64 A, .int .i64 0, .int .i64 0] 23)
  have P4 := Row.new w7 #[.int .i64 f, .int .i64 A, .int .i64 0, .int .i64 0] 23
  have G4 := G3.under bp
  have R4 := R3.under bp
  have gqr := Nat.ne_of_gt R3.lt
  have gqb := Nat.ne_of_gt (src_lt G3.src)
  have gq2 := G3.gro.size
  clear s7 g7 G2 R2 G3 R3 bp
  go_upto_region 5 with fail
  generalize w7.alloc (.cells #[.int .i64 f, .int .i64 A, .int .i64 0, .int .i64 0] 23) = w8 at *
  generalize w7.heap.size = gq at *
  have G5 := gl_set G4 gq 2 (.int .i64 (840 - A)) hW gq2 gqb (El.own_ne G4.own P4 (by decide))
  have P5 : Row (w8.setCell ⟨gq, 2, none⟩ (.int .i64 (840 - A))) gq 23 #[.int .i64 f, .int .i64 A, .int .i64 (840 - A), .int .i64 0] := P4.put 2 _
  have R5 := R4.far (p := ⟨gq, 2, none⟩) gqr (.int .i64 (840 - A))
  obtain ⟨p0, p1, p2, p3⟩ := row4 P4
  have f2 := P4.thaw 2
  have f20 : f < 20 := by omega
  have A84 : 0 ≤ A ∧ A ≤ 840 := ⟨by omega, by omega⟩
  go_upto_region 6 with fail
  clear G4 P4 R4 p0 p1 p2 p3 f2
  generalize w8.setCell ⟨gq, 2, none⟩ (.int .i64 (840 - A)) = w9 at *
  have hdw : Below w9.heap.size w9 w9.drew := ⟨rfl, rfl, rfl, Nat.le_refl _, fun _ _ => rfl⟩
  have G6 := G5.under hdw
  have P6 := P5.under hdw
  have R6 := R5.under hdw
  have F20 := Lib.hid f20
  have A840 := Lib.hid A84
  clear G5 P5 R5 hdw f20 A84
  refine wp_region_held_drew (S := fun w' : World => w'.cell? ⟨gq, 0, none⟩ = some (.int .i64 f) ∧ w'.cell? ⟨gq, 1, none⟩ = some (.int .i64 A) ∧ w'.cell? ⟨gq, 2, none⟩ = some (.int .i64 (840 - A)) ∧ w'.cell? ⟨gq, 3, none⟩ = some (.int .i64 0)) (by kernel_rfl) (row4 P6) (fun hS => ?_)
  generalize w9.drew = X at *
  refine wpAnyH_take (i := 0) (oi := ⟨some 32, _, _, _, _, none⟩) (v := ?_) rfl (by kernel_rfl) (by kernel_rfl) (by kernel_rfl) (fun _ _ _ h => h) (Or.inl ⟨by rfl, ?_⟩) (by assumption) ?_
  case refine_2 => (intro wx hSx; (try dsimp only at hSx); go_simp; first | done | with_reducible rfl)
  try simp only [Act.put, List.setIfInBounds_toArray, List.set_cons_zero, List.set_cons_succ]
  refine wpAnyH_take (i := 2) (v := ?_) rfl (by kernel_rfl) (by kernel_rfl) (by kernel_rfl) (fun _ _ _ h => h) (Or.inl ⟨by rfl, ?_⟩) (by assumption) ?_
  case refine_2 => (intro wx hSx; (try dsimp only at hSx); go_simp; first | done | with_reducible rfl)
  try simp only [Act.put, List.setIfInBounds_toArray, List.set_cons_zero, List.set_cons_succ]
  refine wpAnyH_ready (rs := [1]) (by kernel_rfl) (by simp) ?_
  refine AllReadyH.cons (o := ⟨some 33, _, _, _, _, none⟩) rfl (fun K hK => ?_) AllReadyH.nil
  go_simp
  refine (range_any _ _ _ _ _ G6.src (by omega) (by omega) (by omega) (by omega)).mono ?_
  rintro e X1 ⟨k, ⟨k1, k2⟩, rfl, s1, g1⟩
  have G7 := G6.step s1 g1
  have P7 := P6.grown g1 (fun e => gqb (by injection e))
  have R7 := R6.grown g1 (fun e => grb (by injection e))
  go_wp2_with fail
  refine hK.out _ _ (row4 P7) (fun hS2 => ?_)
  clear hK K hS s1 g1 G6 P6 R6 X
  try simp only [Act.put, List.setIfInBounds_toArray, List.set_cons_zero, List.set_cons_succ]
  refine wpAnyH_take (i := 3) (oi := ⟨some 35, _, _, _, _, none⟩) (v := ?_) rfl (by kernel_rfl) (by kernel_rfl) (by kernel_rfl) (fun _ _ _ h => h) (Or.inl ⟨by rfl, ?_⟩) (by assumption) ?_
  case refine_2 => (intro wx hSx; (try dsimp only at hSx); go_simp; first | done | with_reducible rfl)
  try simp only [Act.put, List.setIfInBounds_toArray, List.set_cons_zero, List.set_cons_succ]
  refine wpAnyH_ready (rs := [4]) (by kernel_rfl) (by simp) ?_
  refine AllReadyH.cons (o := ⟨none, _, _, _, _, none⟩) rfl (fun K hK => ?_) AllReadyH.nil
  have f0 := R7.thaw 0
  obtain ⟨q0, q1, q2, q3, q4, q5, q6, q7⟩ := row8 R7
  go_simp
  have hS3 := row4 (P7.far (p := ⟨gr, 0, none⟩) (Ne.symm gqr) (.int .i64 k))
  refine hK.out _ _ hS3 (fun _ => ?_)
  clear hK K hS2 f0 q0 q1 q2 q3 q4 q5 q6 q7
  try simp only [Act.put, List.setIfInBounds_toArray, List.set_cons_zero, List.set_cons_succ]
  refine wpAnyH_take (i := 5) (oi := ⟨some 36, _, _, _, _, none⟩) (v := ?_) rfl (by kernel_rfl) (by kernel_rfl) (by kernel_rfl) (fun _ _ _ h => h) (Or.inl ⟨by rfl, ?_⟩) (by assumption) ?_
  case refine_2 => (intro wx hSx; (try dsimp only at hSx); go_simp; first | done | with_reducible rfl)
  try simp only [Act.put, List.setIfInBounds_toArray, List.set_cons_zero, List.set_cons_succ]
  refine wpAnyH_ready (rs := [6]) (by kernel_rfl) (by simp) ?_
  refine AllReadyH.cons (o := ⟨none, _, _, _, _, none⟩) rfl (fun K hK => ?_) AllReadyH.nil
  have R8 : Row (X1.setCell ⟨gr, 0, none⟩ (.int .i64 k)) gr 26 (repC k nm t F0 A0 B0 C0 (.slice Sr L.length ur)) := R7.put 0 _
  have f3 := R8.thaw 3
  have f4 := R8.thaw 4
  have f5 := R8.thaw 5
  have f6 := R8.thaw 6
  obtain ⟨q0, q1, q2, q3, q4, q5, q6, q7⟩ := row8 R8
  have J := Lib.hid (Pst.of G7 R7 P7 (Ne.symm gqr) grb gr2 hW k)
  clear R8 hS3
  go_simp
  refine hK.out _ _ (row4 J.out.pla) (fun _ => ?_)
  clear hK K f3 f4 f5 f6 q0 q1 q2 q3 q4 q5 q6 q7 G7 R7 P7
  try simp only [Act.put, List.setIfInBounds_toArray, List.set_cons_zero, List.set_cons_succ]
  refine El.genH (fun X => Pst w b0 w2 gr gq k nm t f A (.slice Sr L.length ur) L X) (J.out.under ⟨rfl, rfl, rfl, Nat.le_refl _, fun _ _ => rfl⟩) ?_
  clear J
  rintro X I
  have I := Lib.hid I
  refine wpAnyH_done (by kernel_rfl) ?_ _
  have hk : k = 2 ∨ k = 3 := by omega
  clear x1 x2 A1 A2 k1 k2 grb gr2 gqr gqb gq2
  obtain ⟨nl, rfl⟩ : ∃ nl, nm = S nl := ⟨nm.data.toList, (S_of nm).symm⟩
  have HSEA := Lib.hid (fun W hE => par_sea HV.out hk HM.out HN.out f A F20.out A840.out W hE)
  have HLAN := Lib.hid (fun W hE => par_land HV.out HM.out f A F20.out A840.out W hE)
  have HVC := Lib.hid (vcode_pl (F := (f : Int)) (A := A) (B := 840 - A) (C := 0) HV.out hk)
  have HTX := Lib.hid (show (⟨k, S nl, t, f, A, 840 - A, 0, .slice Sr L.length ur, L⟩ : Rp).code = vcode k (S nl) t f A (840 - A) 0 L from rfl)
  have HVAL := Lib.hid (fun W (h : El.RdIn W (.slice Sr L.length ur) L) hT => validate_any k (S nl) t f A (840 - A) 0 (.slice Sr L.length ur) L W h hT)
  have HFMT := Lib.hid (fun W (h : El.RdIn W (.slice Sr L.length ur) L) hE => fmt_from ⟨k, S nl, t, f, A, 840 - A, 0, .slice Sr L.length ur, L⟩ W W h hE (Below.refl _ _))
  rw [HTX.out, HVC.out] at HFMT
  rw [HVC.out] at HVAL
  have HLEN := Lib.hid (show (nrm (f : Int) A (840 - A) 0 = true → 0 < (⟨k, S nl, t, f, A, 840 - A, 0, .slice Sr L.length ur, L⟩ : Rp).text.size) ∧ (nrm (f : Int) A (840 - A) 0 = false → (⟨k, S nl, t, f, A, 840 - A, 0, .slice Sr L.length ur, L⟩ : Rp).text = ⟨#[]⟩) from by
    unfold Rp.text
    rw [HTX.out, HVC.out]
    refine ⟨fun h => ?_, fun h => ?_⟩
    · rw [if_pos (by rw [if_pos h]), S_size]
      have hVn : Vd k (S nl) t f A (840 - A) 0 L := Vd.of (by rw [HVC.out, if_pos h])
      have := gtx_len hVn
      exact Nat.lt_of_lt_of_le (by decide) this
    · rw [if_neg (by rw [h]; decide)])
  generalize (⟨k, S nl, t, f, A, 840 - A, 0, .slice Sr L.length ur, L⟩ : Rp).text = stx at *
  clear HTX HVC
  obtain ⟨nb, hnb⟩ : ∃ b, nrm (f : Int) A (840 - A) 0 = b := ⟨_, rfl⟩
  rw [hnb] at HSEA HVAL HFMT HLEN
  clear hnb
  obtain ⟨r0, hr0⟩ : ∃ r : Int, (if nb = true then (0 : Int) else 1) = r := ⟨_, rfl⟩
  obtain ⟨r1, hr1⟩ : ∃ r : Int, (if nb = true then (0 : Int) else 3) = r := ⟨_, rfl⟩
  rw [hr0] at HVAL HFMT
  rw [hr1] at HSEA
  have HR0 := Lib.hid hr0
  have HR1 := Lib.hid hr1
  clear hr0 hr1
  have n5 : nl.length = 5 := (free_nm HV.out.name).2
  have l4 : (kw k).length = 4 := by rcases hk with rfl | rfl <;> rfl
  have l6 : (stp t).length = 6 := rfl
  have l8 : (Pl.txt f A (840 - A)).length = 8 := Pl.txt_length _ _ _
  have hpt : Pl.txt f A (840 - A) = dig2 (f : Int) ++ (Pl.dig3 A ++ Pl.dig3 (840 - A)) := rfl
  have HPT := Lib.hid hpt
  have HGR := Lib.hid (fun W => refGroup_any t W HT.out)
  clear hpt
  have HK := Lib.hid hk
  obtain ⟨p0, p1, p2, p3, p4, p5, p6, p7⟩ := row8 I.out.rep
  go_wp2_with fail
  refine (HVAL.out _ (El.RdIn.own I.out.gl.own) (HEW.out.under I.out.gl.src.below).tab).mono ?_
  rintro e Y ⟨rfl, g1⟩
  have I := Lib.hid (I.out.under g1)
  clear p0 p1 p2 p3 p4 p5 p6 p7 g1 HVAL
  go_upto_region 8 with fail
  have hdY : Below Y.heap.size Y Y.drew := ⟨rfl, rfl, rfl, Nat.le_refl _, fun _ _ => rfl⟩
  have I2 := Lib.hid (I.out.under hdY)
  have hb2 := Below.refl Y.drew.heap.size Y.drew
  clear I hdY
  obtain ⟨p0, p1, p2, p3⟩ := row4 I2.out.pla
  have bf := F20.out
  obtain ⟨bA1, bA2⟩ := A840.out
  go_region_held3 (fun w' => w'.cell? ⟨gq, 0, none⟩ = some (.int .i64 f) ∧ w'.cell? ⟨gq, 1, none⟩ = some (.int .i64 A) ∧ w'.cell? ⟨gq, 2, none⟩ = some (.int .i64 (840 - A)) ∧ w'.cell? ⟨gq, 3, none⟩ = some (.int .i64 0))
    (first | go_keep | exact row4 (I2.out.pla.under hb2))
    (first | (go_at_call 38; refine (el2_from _ Y.drew _ (by omega) (by omega) hb2).mono ?_; clear hb2; rintro e w3 ⟨rfl, hb2⟩) | (go_at_call 39; refine (dg3_from _ Y.drew _ (by omega) (by omega) hb2).mono ?_; clear hb2; rintro e w3 ⟨rfl, hb2⟩))
  have J := Lib.hid (I2.out.under hb2)
  clear I2 hb2 p0 p1 p2 p3
  go_upto_region 9 with fail
  rw [← HPT.out]
  refine forget (fun X => Pst w b0 w2 gr gq k (S nl) t f A (.slice Sr L.length ur) L X) J.out ?_
  clear J
  generalize Pl.txt f A (840 - A) = tx at *
  rintro X I
  have I := Lib.hid I
  obtain ⟨p0, p1, p2, p3, p4, p5, p6, p7⟩ := row8 I.out.rep
  go_cut [9] from 51 to 55 (fun p X => p = .string (S (kw k)) ∧ Pst w b0 w2 gr gq k (S nl) t f A (.slice Sr L.length ur) L X)
  case first =>
    have hlt := I.out.rep.lt
    rcases hk with rfl | rfl
    all_goals
      have xw2 : IntKind.i64.wrap 2 = 2 := by decide
      have xw3 : IntKind.i64.wrap 3 = 3 := by decide
      go_wp2_with fail
      go_meet
      exact ⟨rfl, I.out.under ((Below.refl _ _).alloc (Nat.le_refl _) _)⟩
  case rest =>
  obtain ⟨hp, hI⟩ := hcut
  subst hp
  have I := Lib.hid hI
  clear hI p0 p1 p2 p3 p4 p5 p6 p7
  generalize kw k = kk at *
  generalize stp t = ts at *
  go_upto_region 10 with fail
  go_cut [10, 11] from 56 to 73 (fun _ e X => e = .int .i64 r1 ∧ Pst w b0 w2 gr gq k (S nl) t f A (.slice Sr L.length ur) L X)
  case first =>
    refine wp_region_held_drew (S := (fun w' : World => w'.cell? ⟨gr, 1, none⟩ = some (.string (S nl)) ∧ w'.cell? ⟨gr, 2, none⟩ = some (.int .i64 t))) (by kernel_rfl) ⟨(row8 I.out.rep).2.1, (row8 I.out.rep).2.2.1⟩ (fun hS => ?_)
    refine wpAnyH_take (i := 0) (oi := ⟨some 57, _, _, _, _, none⟩) (v := ?_) rfl (by kernel_rfl) (by kernel_rfl) (by kernel_rfl) (fun _ _ _ h => h) (Or.inl ⟨by rfl, ?_⟩) (by assumption) ?_
    case refine_2 => (intro wx hSx; (try dsimp only at hSx); go_simp; first | done | with_reducible rfl)
    try simp only [Act.put, List.setIfInBounds_toArray, List.set_cons_zero, List.set_cons_succ]
    refine wpAnyH_take (i := 1) (oi := ⟨some 58, _, _, _, _, none⟩) (v := ?_) rfl (by kernel_rfl) (by kernel_rfl) (by kernel_rfl) (fun _ _ _ h => h) (Or.inl ⟨by rfl, ?_⟩) (by assumption) ?_
    case refine_2 => (intro wx hSx; (try dsimp only at hSx); go_simp; first | done | with_reducible rfl)
    try simp only [Act.put, List.setIfInBounds_toArray, List.set_cons_zero, List.set_cons_succ]
    refine wpAnyH_take (i := 2) (oi := ⟨some 59, _, _, _, _, none⟩) (v := ?_) rfl (by kernel_rfl) (by kernel_rfl) (by kernel_rfl) (fun _ _ _ h => h) (Or.inl ⟨by rfl, ?_⟩) (by assumption) ?_
    case refine_2 => (intro wx hSx; (try dsimp only at hSx); go_simp; first | done | with_reducible rfl)
    try simp only [Act.put, List.setIfInBounds_toArray, List.set_cons_zero, List.set_cons_succ]
    refine wpAnyH_take (i := 3) (oi := ⟨some 60, _, _, _, _, none⟩) (v := ?_) rfl (by kernel_rfl) (by kernel_rfl) (by kernel_rfl) (fun _ _ _ h => h) (Or.inl ⟨by rfl, ?_⟩) (by assumption) ?_
    case refine_2 => (intro wx hSx; (try dsimp only at hSx); go_simp; first | done | with_reducible rfl)
    try simp only [Act.put, List.setIfInBounds_toArray, List.set_cons_zero, List.set_cons_succ]
    refine wpAnyH_take (i := 4) (oi := ⟨some 61, _, _, _, _, none⟩) (v := ?_) rfl (by kernel_rfl) (by kernel_rfl) (by kernel_rfl) (fun _ _ _ h => h) (Or.inl ⟨by rfl, ?_⟩) (by assumption) ?_
    case refine_2 => (intro wx hSx; (try dsimp only at hSx); go_simp; first | done | with_reducible rfl)
    try simp only [Act.put, List.setIfInBounds_toArray, List.set_cons_zero, List.set_cons_succ]
    refine wpAnyH_take (i := 5) (oi := ⟨some 62, _, _, _, _, none⟩) (v := ?_) rfl (by kernel_rfl) (by kernel_rfl) (by kernel_rfl) (fun _ _ _ h => h) (Or.inl ⟨by rfl, ?_⟩) (by assumption) ?_
    case refine_2 => (intro wx hSx; (try dsimp only at hSx); go_simp; first | done | with_reducible rfl)
    try simp only [Act.put, List.setIfInBounds_toArray, List.set_cons_zero, List.set_cons_succ]
    refine wpAnyH_take (i := 6) (oi := ⟨some 63, _, _, _, _, none⟩) (v := ?_) rfl (by kernel_rfl) (by kernel_rfl) (by kernel_rfl) (fun _ _ _ h => h) (Or.inl ⟨by rfl, ?_⟩) (by assumption) ?_
    case refine_2 => (intro wx hSx; (try dsimp only at hSx); go_simp; first | done | with_reducible rfl)
    try simp only [Act.put, List.setIfInBounds_toArray, List.set_cons_zero, List.set_cons_succ]
    refine wpAnyH_take (i := 7) (oi := ⟨some 64, _, _, _, _, none⟩) (v := ?_) rfl (by kernel_rfl) (by kernel_rfl) (by kernel_rfl) (fun _ _ _ h => h) (Or.inl ⟨by rfl, ?_⟩) (by assumption) ?_
    case refine_2 => (intro wx hSx; (try dsimp only at hSx); go_simp; first | done | with_reducible rfl)
    try simp only [Act.put, List.setIfInBounds_toArray, List.set_cons_zero, List.set_cons_succ]
    refine wpAnyH_take (i := 11) (oi := ⟨some 68, _, _, _, _, none⟩) (v := ?_) rfl (by kernel_rfl) (by kernel_rfl) (by kernel_rfl) (fun _ _ _ h => h) (Or.inl ⟨by rfl, ?_⟩) (by assumption) ?_
    case refine_2 => (intro wx hSx; (try dsimp only at hSx); go_simp; first | done | with_reducible rfl)
    try simp only [Act.put, List.setIfInBounds_toArray, List.set_cons_zero, List.set_cons_succ]
    refine wpAnyH_take (i := 13) (oi := ⟨some 70, _, _, _, _, none⟩) (v := ?_) rfl (by kernel_rfl) (by kernel_rfl) (by kernel_rfl) (fun _ _ _ h => h) (Or.inl ⟨by rfl, ?_⟩) (by assumption) ?_
    case refine_2 => (intro wx hSx; (try dsimp only at hSx); go_simp; first | done | with_reducible rfl)
    try simp only [Act.put, List.setIfInBounds_toArray, List.set_cons_zero, List.set_cons_succ]
    have J := Lib.hid (I.out.under (show Below wc.heap.size wc wc.drew from ⟨rfl, rfl, rfl, Nat.le_refl _, fun _ _ => rfl⟩))
    clear I hS
    refine El.genH (fun X => Pst w b0 w2 gr gq k (S nl) t f A (.slice Sr L.length ur) L X) J.out ?_
    clear J
    rintro X I
    have I := Lib.hid I
    refine wpAnyH_ready (rs := [8, 18]) (by kernel_rfl) (by simp) ?_
    refine AllReadyH.cons (o := ⟨some 65, _, _, _, _, none⟩) rfl (fun K hK => ?_) (AllReadyH.cons (o := ⟨some 10, _, _, _, _, none⟩) rfl (fun K hK => ?_) AllReadyH.nil)
    · go_simp
      refine (HGR.out X).mono ?_
      rintro e X1 ⟨rfl, g1⟩
      have J := Lib.hid (I.out.under g1)
      go_wp2_with fail
      refine hK.out _ _ ⟨(row8 J.out.rep).2.1, (row8 J.out.rep).2.2.1⟩ (fun _ => ?_)
      clear hK K
      try simp only [Act.put, List.setIfInBounds_toArray, List.set_cons_zero, List.set_cons_succ]
      clear g1 I
      refine El.genH (fun X => Pst w b0 w2 gr gq k (S nl) t f A (.slice Sr L.length ur) L X) J.out ?_
      clear J
      rintro X I
      have I := Lib.hid I
      have hS : X.cell? ⟨gr, 1, none⟩ = some (.string (S nl)) ∧ X.cell? ⟨gr, 2, none⟩ = some (.int .i64 t) := ⟨(row8 I.out.rep).2.1, (row8 I.out.rep).2.2.1⟩
      refine wpAnyH_take (i := 9) (oi := ⟨some 66, _, _, _, _, none⟩) (v := ?_) rfl (by kernel_rfl) (by kernel_rfl) (by kernel_rfl) (fun _ _ _ h => h) (Or.inl ⟨by rfl, ?_⟩) (by assumption) ?_
      case refine_2 => (intro wx hSx; (try dsimp only at hSx); go_simp; first | done | with_reducible rfl)
      try simp only [Act.put, List.setIfInBounds_toArray, List.set_cons_zero, List.set_cons_succ]
      refine wpAnyH_take (i := 10) (oi := ⟨some 67, _, _, _, _, none⟩) (v := ?_) rfl (by kernel_rfl) (by kernel_rfl) (by kernel_rfl) (fun _ _ _ h => h) (Or.inl ⟨by rfl, ?_⟩) (by assumption) ?_
      case refine_2 => (intro wx hSx; (try dsimp only at hSx); go_simp; first | done | with_reducible rfl)
      try simp only [Act.put, List.setIfInBounds_toArray, List.set_cons_zero, List.set_cons_succ]
      refine wpAnyH_take (i := 12) (oi := ⟨some 69, _, _, _, _, none⟩) (v := ?_) rfl (by kernel_rfl) (by kernel_rfl) (by kernel_rfl) (fun _ _ _ h => h) (Or.inl ⟨by rfl, ?_⟩) (by assumption) ?_
      case refine_2 => (intro wx hSx; (try dsimp only at hSx); go_simp; first | done | with_reducible rfl)
      try simp only [Act.put, List.setIfInBounds_toArray, List.set_cons_zero, List.set_cons_succ]
      refine wpAnyH_ready (rs := [14, 18]) (by kernel_rfl) (by simp) ?_
      refine AllReadyH.cons (o := ⟨some 71, _, _, _, _, none⟩) rfl (fun K hK => ?_) (AllReadyH.cons (o := ⟨some 10, _, _, _, _, none⟩) rfl (fun K hK => ?_) AllReadyH.nil)
      · go_simp
        refine (HSEA.out X (HEW.out.under I.out.gl.src.below)).mono ?_
        rintro e X1 ⟨kz, nz, tz, fz, az, bz, cz, Sz, lz, oz, rfl, g1⟩
        have J := Lib.hid (I.out.under g1)
        go_wp2_with fail
        refine hK.out _ _ ⟨(row8 J.out.rep).2.1, (row8 J.out.rep).2.2.1⟩ (fun _ => ?_)
        clear hK K
        try simp only [Act.put, List.setIfInBounds_toArray, List.set_cons_zero, List.set_cons_succ]
        clear g1 I
        refine El.genH (fun X => Pst w b0 w2 gr gq k (S nl) t f A (.slice Sr L.length ur) L X) J.out ?_
        clear J
        rintro X I
        have I := Lib.hid I
        have hS : X.cell? ⟨gr, 1, none⟩ = some (.string (S nl)) ∧ X.cell? ⟨gr, 2, none⟩ = some (.int .i64 t) := ⟨(row8 I.out.rep).2.1, (row8 I.out.rep).2.2.1⟩
        refine wpAnyH_take (i := 15) (oi := ⟨some 56, _, _, _, _, none⟩) (v := ?_) rfl (by kernel_rfl) (by kernel_rfl) (by kernel_rfl) (fun _ _ _ h => h) (Or.inl ⟨by rfl, ?_⟩) (by assumption) ?_
        case refine_2 => (intro wx hSx; (try dsimp only at hSx); go_simp; first | done | with_reducible rfl)
        try simp only [Act.put, List.setIfInBounds_toArray, List.set_cons_zero, List.set_cons_succ]
        refine wpAnyH_take (i := 16) (oi := ⟨some 72, _, _, _, _, none⟩) (v := ?_) rfl (by kernel_rfl) (by kernel_rfl) (by kernel_rfl) (fun _ _ _ h => h) (Or.inl ⟨by rfl, ?_⟩) (by assumption) ?_
        case refine_2 => (intro wx hSx; (try dsimp only at hSx); go_simp; first | done | with_reducible rfl)
        try simp only [Act.put, List.setIfInBounds_toArray, List.set_cons_zero, List.set_cons_succ]
        refine wpAnyH_take (i := 17) (oi := ⟨some 73, _, _, _, _, none⟩) (v := ?_) rfl (by kernel_rfl) (by kernel_rfl) (by kernel_rfl) (fun _ _ _ h => h) (Or.inl ⟨by rfl, ?_⟩) (by assumption) ?_
        case refine_2 => (intro wx hSx; (try dsimp only at hSx); go_simp; first | done | with_reducible rfl)
        try simp only [Act.put, List.setIfInBounds_toArray, List.set_cons_zero, List.set_cons_succ]
        refine wpAnyH_ready (rs := [18]) (by kernel_rfl) (by simp) ?_
        refine AllReadyH.cons (o := ⟨some 10, _, _, _, _, none⟩) rfl (fun K hK => ?_) AllReadyH.nil
        have J := Lib.hid (I.out.under ((Below.refl X.heap.size X).alloc (Nat.le_refl _) (.cells (repC 0 ⟨#[]⟩ 0 0 0 0 0 (.slice none 0 0)) 26)))
        have D := Lib.hid (And.intro (Row.new X (repC 0 ⟨#[]⟩ 0 0 0 0 0 (.slice none 0 0)) 26) (And.intro (Nat.ne_of_gt I.out.rep.lt) (And.intro (Nat.ne_of_gt I.out.pla.lt) (And.intro (Nat.ne_of_gt (src_lt I.out.gl.src)) I.out.gl.gro.size))))
        go_simp
        refine hK.out _ _ ⟨(row8 J.out.rep).2.1, (row8 J.out.rep).2.2.1⟩ (fun _ => ?_)
        clear hK K
        try simp only [Act.put, List.setIfInBounds_toArray, List.set_cons_zero, List.set_cons_succ]
        clear I
        generalize X.heap.size = ga at *
        refine El.genH (fun X => Pst w b0 w2 gr gq k (S nl) t f A (.slice Sr L.length ur) L X ∧ Row X ga 26 (repC 0 ⟨#[]⟩ 0 0 0 0 0 (.slice none 0 0)) ∧ ga ≠ gr ∧ ga ≠ gq ∧ ga ≠ b0 ∧ w2.heap.size ≤ ga) ⟨J.out, D.out⟩ ?_
        clear J D
        rintro X ⟨I, D⟩
        have I := Lib.hid I
        have D := Lib.hid D
        have hS : X.cell? ⟨gr, 1, none⟩ = some (.string (S nl)) ∧ X.cell? ⟨gr, 2, none⟩ = some (.int .i64 t) := ⟨(row8 I.out.rep).2.1, (row8 I.out.rep).2.2.1⟩
        refine wpAnyH_ready (rs := [19]) (by kernel_rfl) (by simp) ?_
        refine AllReadyH.cons (o := ⟨none, _, _, _, _, none⟩) rfl (fun K hK => ?_) AllReadyH.nil
        have f0 := D.out.1.thaw 0
        have f1 := D.out.1.thaw 1
        have f2 := D.out.1.thaw 2
        have f3 := D.out.1.thaw 3
        have f4 := D.out.1.thaw 4
        have f5 := D.out.1.thaw 5
        have f6 := D.out.1.thaw 6
        have f7 := D.out.1.thaw 7
        obtain ⟨q0, q1, q2, q3, q4, q5, q6, q7⟩ := row8 D.out.1
        have J := Lib.hid (I.out.fill D.out.1 D.out.2 (.int .i64 kz) (.string nz) (.int .i64 tz) (.int .i64 fz) (.int .i64 az) (.int .i64 bz) (.int .i64 cz) (.slice Sz lz oz))
        go_simp
        refine hK.out _ _ ⟨(row8 J.out.rep).2.1, (row8 J.out.rep).2.2.1⟩ (fun _ => ?_)
        clear hK K
        try simp only [Act.put, List.setIfInBounds_toArray, List.set_cons_zero, List.set_cons_succ]
        clear f0 f1 f2 f3 f4 f5 f6 f7 q0 q1 q2 q3 q4 q5 q6 q7 I D hS
        refine El.genH (fun X => Pst w b0 w2 gr gq k (S nl) t f A (.slice Sr L.length ur) L X) (J.out.under ⟨rfl, rfl, rfl, Nat.le_refl _, fun _ _ => rfl⟩) ?_
        clear J
        rintro X I
        have I := Lib.hid I
        have hS : X.cell? ⟨gr, 1, none⟩ = some (.string (S nl)) ∧ X.cell? ⟨gr, 2, none⟩ = some (.int .i64 t) := ⟨(row8 I.out.rep).2.1, (row8 I.out.rep).2.2.1⟩
        refine wpAnyH_take (i := 20) (oi := ⟨some 11, _, _, _, _, none⟩) (v := ?_) rfl (by kernel_rfl) (by kernel_rfl) (by kernel_rfl) (fun _ _ _ h => h) (Or.inl ⟨by rfl, ?_⟩) (by assumption) ?_
        case refine_2 => (intro wx hSx; (try dsimp only at hSx); go_simp; first | done | with_reducible rfl)
        try simp only [Act.put, List.setIfInBounds_toArray, List.set_cons_zero, List.set_cons_succ]
        refine wpAnyH_done (by kernel_rfl) ?_ _
        go_wp2_with fail
        go_meet
        exact ⟨rfl, I.out⟩
      · have J := Lib.hid (I.out.under ((Below.refl X.heap.size X).alloc (Nat.le_refl _) (.cells (repC 0 ⟨#[]⟩ 0 0 0 0 0 (.slice none 0 0)) 26)))
        have D := Lib.hid (And.intro (Row.new X (repC 0 ⟨#[]⟩ 0 0 0 0 0 (.slice none 0 0)) 26) (And.intro (Nat.ne_of_gt I.out.rep.lt) (And.intro (Nat.ne_of_gt I.out.pla.lt) (And.intro (Nat.ne_of_gt (src_lt I.out.gl.src)) I.out.gl.gro.size))))
        go_simp
        refine hK.out _ _ ⟨(row8 J.out.rep).2.1, (row8 J.out.rep).2.2.1⟩ (fun _ => ?_)
        clear hK K
        try simp only [Act.put, List.setIfInBounds_toArray, List.set_cons_zero, List.set_cons_succ]
        clear I
        generalize X.heap.size = ga at *
        refine El.genH (fun X => Pst w b0 w2 gr gq k (S nl) t f A (.slice Sr L.length ur) L X ∧ Row X ga 26 (repC 0 ⟨#[]⟩ 0 0 0 0 0 (.slice none 0 0)) ∧ ga ≠ gr ∧ ga ≠ gq ∧ ga ≠ b0 ∧ w2.heap.size ≤ ga) ⟨J.out, D.out⟩ ?_
        clear J D
        rintro X ⟨I, D⟩
        have I := Lib.hid I
        have D := Lib.hid D
        refine wpAnyH_ready (rs := [14]) (by kernel_rfl) (by simp) ?_
        refine AllReadyH.cons (o := ⟨some 71, _, _, _, _, none⟩) rfl (fun K hK => ?_) AllReadyH.nil
        go_simp
        refine (HSEA.out X (HEW.out.under I.out.gl.src.below)).mono ?_
        rintro e X1 ⟨kz, nz, tz, fz, az, bz, cz, Sz, lz, oz, rfl, g1⟩
        have J := Lib.hid (I.out.under g1)
        have D := Lib.hid (And.intro (D.out.1.under g1) D.out.2)
        go_wp2_with fail
        refine hK.out _ _ ⟨(row8 J.out.rep).2.1, (row8 J.out.rep).2.2.1⟩ (fun _ => ?_)
        clear hK K
        try simp only [Act.put, List.setIfInBounds_toArray, List.set_cons_zero, List.set_cons_succ]
        clear g1 I
        refine El.genH (fun X => Pst w b0 w2 gr gq k (S nl) t f A (.slice Sr L.length ur) L X ∧ Row X ga 26 (repC 0 ⟨#[]⟩ 0 0 0 0 0 (.slice none 0 0)) ∧ ga ≠ gr ∧ ga ≠ gq ∧ ga ≠ b0 ∧ w2.heap.size ≤ ga) ⟨J.out, D.out⟩ ?_
        clear J D
        rintro X ⟨I, D⟩
        have I := Lib.hid I
        have D := Lib.hid D
        have hS : X.cell? ⟨gr, 1, none⟩ = some (.string (S nl)) ∧ X.cell? ⟨gr, 2, none⟩ = some (.int .i64 t) := ⟨(row8 I.out.rep).2.1, (row8 I.out.rep).2.2.1⟩
        refine wpAnyH_take (i := 15) (oi := ⟨some 56, _, _, _, _, none⟩) (v := ?_) rfl (by kernel_rfl) (by kernel_rfl) (by kernel_rfl) (fun _ _ _ h => h) (Or.inl ⟨by rfl, ?_⟩) (by assumption) ?_
        case refine_2 => (intro wx hSx; (try dsimp only at hSx); go_simp; first | done | with_reducible rfl)
        try simp only [Act.put, List.setIfInBounds_toArray, List.set_cons_zero, List.set_cons_succ]
        refine wpAnyH_take (i := 16) (oi := ⟨some 72, _, _, _, _, none⟩) (v := ?_) rfl (by kernel_rfl) (by kernel_rfl) (by kernel_rfl) (fun _ _ _ h => h) (Or.inl ⟨by rfl, ?_⟩) (by assumption) ?_
        case refine_2 => (intro wx hSx; (try dsimp only at hSx); go_simp; first | done | with_reducible rfl)
        try simp only [Act.put, List.setIfInBounds_toArray, List.set_cons_zero, List.set_cons_succ]
        refine wpAnyH_take (i := 17) (oi := ⟨some 73, _, _, _, _, none⟩) (v := ?_) rfl (by kernel_rfl) (by kernel_rfl) (by kernel_rfl) (fun _ _ _ h => h) (Or.inl ⟨by rfl, ?_⟩) (by assumption) ?_
        case refine_2 => (intro wx hSx; (try dsimp only at hSx); go_simp; first | done | with_reducible rfl)
        try simp only [Act.put, List.setIfInBounds_toArray, List.set_cons_zero, List.set_cons_succ]
        have hS : X.cell? ⟨gr, 1, none⟩ = some (.string (S nl)) ∧ X.cell? ⟨gr, 2, none⟩ = some (.int .i64 t) := ⟨(row8 I.out.rep).2.1, (row8 I.out.rep).2.2.1⟩
        refine wpAnyH_ready (rs := [19]) (by kernel_rfl) (by simp) ?_
        refine AllReadyH.cons (o := ⟨none, _, _, _, _, none⟩) rfl (fun K hK => ?_) AllReadyH.nil
        have f0 := D.out.1.thaw 0
        have f1 := D.out.1.thaw 1
        have f2 := D.out.1.thaw 2
        have f3 := D.out.1.thaw 3
        have f4 := D.out.1.thaw 4
        have f5 := D.out.1.thaw 5
        have f6 := D.out.1.thaw 6
        have f7 := D.out.1.thaw 7
        obtain ⟨q0, q1, q2, q3, q4, q5, q6, q7⟩ := row8 D.out.1
        have J := Lib.hid (I.out.fill D.out.1 D.out.2 (.int .i64 kz) (.string nz) (.int .i64 tz) (.int .i64 fz) (.int .i64 az) (.int .i64 bz) (.int .i64 cz) (.slice Sz lz oz))
        go_simp
        refine hK.out _ _ ⟨(row8 J.out.rep).2.1, (row8 J.out.rep).2.2.1⟩ (fun _ => ?_)
        clear hK K
        try simp only [Act.put, List.setIfInBounds_toArray, List.set_cons_zero, List.set_cons_succ]
        clear f0 f1 f2 f3 f4 f5 f6 f7 q0 q1 q2 q3 q4 q5 q6 q7 I D hS
        refine El.genH (fun X => Pst w b0 w2 gr gq k (S nl) t f A (.slice Sr L.length ur) L X) (J.out.under ⟨rfl, rfl, rfl, Nat.le_refl _, fun _ _ => rfl⟩) ?_
        clear J
        rintro X I
        have I := Lib.hid I
        have hS : X.cell? ⟨gr, 1, none⟩ = some (.string (S nl)) ∧ X.cell? ⟨gr, 2, none⟩ = some (.int .i64 t) := ⟨(row8 I.out.rep).2.1, (row8 I.out.rep).2.2.1⟩
        refine wpAnyH_take (i := 20) (oi := ⟨some 11, _, _, _, _, none⟩) (v := ?_) rfl (by kernel_rfl) (by kernel_rfl) (by kernel_rfl) (fun _ _ _ h => h) (Or.inl ⟨by rfl, ?_⟩) (by assumption) ?_
        case refine_2 => (intro wx hSx; (try dsimp only at hSx); go_simp; first | done | with_reducible rfl)
        try simp only [Act.put, List.setIfInBounds_toArray, List.set_cons_zero, List.set_cons_succ]
        refine wpAnyH_done (by kernel_rfl) ?_ _
        go_wp2_with fail
        go_meet
        exact ⟨rfl, I.out⟩
    · have J := Lib.hid (I.out.under ((Below.refl X.heap.size X).alloc (Nat.le_refl _) (.cells (repC 0 ⟨#[]⟩ 0 0 0 0 0 (.slice none 0 0)) 26)))
      have D := Lib.hid (And.intro (Row.new X (repC 0 ⟨#[]⟩ 0 0 0 0 0 (.slice none 0 0)) 26) (And.intro (Nat.ne_of_gt I.out.rep.lt) (And.intro (Nat.ne_of_gt I.out.pla.lt) (And.intro (Nat.ne_of_gt (src_lt I.out.gl.src)) I.out.gl.gro.size))))
      go_simp
      refine hK.out _ _ ⟨(row8 J.out.rep).2.1, (row8 J.out.rep).2.2.1⟩ (fun _ => ?_)
      clear hK K
      try simp only [Act.put, List.setIfInBounds_toArray, List.set_cons_zero, List.set_cons_succ]
      clear I
      generalize X.heap.size = ga at *
      refine El.genH (fun X => Pst w b0 w2 gr gq k (S nl) t f A (.slice Sr L.length ur) L X ∧ Row X ga 26 (repC 0 ⟨#[]⟩ 0 0 0 0 0 (.slice none 0 0)) ∧ ga ≠ gr ∧ ga ≠ gq ∧ ga ≠ b0 ∧ w2.heap.size ≤ ga) ⟨J.out, D.out⟩ ?_
      clear J D
      rintro X ⟨I, D⟩
      have I := Lib.hid I
      have D := Lib.hid D
      refine wpAnyH_ready (rs := [8]) (by kernel_rfl) (by simp) ?_
      refine AllReadyH.cons (o := ⟨some 65, _, _, _, _, none⟩) rfl (fun K hK => ?_) AllReadyH.nil
      go_simp
      refine (HGR.out X).mono ?_
      rintro e X1 ⟨rfl, g1⟩
      have J := Lib.hid (I.out.under g1)
      have D := Lib.hid (And.intro (D.out.1.under g1) D.out.2)
      go_wp2_with fail
      refine hK.out _ _ ⟨(row8 J.out.rep).2.1, (row8 J.out.rep).2.2.1⟩ (fun _ => ?_)
      clear hK K
      try simp only [Act.put, List.setIfInBounds_toArray, List.set_cons_zero, List.set_cons_succ]
      clear g1 I
      refine El.genH (fun X => Pst w b0 w2 gr gq k (S nl) t f A (.slice Sr L.length ur) L X ∧ Row X ga 26 (repC 0 ⟨#[]⟩ 0 0 0 0 0 (.slice none 0 0)) ∧ ga ≠ gr ∧ ga ≠ gq ∧ ga ≠ b0 ∧ w2.heap.size ≤ ga) ⟨J.out, D.out⟩ ?_
      clear J D
      rintro X ⟨I, D⟩
      have I := Lib.hid I
      have D := Lib.hid D
      have hS : X.cell? ⟨gr, 1, none⟩ = some (.string (S nl)) ∧ X.cell? ⟨gr, 2, none⟩ = some (.int .i64 t) := ⟨(row8 I.out.rep).2.1, (row8 I.out.rep).2.2.1⟩
      refine wpAnyH_take (i := 9) (oi := ⟨some 66, _, _, _, _, none⟩) (v := ?_) rfl (by kernel_rfl) (by kernel_rfl) (by kernel_rfl) (fun _ _ _ h => h) (Or.inl ⟨by rfl, ?_⟩) (by assumption) ?_
      case refine_2 => (intro wx hSx; (try dsimp only at hSx); go_simp; first | done | with_reducible rfl)
      try simp only [Act.put, List.setIfInBounds_toArray, List.set_cons_zero, List.set_cons_succ]
      refine wpAnyH_take (i := 10) (oi := ⟨some 67, _, _, _, _, none⟩) (v := ?_) rfl (by kernel_rfl) (by kernel_rfl) (by kernel_rfl) (fun _ _ _ h => h) (Or.inl ⟨by rfl, ?_⟩) (by assumption) ?_
      case refine_2 => (intro wx hSx; (try dsimp only at hSx); go_simp; first | done | with_reducible rfl)
      try simp only [Act.put, List.setIfInBounds_toArray, List.set_cons_zero, List.set_cons_succ]
      refine wpAnyH_take (i := 12) (oi := ⟨some 69, _, _, _, _, none⟩) (v := ?_) rfl (by kernel_rfl) (by kernel_rfl) (by kernel_rfl) (fun _ _ _ h => h) (Or.inl ⟨by rfl, ?_⟩) (by assumption) ?_
      case refine_2 => (intro wx hSx; (try dsimp only at hSx); go_simp; first | done | with_reducible rfl)
      try simp only [Act.put, List.setIfInBounds_toArray, List.set_cons_zero, List.set_cons_succ]
      refine wpAnyH_ready (rs := [14]) (by kernel_rfl) (by simp) ?_
      refine AllReadyH.cons (o := ⟨some 71, _, _, _, _, none⟩) rfl (fun K hK => ?_) AllReadyH.nil
      go_simp
      refine (HSEA.out X (HEW.out.under I.out.gl.src.below)).mono ?_
      rintro e X1 ⟨kz, nz, tz, fz, az, bz, cz, Sz, lz, oz, rfl, g1⟩
      have J := Lib.hid (I.out.under g1)
      have D := Lib.hid (And.intro (D.out.1.under g1) D.out.2)
      go_wp2_with fail
      refine hK.out _ _ ⟨(row8 J.out.rep).2.1, (row8 J.out.rep).2.2.1⟩ (fun _ => ?_)
      clear hK K
      try simp only [Act.put, List.setIfInBounds_toArray, List.set_cons_zero, List.set_cons_succ]
      clear g1 I
      refine El.genH (fun X => Pst w b0 w2 gr gq k (S nl) t f A (.slice Sr L.length ur) L X ∧ Row X ga 26 (repC 0 ⟨#[]⟩ 0 0 0 0 0 (.slice none 0 0)) ∧ ga ≠ gr ∧ ga ≠ gq ∧ ga ≠ b0 ∧ w2.heap.size ≤ ga) ⟨J.out, D.out⟩ ?_
      clear J D
      rintro X ⟨I, D⟩
      have I := Lib.hid I
      have D := Lib.hid D
      have hS : X.cell? ⟨gr, 1, none⟩ = some (.string (S nl)) ∧ X.cell? ⟨gr, 2, none⟩ = some (.int .i64 t) := ⟨(row8 I.out.rep).2.1, (row8 I.out.rep).2.2.1⟩
      refine wpAnyH_take (i := 15) (oi := ⟨some 56, _, _, _, _, none⟩) (v := ?_) rfl (by kernel_rfl) (by kernel_rfl) (by kernel_rfl) (fun _ _ _ h => h) (Or.inl ⟨by rfl, ?_⟩) (by assumption) ?_
      case refine_2 => (intro wx hSx; (try dsimp only at hSx); go_simp; first | done | with_reducible rfl)
      try simp only [Act.put, List.setIfInBounds_toArray, List.set_cons_zero, List.set_cons_succ]
      refine wpAnyH_take (i := 16) (oi := ⟨some 72, _, _, _, _, none⟩) (v := ?_) rfl (by kernel_rfl) (by kernel_rfl) (by kernel_rfl) (fun _ _ _ h => h) (Or.inl ⟨by rfl, ?_⟩) (by assumption) ?_
      case refine_2 => (intro wx hSx; (try dsimp only at hSx); go_simp; first | done | with_reducible rfl)
      try simp only [Act.put, List.setIfInBounds_toArray, List.set_cons_zero, List.set_cons_succ]
      refine wpAnyH_take (i := 17) (oi := ⟨some 73, _, _, _, _, none⟩) (v := ?_) rfl (by kernel_rfl) (by kernel_rfl) (by kernel_rfl) (fun _ _ _ h => h) (Or.inl ⟨by rfl, ?_⟩) (by assumption) ?_
      case refine_2 => (intro wx hSx; (try dsimp only at hSx); go_simp; first | done | with_reducible rfl)
      try simp only [Act.put, List.setIfInBounds_toArray, List.set_cons_zero, List.set_cons_succ]
      have hS : X.cell? ⟨gr, 1, none⟩ = some (.string (S nl)) ∧ X.cell? ⟨gr, 2, none⟩ = some (.int .i64 t) := ⟨(row8 I.out.rep).2.1, (row8 I.out.rep).2.2.1⟩
      refine wpAnyH_ready (rs := [19]) (by kernel_rfl) (by simp) ?_
      refine AllReadyH.cons (o := ⟨none, _, _, _, _, none⟩) rfl (fun K hK => ?_) AllReadyH.nil
      have f0 := D.out.1.thaw 0
      have f1 := D.out.1.thaw 1
      have f2 := D.out.1.thaw 2
      have f3 := D.out.1.thaw 3
      have f4 := D.out.1.thaw 4
      have f5 := D.out.1.thaw 5
      have f6 := D.out.1.thaw 6
      have f7 := D.out.1.thaw 7
      obtain ⟨q0, q1, q2, q3, q4, q5, q6, q7⟩ := row8 D.out.1
      have J := Lib.hid (I.out.fill D.out.1 D.out.2 (.int .i64 kz) (.string nz) (.int .i64 tz) (.int .i64 fz) (.int .i64 az) (.int .i64 bz) (.int .i64 cz) (.slice Sz lz oz))
      go_simp
      refine hK.out _ _ ⟨(row8 J.out.rep).2.1, (row8 J.out.rep).2.2.1⟩ (fun _ => ?_)
      clear hK K
      try simp only [Act.put, List.setIfInBounds_toArray, List.set_cons_zero, List.set_cons_succ]
      clear f0 f1 f2 f3 f4 f5 f6 f7 q0 q1 q2 q3 q4 q5 q6 q7 I D hS
      refine El.genH (fun X => Pst w b0 w2 gr gq k (S nl) t f A (.slice Sr L.length ur) L X) (J.out.under ⟨rfl, rfl, rfl, Nat.le_refl _, fun _ _ => rfl⟩) ?_
      clear J
      rintro X I
      have I := Lib.hid I
      have hS : X.cell? ⟨gr, 1, none⟩ = some (.string (S nl)) ∧ X.cell? ⟨gr, 2, none⟩ = some (.int .i64 t) := ⟨(row8 I.out.rep).2.1, (row8 I.out.rep).2.2.1⟩
      refine wpAnyH_take (i := 20) (oi := ⟨some 11, _, _, _, _, none⟩) (v := ?_) rfl (by kernel_rfl) (by kernel_rfl) (by kernel_rfl) (fun _ _ _ h => h) (Or.inl ⟨by rfl, ?_⟩) (by assumption) ?_
      case refine_2 => (intro wx hSx; (try dsimp only at hSx); go_simp; first | done | with_reducible rfl)
      try simp only [Act.put, List.setIfInBounds_toArray, List.set_cons_zero, List.set_cons_succ]
      refine wpAnyH_done (by kernel_rfl) ?_ _
      go_wp2_with fail
      go_meet
      exact ⟨rfl, I.out⟩
  case rest =>
  obtain ⟨he, hI⟩ := hcut
  subst he
  have I := Lib.hid hI
  clear hI
  have hla : (⟨#[76, 65, 78, 68, 32]⟩ : ByteArray) = S [76, 65, 78, 68, 32] := rfl
  have l5 : ([76, 65, 78, 68, 32] : List UInt8).length = 5 := rfl
  go_upto_region 11 with fail
  go_cut [12, 13] from 74 to 89 (fun _ e X => e = .int .i64 3 ∧ Pst w b0 w2 gr gq k (S nl) t f A (.slice Sr L.length ur) L X)
  case first =>
    refine wp_region_held_drew (S := (fun w' : World => w'.cell? ⟨gr, 1, none⟩ = some (.string (S nl)) ∧ w'.cell? ⟨gr, 2, none⟩ = some (.int .i64 t))) (by kernel_rfl) ⟨(row8 I.out.rep).2.1, (row8 I.out.rep).2.2.1⟩ (fun hS => ?_)
    refine wpAnyH_take (i := 0) (oi := ⟨some 75, _, _, _, _, none⟩) (v := ?_) rfl (by kernel_rfl) (by kernel_rfl) (by kernel_rfl) (fun _ _ _ h => h) (Or.inl ⟨by rfl, ?_⟩) (by assumption) ?_
    case refine_2 => (intro wx hSx; (try dsimp only at hSx); go_simp; first | done | with_reducible rfl)
    try simp only [Act.put, List.setIfInBounds_toArray, List.set_cons_zero, List.set_cons_succ]
    refine wpAnyH_take (i := 1) (oi := ⟨some 76, _, _, _, _, none⟩) (v := ?_) rfl (by kernel_rfl) (by kernel_rfl) (by kernel_rfl) (fun _ _ _ h => h) (Or.inl ⟨by rfl, ?_⟩) (by assumption) ?_
    case refine_2 => (intro wx hSx; (try dsimp only at hSx); go_simp; first | done | with_reducible rfl)
    try simp only [Act.put, List.setIfInBounds_toArray, List.set_cons_zero, List.set_cons_succ]
    refine wpAnyH_take (i := 2) (oi := ⟨some 77, _, _, _, _, none⟩) (v := ?_) rfl (by kernel_rfl) (by kernel_rfl) (by kernel_rfl) (fun _ _ _ h => h) (Or.inl ⟨by rfl, ?_⟩) (by assumption) ?_
    case refine_2 => (intro wx hSx; (try dsimp only at hSx); go_simp; first | done | with_reducible rfl)
    try simp only [Act.put, List.setIfInBounds_toArray, List.set_cons_zero, List.set_cons_succ]
    refine wpAnyH_take (i := 3) (oi := ⟨some 78, _, _, _, _, none⟩) (v := ?_) rfl (by kernel_rfl) (by kernel_rfl) (by kernel_rfl) (fun _ _ _ h => h) (Or.inl ⟨by rfl, ?_⟩) (by assumption) ?_
    case refine_2 => (intro wx hSx; (try dsimp only at hSx); go_simp; first | done | with_reducible rfl)
    try simp only [Act.put, List.setIfInBounds_toArray, List.set_cons_zero, List.set_cons_succ]
    refine wpAnyH_take (i := 4) (oi := ⟨some 79, _, _, _, _, none⟩) (v := ?_) rfl (by kernel_rfl) (by kernel_rfl) (by kernel_rfl) (fun _ _ _ h => h) (Or.inl ⟨by rfl, ?_⟩) (by assumption) ?_
    case refine_2 => (intro wx hSx; (try dsimp only at hSx); go_simp; first | done | with_reducible rfl)
    try simp only [Act.put, List.setIfInBounds_toArray, List.set_cons_zero, List.set_cons_succ]
    refine wpAnyH_take (i := 5) (oi := ⟨some 80, _, _, _, _, none⟩) (v := ?_) rfl (by kernel_rfl) (by kernel_rfl) (by kernel_rfl) (fun _ _ _ h => h) (Or.inl ⟨by rfl, ?_⟩) (by assumption) ?_
    case refine_2 => (intro wx hSx; (try dsimp only at hSx); go_simp; first | done | with_reducible rfl)
    try simp only [Act.put, List.setIfInBounds_toArray, List.set_cons_zero, List.set_cons_succ]
    refine wpAnyH_take (i := 9) (oi := ⟨some 84, _, _, _, _, none⟩) (v := ?_) rfl (by kernel_rfl) (by kernel_rfl) (by kernel_rfl) (fun _ _ _ h => h) (Or.inl ⟨by rfl, ?_⟩) (by assumption) ?_
    case refine_2 => (intro wx hSx; (try dsimp only at hSx); go_simp; first | done | with_reducible rfl)
    try simp only [Act.put, List.setIfInBounds_toArray, List.set_cons_zero, List.set_cons_succ]
    refine wpAnyH_take (i := 11) (oi := ⟨some 86, _, _, _, _, none⟩) (v := ?_) rfl (by kernel_rfl) (by kernel_rfl) (by kernel_rfl) (fun _ _ _ h => h) (Or.inl ⟨by rfl, ?_⟩) (by assumption) ?_
    case refine_2 => (intro wx hSx; (try dsimp only at hSx); go_simp; first | done | with_reducible rfl)
    try simp only [Act.put, List.setIfInBounds_toArray, List.set_cons_zero, List.set_cons_succ]
    have J := Lib.hid (I.out.under (show Below wc.heap.size wc wc.drew from ⟨rfl, rfl, rfl, Nat.le_refl _, fun _ _ => rfl⟩))
    clear I hS
    refine El.genH (fun X => Pst w b0 w2 gr gq k (S nl) t f A (.slice Sr L.length ur) L X) J.out ?_
    clear J
    rintro X I
    have I := Lib.hid I
    refine wpAnyH_ready (rs := [6, 16]) (by kernel_rfl) (by simp) ?_
    refine AllReadyH.cons (o := ⟨some 81, _, _, _, _, none⟩) rfl (fun K hK => ?_) (AllReadyH.cons (o := ⟨some 12, _, _, _, _, none⟩) rfl (fun K hK => ?_) AllReadyH.nil)
    · go_simp
      refine (HGR.out X).mono ?_
      rintro e X1 ⟨rfl, g1⟩
      have J := Lib.hid (I.out.under g1)
      go_wp2_with fail
      refine hK.out _ _ ⟨(row8 J.out.rep).2.1, (row8 J.out.rep).2.2.1⟩ (fun _ => ?_)
      clear hK K
      try simp only [Act.put, List.setIfInBounds_toArray, List.set_cons_zero, List.set_cons_succ]
      clear g1 I
      refine El.genH (fun X => Pst w b0 w2 gr gq k (S nl) t f A (.slice Sr L.length ur) L X) J.out ?_
      clear J
      rintro X I
      have I := Lib.hid I
      have hS : X.cell? ⟨gr, 1, none⟩ = some (.string (S nl)) ∧ X.cell? ⟨gr, 2, none⟩ = some (.int .i64 t) := ⟨(row8 I.out.rep).2.1, (row8 I.out.rep).2.2.1⟩
      refine wpAnyH_take (i := 7) (oi := ⟨some 82, _, _, _, _, none⟩) (v := ?_) rfl (by kernel_rfl) (by kernel_rfl) (by kernel_rfl) (fun _ _ _ h => h) (Or.inl ⟨by rfl, ?_⟩) (by assumption) ?_
      case refine_2 => (intro wx hSx; (try dsimp only at hSx); go_simp; first | done | with_reducible rfl)
      try simp only [Act.put, List.setIfInBounds_toArray, List.set_cons_zero, List.set_cons_succ]
      refine wpAnyH_take (i := 8) (oi := ⟨some 83, _, _, _, _, none⟩) (v := ?_) rfl (by kernel_rfl) (by kernel_rfl) (by kernel_rfl) (fun _ _ _ h => h) (Or.inl ⟨by rfl, ?_⟩) (by assumption) ?_
      case refine_2 => (intro wx hSx; (try dsimp only at hSx); go_simp; first | done | with_reducible rfl)
      try simp only [Act.put, List.setIfInBounds_toArray, List.set_cons_zero, List.set_cons_succ]
      refine wpAnyH_take (i := 10) (oi := ⟨some 85, _, _, _, _, none⟩) (v := ?_) rfl (by kernel_rfl) (by kernel_rfl) (by kernel_rfl) (fun _ _ _ h => h) (Or.inl ⟨by rfl, ?_⟩) (by assumption) ?_
      case refine_2 => (intro wx hSx; (try dsimp only at hSx); go_simp; first | done | with_reducible rfl)
      try simp only [Act.put, List.setIfInBounds_toArray, List.set_cons_zero, List.set_cons_succ]
      refine wpAnyH_ready (rs := [12, 16]) (by kernel_rfl) (by simp) ?_
      refine AllReadyH.cons (o := ⟨some 87, _, _, _, _, none⟩) rfl (fun K hK => ?_) (AllReadyH.cons (o := ⟨some 12, _, _, _, _, none⟩) rfl (fun K hK => ?_) AllReadyH.nil)
      · go_simp
        refine (HLAN.out X (HEW.out.under I.out.gl.src.below)).mono ?_
        rintro e X1 ⟨kz, nz, tz, fz, az, bz, cz, Sz, lz, oz, rfl, g1⟩
        have J := Lib.hid (I.out.under g1)
        go_wp2_with fail
        refine hK.out _ _ ⟨(row8 J.out.rep).2.1, (row8 J.out.rep).2.2.1⟩ (fun _ => ?_)
        clear hK K
        try simp only [Act.put, List.setIfInBounds_toArray, List.set_cons_zero, List.set_cons_succ]
        clear g1 I
        refine El.genH (fun X => Pst w b0 w2 gr gq k (S nl) t f A (.slice Sr L.length ur) L X) J.out ?_
        clear J
        rintro X I
        have I := Lib.hid I
        have hS : X.cell? ⟨gr, 1, none⟩ = some (.string (S nl)) ∧ X.cell? ⟨gr, 2, none⟩ = some (.int .i64 t) := ⟨(row8 I.out.rep).2.1, (row8 I.out.rep).2.2.1⟩
        refine wpAnyH_take (i := 13) (oi := ⟨some 74, _, _, _, _, none⟩) (v := ?_) rfl (by kernel_rfl) (by kernel_rfl) (by kernel_rfl) (fun _ _ _ h => h) (Or.inl ⟨by rfl, ?_⟩) (by assumption) ?_
        case refine_2 => (intro wx hSx; (try dsimp only at hSx); go_simp; first | done | with_reducible rfl)
        try simp only [Act.put, List.setIfInBounds_toArray, List.set_cons_zero, List.set_cons_succ]
        refine wpAnyH_take (i := 14) (oi := ⟨some 88, _, _, _, _, none⟩) (v := ?_) rfl (by kernel_rfl) (by kernel_rfl) (by kernel_rfl) (fun _ _ _ h => h) (Or.inl ⟨by rfl, ?_⟩) (by assumption) ?_
        case refine_2 => (intro wx hSx; (try dsimp only at hSx); go_simp; first | done | with_reducible rfl)
        try simp only [Act.put, List.setIfInBounds_toArray, List.set_cons_zero, List.set_cons_succ]
        refine wpAnyH_take (i := 15) (oi := ⟨some 89, _, _, _, _, none⟩) (v := ?_) rfl (by kernel_rfl) (by kernel_rfl) (by kernel_rfl) (fun _ _ _ h => h) (Or.inl ⟨by rfl, ?_⟩) (by assumption) ?_
        case refine_2 => (intro wx hSx; (try dsimp only at hSx); go_simp; first | done | with_reducible rfl)
        try simp only [Act.put, List.setIfInBounds_toArray, List.set_cons_zero, List.set_cons_succ]
        refine wpAnyH_ready (rs := [16]) (by kernel_rfl) (by simp) ?_
        refine AllReadyH.cons (o := ⟨some 12, _, _, _, _, none⟩) rfl (fun K hK => ?_) AllReadyH.nil
        have J := Lib.hid (I.out.under ((Below.refl X.heap.size X).alloc (Nat.le_refl _) (.cells (repC 0 ⟨#[]⟩ 0 0 0 0 0 (.slice none 0 0)) 26)))
        have D := Lib.hid (And.intro (Row.new X (repC 0 ⟨#[]⟩ 0 0 0 0 0 (.slice none 0 0)) 26) (And.intro (Nat.ne_of_gt I.out.rep.lt) (And.intro (Nat.ne_of_gt I.out.pla.lt) (And.intro (Nat.ne_of_gt (src_lt I.out.gl.src)) I.out.gl.gro.size))))
        go_simp
        refine hK.out _ _ ⟨(row8 J.out.rep).2.1, (row8 J.out.rep).2.2.1⟩ (fun _ => ?_)
        clear hK K
        try simp only [Act.put, List.setIfInBounds_toArray, List.set_cons_zero, List.set_cons_succ]
        clear I
        generalize X.heap.size = ga at *
        refine El.genH (fun X => Pst w b0 w2 gr gq k (S nl) t f A (.slice Sr L.length ur) L X ∧ Row X ga 26 (repC 0 ⟨#[]⟩ 0 0 0 0 0 (.slice none 0 0)) ∧ ga ≠ gr ∧ ga ≠ gq ∧ ga ≠ b0 ∧ w2.heap.size ≤ ga) ⟨J.out, D.out⟩ ?_
        clear J D
        rintro X ⟨I, D⟩
        have I := Lib.hid I
        have D := Lib.hid D
        have hS : X.cell? ⟨gr, 1, none⟩ = some (.string (S nl)) ∧ X.cell? ⟨gr, 2, none⟩ = some (.int .i64 t) := ⟨(row8 I.out.rep).2.1, (row8 I.out.rep).2.2.1⟩
        refine wpAnyH_ready (rs := [17]) (by kernel_rfl) (by simp) ?_
        refine AllReadyH.cons (o := ⟨none, _, _, _, _, none⟩) rfl (fun K hK => ?_) AllReadyH.nil
        have f0 := D.out.1.thaw 0
        have f1 := D.out.1.thaw 1
        have f2 := D.out.1.thaw 2
        have f3 := D.out.1.thaw 3
        have f4 := D.out.1.thaw 4
        have f5 := D.out.1.thaw 5
        have f6 := D.out.1.thaw 6
        have f7 := D.out.1.thaw 7
        obtain ⟨q0, q1, q2, q3, q4, q5, q6, q7⟩ := row8 D.out.1
        have J := Lib.hid (I.out.fill D.out.1 D.out.2 (.int .i64 kz) (.string nz) (.int .i64 tz) (.int .i64 fz) (.int .i64 az) (.int .i64 bz) (.int .i64 cz) (.slice Sz lz oz))
        go_simp
        refine hK.out _ _ ⟨(row8 J.out.rep).2.1, (row8 J.out.rep).2.2.1⟩ (fun _ => ?_)
        clear hK K
        try simp only [Act.put, List.setIfInBounds_toArray, List.set_cons_zero, List.set_cons_succ]
        clear f0 f1 f2 f3 f4 f5 f6 f7 q0 q1 q2 q3 q4 q5 q6 q7 I D hS
        refine El.genH (fun X => Pst w b0 w2 gr gq k (S nl) t f A (.slice Sr L.length ur) L X) (J.out.under ⟨rfl, rfl, rfl, Nat.le_refl _, fun _ _ => rfl⟩) ?_
        clear J
        rintro X I
        have I := Lib.hid I
        have hS : X.cell? ⟨gr, 1, none⟩ = some (.string (S nl)) ∧ X.cell? ⟨gr, 2, none⟩ = some (.int .i64 t) := ⟨(row8 I.out.rep).2.1, (row8 I.out.rep).2.2.1⟩
        refine wpAnyH_take (i := 18) (oi := ⟨some 13, _, _, _, _, none⟩) (v := ?_) rfl (by kernel_rfl) (by kernel_rfl) (by kernel_rfl) (fun _ _ _ h => h) (Or.inl ⟨by rfl, ?_⟩) (by assumption) ?_
        case refine_2 => (intro wx hSx; (try dsimp only at hSx); go_simp; first | done | with_reducible rfl)
        try simp only [Act.put, List.setIfInBounds_toArray, List.set_cons_zero, List.set_cons_succ]
        refine wpAnyH_done (by kernel_rfl) ?_ _
        go_wp2_with fail
        go_meet
        exact ⟨rfl, I.out⟩
      · have J := Lib.hid (I.out.under ((Below.refl X.heap.size X).alloc (Nat.le_refl _) (.cells (repC 0 ⟨#[]⟩ 0 0 0 0 0 (.slice none 0 0)) 26)))
        have D := Lib.hid (And.intro (Row.new X (repC 0 ⟨#[]⟩ 0 0 0 0 0 (.slice none 0 0)) 26) (And.intro (Nat.ne_of_gt I.out.rep.lt) (And.intro (Nat.ne_of_gt I.out.pla.lt) (And.intro (Nat.ne_of_gt (src_lt I.out.gl.src)) I.out.gl.gro.size))))
        go_simp
        refine hK.out _ _ ⟨(row8 J.out.rep).2.1, (row8 J.out.rep).2.2.1⟩ (fun _ => ?_)
        clear hK K
        try simp only [Act.put, List.setIfInBounds_toArray, List.set_cons_zero, List.set_cons_succ]
        clear I
        generalize X.heap.size = ga at *
        refine El.genH (fun X => Pst w b0 w2 gr gq k (S nl) t f A (.slice Sr L.length ur) L X ∧ Row X ga 26 (repC 0 ⟨#[]⟩ 0 0 0 0 0 (.slice none 0 0)) ∧ ga ≠ gr ∧ ga ≠ gq ∧ ga ≠ b0 ∧ w2.heap.size ≤ ga) ⟨J.out, D.out⟩ ?_
        clear J D
        rintro X ⟨I, D⟩
        have I := Lib.hid I
        have D := Lib.hid D
        refine wpAnyH_ready (rs := [12]) (by kernel_rfl) (by simp) ?_
        refine AllReadyH.cons (o := ⟨some 87, _, _, _, _, none⟩) rfl (fun K hK => ?_) AllReadyH.nil
        go_simp
        refine (HLAN.out X (HEW.out.under I.out.gl.src.below)).mono ?_
        rintro e X1 ⟨kz, nz, tz, fz, az, bz, cz, Sz, lz, oz, rfl, g1⟩
        have J := Lib.hid (I.out.under g1)
        have D := Lib.hid (And.intro (D.out.1.under g1) D.out.2)
        go_wp2_with fail
        refine hK.out _ _ ⟨(row8 J.out.rep).2.1, (row8 J.out.rep).2.2.1⟩ (fun _ => ?_)
        clear hK K
        try simp only [Act.put, List.setIfInBounds_toArray, List.set_cons_zero, List.set_cons_succ]
        clear g1 I
        refine El.genH (fun X => Pst w b0 w2 gr gq k (S nl) t f A (.slice Sr L.length ur) L X ∧ Row X ga 26 (repC 0 ⟨#[]⟩ 0 0 0 0 0 (.slice none 0 0)) ∧ ga ≠ gr ∧ ga ≠ gq ∧ ga ≠ b0 ∧ w2.heap.size ≤ ga) ⟨J.out, D.out⟩ ?_
        clear J D
        rintro X ⟨I, D⟩
        have I := Lib.hid I
        have D := Lib.hid D
        have hS : X.cell? ⟨gr, 1, none⟩ = some (.string (S nl)) ∧ X.cell? ⟨gr, 2, none⟩ = some (.int .i64 t) := ⟨(row8 I.out.rep).2.1, (row8 I.out.rep).2.2.1⟩
        refine wpAnyH_take (i := 13) (oi := ⟨some 74, _, _, _, _, none⟩) (v := ?_) rfl (by kernel_rfl) (by kernel_rfl) (by kernel_rfl) (fun _ _ _ h => h) (Or.inl ⟨by rfl, ?_⟩) (by assumption) ?_
        case refine_2 => (intro wx hSx; (try dsimp only at hSx); go_simp; first | done | with_reducible rfl)
        try simp only [Act.put, List.setIfInBounds_toArray, List.set_cons_zero, List.set_cons_succ]
        refine wpAnyH_take (i := 14) (oi := ⟨some 88, _, _, _, _, none⟩) (v := ?_) rfl (by kernel_rfl) (by kernel_rfl) (by kernel_rfl) (fun _ _ _ h => h) (Or.inl ⟨by rfl, ?_⟩) (by assumption) ?_
        case refine_2 => (intro wx hSx; (try dsimp only at hSx); go_simp; first | done | with_reducible rfl)
        try simp only [Act.put, List.setIfInBounds_toArray, List.set_cons_zero, List.set_cons_succ]
        refine wpAnyH_take (i := 15) (oi := ⟨some 89, _, _, _, _, none⟩) (v := ?_) rfl (by kernel_rfl) (by kernel_rfl) (by kernel_rfl) (fun _ _ _ h => h) (Or.inl ⟨by rfl, ?_⟩) (by assumption) ?_
        case refine_2 => (intro wx hSx; (try dsimp only at hSx); go_simp; first | done | with_reducible rfl)
        try simp only [Act.put, List.setIfInBounds_toArray, List.set_cons_zero, List.set_cons_succ]
        have hS : X.cell? ⟨gr, 1, none⟩ = some (.string (S nl)) ∧ X.cell? ⟨gr, 2, none⟩ = some (.int .i64 t) := ⟨(row8 I.out.rep).2.1, (row8 I.out.rep).2.2.1⟩
        refine wpAnyH_ready (rs := [17]) (by kernel_rfl) (by simp) ?_
        refine AllReadyH.cons (o := ⟨none, _, _, _, _, none⟩) rfl (fun K hK => ?_) AllReadyH.nil
        have f0 := D.out.1.thaw 0
        have f1 := D.out.1.thaw 1
        have f2 := D.out.1.thaw 2
        have f3 := D.out.1.thaw 3
        have f4 := D.out.1.thaw 4
        have f5 := D.out.1.thaw 5
        have f6 := D.out.1.thaw 6
        have f7 := D.out.1.thaw 7
        obtain ⟨q0, q1, q2, q3, q4, q5, q6, q7⟩ := row8 D.out.1
        have J := Lib.hid (I.out.fill D.out.1 D.out.2 (.int .i64 kz) (.string nz) (.int .i64 tz) (.int .i64 fz) (.int .i64 az) (.int .i64 bz) (.int .i64 cz) (.slice Sz lz oz))
        go_simp
        refine hK.out _ _ ⟨(row8 J.out.rep).2.1, (row8 J.out.rep).2.2.1⟩ (fun _ => ?_)
        clear hK K
        try simp only [Act.put, List.setIfInBounds_toArray, List.set_cons_zero, List.set_cons_succ]
        clear f0 f1 f2 f3 f4 f5 f6 f7 q0 q1 q2 q3 q4 q5 q6 q7 I D hS
        refine El.genH (fun X => Pst w b0 w2 gr gq k (S nl) t f A (.slice Sr L.length ur) L X) (J.out.under ⟨rfl, rfl, rfl, Nat.le_refl _, fun _ _ => rfl⟩) ?_
        clear J
        rintro X I
        have I := Lib.hid I
        have hS : X.cell? ⟨gr, 1, none⟩ = some (.string (S nl)) ∧ X.cell? ⟨gr, 2, none⟩ = some (.int .i64 t) := ⟨(row8 I.out.rep).2.1, (row8 I.out.rep).2.2.1⟩
        refine wpAnyH_take (i := 18) (oi := ⟨some 13, _, _, _, _, none⟩) (v := ?_) rfl (by kernel_rfl) (by kernel_rfl) (by kernel_rfl) (fun _ _ _ h => h) (Or.inl ⟨by rfl, ?_⟩) (by assumption) ?_
        case refine_2 => (intro wx hSx; (try dsimp only at hSx); go_simp; first | done | with_reducible rfl)
        try simp only [Act.put, List.setIfInBounds_toArray, List.set_cons_zero, List.set_cons_succ]
        refine wpAnyH_done (by kernel_rfl) ?_ _
        go_wp2_with fail
        go_meet
        exact ⟨rfl, I.out⟩
    · have J := Lib.hid (I.out.under ((Below.refl X.heap.size X).alloc (Nat.le_refl _) (.cells (repC 0 ⟨#[]⟩ 0 0 0 0 0 (.slice none 0 0)) 26)))
      have D := Lib.hid (And.intro (Row.new X (repC 0 ⟨#[]⟩ 0 0 0 0 0 (.slice none 0 0)) 26) (And.intro (Nat.ne_of_gt I.out.rep.lt) (And.intro (Nat.ne_of_gt I.out.pla.lt) (And.intro (Nat.ne_of_gt (src_lt I.out.gl.src)) I.out.gl.gro.size))))
      go_simp
      refine hK.out _ _ ⟨(row8 J.out.rep).2.1, (row8 J.out.rep).2.2.1⟩ (fun _ => ?_)
      clear hK K
      try simp only [Act.put, List.setIfInBounds_toArray, List.set_cons_zero, List.set_cons_succ]
      clear I
      generalize X.heap.size = ga at *
      refine El.genH (fun X => Pst w b0 w2 gr gq k (S nl) t f A (.slice Sr L.length ur) L X ∧ Row X ga 26 (repC 0 ⟨#[]⟩ 0 0 0 0 0 (.slice none 0 0)) ∧ ga ≠ gr ∧ ga ≠ gq ∧ ga ≠ b0 ∧ w2.heap.size ≤ ga) ⟨J.out, D.out⟩ ?_
      clear J D
      rintro X ⟨I, D⟩
      have I := Lib.hid I
      have D := Lib.hid D
      refine wpAnyH_ready (rs := [6]) (by kernel_rfl) (by simp) ?_
      refine AllReadyH.cons (o := ⟨some 81, _, _, _, _, none⟩) rfl (fun K hK => ?_) AllReadyH.nil
      go_simp
      refine (HGR.out X).mono ?_
      rintro e X1 ⟨rfl, g1⟩
      have J := Lib.hid (I.out.under g1)
      have D := Lib.hid (And.intro (D.out.1.under g1) D.out.2)
      go_wp2_with fail
      refine hK.out _ _ ⟨(row8 J.out.rep).2.1, (row8 J.out.rep).2.2.1⟩ (fun _ => ?_)
      clear hK K
      try simp only [Act.put, List.setIfInBounds_toArray, List.set_cons_zero, List.set_cons_succ]
      clear g1 I
      refine El.genH (fun X => Pst w b0 w2 gr gq k (S nl) t f A (.slice Sr L.length ur) L X ∧ Row X ga 26 (repC 0 ⟨#[]⟩ 0 0 0 0 0 (.slice none 0 0)) ∧ ga ≠ gr ∧ ga ≠ gq ∧ ga ≠ b0 ∧ w2.heap.size ≤ ga) ⟨J.out, D.out⟩ ?_
      clear J D
      rintro X ⟨I, D⟩
      have I := Lib.hid I
      have D := Lib.hid D
      have hS : X.cell? ⟨gr, 1, none⟩ = some (.string (S nl)) ∧ X.cell? ⟨gr, 2, none⟩ = some (.int .i64 t) := ⟨(row8 I.out.rep).2.1, (row8 I.out.rep).2.2.1⟩
      refine wpAnyH_take (i := 7) (oi := ⟨some 82, _, _, _, _, none⟩) (v := ?_) rfl (by kernel_rfl) (by kernel_rfl) (by kernel_rfl) (fun _ _ _ h => h) (Or.inl ⟨by rfl, ?_⟩) (by assumption) ?_
      case refine_2 => (intro wx hSx; (try dsimp only at hSx); go_simp; first | done | with_reducible rfl)
      try simp only [Act.put, List.setIfInBounds_toArray, List.set_cons_zero, List.set_cons_succ]
      refine wpAnyH_take (i := 8) (oi := ⟨some 83, _, _, _, _, none⟩) (v := ?_) rfl (by kernel_rfl) (by kernel_rfl) (by kernel_rfl) (fun _ _ _ h => h) (Or.inl ⟨by rfl, ?_⟩) (by assumption) ?_
      case refine_2 => (intro wx hSx; (try dsimp only at hSx); go_simp; first | done | with_reducible rfl)
      try simp only [Act.put, List.setIfInBounds_toArray, List.set_cons_zero, List.set_cons_succ]
      refine wpAnyH_take (i := 10) (oi := ⟨some 85, _, _, _, _, none⟩) (v := ?_) rfl (by kernel_rfl) (by kernel_rfl) (by kernel_rfl) (fun _ _ _ h => h) (Or.inl ⟨by rfl, ?_⟩) (by assumption) ?_
      case refine_2 => (intro wx hSx; (try dsimp only at hSx); go_simp; first | done | with_reducible rfl)
      try simp only [Act.put, List.setIfInBounds_toArray, List.set_cons_zero, List.set_cons_succ]
      refine wpAnyH_ready (rs := [12]) (by kernel_rfl) (by simp) ?_
      refine AllReadyH.cons (o := ⟨some 87, _, _, _, _, none⟩) rfl (fun K hK => ?_) AllReadyH.nil
      go_simp
      refine (HLAN.out X (HEW.out.under I.out.gl.src.below)).mono ?_
      rintro e X1 ⟨kz, nz, tz, fz, az, bz, cz, Sz, lz, oz, rfl, g1⟩
      have J := Lib.hid (I.out.under g1)
      have D := Lib.hid (And.intro (D.out.1.under g1) D.out.2)
      go_wp2_with fail
      refine hK.out _ _ ⟨(row8 J.out.rep).2.1, (row8 J.out.rep).2.2.1⟩ (fun _ => ?_)
      clear hK K
      try simp only [Act.put, List.setIfInBounds_toArray, List.set_cons_zero, List.set_cons_succ]
      clear g1 I
      refine El.genH (fun X => Pst w b0 w2 gr gq k (S nl) t f A (.slice Sr L.length ur) L X ∧ Row X ga 26 (repC 0 ⟨#[]⟩ 0 0 0 0 0 (.slice none 0 0)) ∧ ga ≠ gr ∧ ga ≠ gq ∧ ga ≠ b0 ∧ w2.heap.size ≤ ga) ⟨J.out, D.out⟩ ?_
      clear J D
      rintro X ⟨I, D⟩
      have I := Lib.hid I
      have D := Lib.hid D
      have hS : X.cell? ⟨gr, 1, none⟩ = some (.string (S nl)) ∧ X.cell? ⟨gr, 2, none⟩ = some (.int .i64 t) := ⟨(row8 I.out.rep).2.1, (row8 I.out.rep).2.2.1⟩
      refine wpAnyH_take (i := 13) (oi := ⟨some 74, _, _, _, _, none⟩) (v := ?_) rfl (by kernel_rfl) (by kernel_rfl) (by kernel_rfl) (fun _ _ _ h => h) (Or.inl ⟨by rfl, ?_⟩) (by assumption) ?_
      case refine_2 => (intro wx hSx; (try dsimp only at hSx); go_simp; first | done | with_reducible rfl)
      try simp only [Act.put, List.setIfInBounds_toArray, List.set_cons_zero, List.set_cons_succ]
      refine wpAnyH_take (i := 14) (oi := ⟨some 88, _, _, _, _, none⟩) (v := ?_) rfl (by kernel_rfl) (by kernel_rfl) (by kernel_rfl) (fun _ _ _ h => h) (Or.inl ⟨by rfl, ?_⟩) (by assumption) ?_
      case refine_2 => (intro wx hSx; (try dsimp only at hSx); go_simp; first | done | with_reducible rfl)
      try simp only [Act.put, List.setIfInBounds_toArray, List.set_cons_zero, List.set_cons_succ]
      refine wpAnyH_take (i := 15) (oi := ⟨some 89, _, _, _, _, none⟩) (v := ?_) rfl (by kernel_rfl) (by kernel_rfl) (by kernel_rfl) (fun _ _ _ h => h) (Or.inl ⟨by rfl, ?_⟩) (by assumption) ?_
      case refine_2 => (intro wx hSx; (try dsimp only at hSx); go_simp; first | done | with_reducible rfl)
      try simp only [Act.put, List.setIfInBounds_toArray, List.set_cons_zero, List.set_cons_succ]
      have hS : X.cell? ⟨gr, 1, none⟩ = some (.string (S nl)) ∧ X.cell? ⟨gr, 2, none⟩ = some (.int .i64 t) := ⟨(row8 I.out.rep).2.1, (row8 I.out.rep).2.2.1⟩
      refine wpAnyH_ready (rs := [17]) (by kernel_rfl) (by simp) ?_
      refine AllReadyH.cons (o := ⟨none, _, _, _, _, none⟩) rfl (fun K hK => ?_) AllReadyH.nil
      have f0 := D.out.1.thaw 0
      have f1 := D.out.1.thaw 1
      have f2 := D.out.1.thaw 2
      have f3 := D.out.1.thaw 3
      have f4 := D.out.1.thaw 4
      have f5 := D.out.1.thaw 5
      have f6 := D.out.1.thaw 6
      have f7 := D.out.1.thaw 7
      obtain ⟨q0, q1, q2, q3, q4, q5, q6, q7⟩ := row8 D.out.1
      have J := Lib.hid (I.out.fill D.out.1 D.out.2 (.int .i64 kz) (.string nz) (.int .i64 tz) (.int .i64 fz) (.int .i64 az) (.int .i64 bz) (.int .i64 cz) (.slice Sz lz oz))
      go_simp
      refine hK.out _ _ ⟨(row8 J.out.rep).2.1, (row8 J.out.rep).2.2.1⟩ (fun _ => ?_)
      clear hK K
      try simp only [Act.put, List.setIfInBounds_toArray, List.set_cons_zero, List.set_cons_succ]
      clear f0 f1 f2 f3 f4 f5 f6 f7 q0 q1 q2 q3 q4 q5 q6 q7 I D hS
      refine El.genH (fun X => Pst w b0 w2 gr gq k (S nl) t f A (.slice Sr L.length ur) L X) (J.out.under ⟨rfl, rfl, rfl, Nat.le_refl _, fun _ _ => rfl⟩) ?_
      clear J
      rintro X I
      have I := Lib.hid I
      have hS : X.cell? ⟨gr, 1, none⟩ = some (.string (S nl)) ∧ X.cell? ⟨gr, 2, none⟩ = some (.int .i64 t) := ⟨(row8 I.out.rep).2.1, (row8 I.out.rep).2.2.1⟩
      refine wpAnyH_take (i := 18) (oi := ⟨some 13, _, _, _, _, none⟩) (v := ?_) rfl (by kernel_rfl) (by kernel_rfl) (by kernel_rfl) (fun _ _ _ h => h) (Or.inl ⟨by rfl, ?_⟩) (by assumption) ?_
      case refine_2 => (intro wx hSx; (try dsimp only at hSx); go_simp; first | done | with_reducible rfl)
      try simp only [Act.put, List.setIfInBounds_toArray, List.set_cons_zero, List.set_cons_succ]
      refine wpAnyH_done (by kernel_rfl) ?_ _
      go_wp2_with fail
      go_meet
      exact ⟨rfl, I.out⟩
  case rest =>
  obtain ⟨he, hI⟩ := hcut
  subst he
  have I := Lib.hid hI
  clear hI
  obtain ⟨p0, p1, p2, p3, p4, p5, p6, p7⟩ := row8 I.out.rep
  go_wp2_with fail
  refine (HFMT.out _ (El.RdIn.own I.out.gl.own) (HEW.out.under I.out.gl.src.below)).mono ?_
  rintro e Z ⟨rfl, g1⟩
  have BZ := Lib.hid (I.out.gl.src.below.trans (g1.mono I.out.gl.src.below.size))
  clear p0 p1 p2 p3 p4 p5 p6 p7 g1 I
  cases nb
  · obtain rfl : (1 : Int) = r0 := HR0.out
    obtain rfl : (3 : Int) = r1 := HR1.out
    obtain rfl : stx = ⟨#[]⟩ := HLEN.out.2 rfl
    clear HLEN HR0 HR1
    have e0 := empty_eq
    go_wp2_with fail
    refine (awake_from (w0 := w) _ (HEW.out.under BZ.out) BZ.out).mono ?_
    rintro e w9 ⟨rfl, gQ⟩
    go_wp2_with fail
    go_ret
    exact ⟨rfl, gQ⟩
  · obtain rfl : (0 : Int) = r0 := HR0.out
    obtain rfl : (0 : Int) = r1 := HR1.out
    have hsz : 0 < stx.size := HLEN.out.1 rfl
    have hs2 : (0 : Int) < (stx.size : Int) := by omega
    clear HLEN HR0 HR1
    go_wp2_with fail
    refine (awake_from (w0 := w) _ (HEW.out.under BZ.out) BZ.out).mono ?_
    rintro e w9 ⟨rfl, gQ⟩
    go_wp2_with fail
    go_ret
    exact ⟨rfl, gQ⟩
end Go.Proofs.YtkdjmgdgpbmmpaaGreatDoor
