/- Texts of this proof. -/
import Derived.Test.YtcheadbhkbbegaaDoorCmF
import Derived.Test.YtcheadbhkbbegaaDoorQac
import Derived.Test.YtcheadbhkbbegaaDoorQah
import Derived.Test.YtcheadbhkbbegaaDoorQan
namespace Go.Proofs.YtcheadbhkbbegaaDoor
open Go.RowKit

/-- Both tables. -/
structure Env (w : World) : Prop where
  clk : Ck.Tab w
  elt : El.Tab w
theorem Env.under {w w' : World} (h : Env w) (hb : Below w.heap.size w w') : Env w' := ⟨h.clk.under hb, h.elt.under hb⟩
open Classical in
/-- The month of a minute. -/
noncomputable def mth (t : Int) : Int := if h : ∃ m y d hh i : Int, Ck.Cal.vld y m d hh i = true ∧ Ck.Cal.num y m d hh i = t then h.choose else 0
theorem mth_eq {y m d hh i t : Int} (hv : Ck.Cal.vld y m d hh i = true) (ht : Ck.Cal.num y m d hh i = t) : mth t = m := by
  have h : ∃ m y d hh i : Int, Ck.Cal.vld y m d hh i = true ∧ Ck.Cal.num y m d hh i = t := ⟨m, y, d, hh, i, hv, ht⟩
  unfold mth
  rw [dif_pos h]
  obtain ⟨y', d', h', i', hv', ht'⟩ := h.choose_spec
  exact (Ck.Cal.num_inj hv' hv (ht'.trans ht.symm)).2.1
/-- The face and the month, and the error. -/
noncomputable def fam (F A B C t : Int) : Int × Int × Int := if Pl.vb F A B C = true ∧ Ck.Cal.rng t = true then ((Pl.Ico.nf F.toNat A B C : Nat), mth t, 0) else (0, 0, 1)
set_option maxHeartbeats 2000000 in
theorem fam_any (F A B C t : Int) (w : World) (hE : Env w) :
    Calls Tryd.prog 58 #[.agg #[.int .i64 F, .int .i64 A, .int .i64 B, .int .i64 C], .int .i64 t] w fun e w' => e = .returned (.tuple #[.int .i64 (fam F A B C t).1, .int .i64 (fam F A B C t).2.1, .int .i64 (fam F A B C t).2.2]) ∧ Below w.heap.size w w' := by
  have b0 : Below w.heap.size w (w.alloc (.cells #[.int .i64 F, .int .i64 A, .int .i64 B, .int .i64 C] 27)) := (Below.refl _ _).alloc (Nat.le_refl _) _
  have r0 := Row.new w #[.int .i64 F, .int .i64 A, .int .i64 B, .int .i64 C] 27
  have hE0 := hE.under b0
  clear hE
  cases hv : Pl.vb F A B C with
  | false =>
    have HF : Hid (fam F A B C t = (0, 0, 1)) := Lib.hid (by unfold fam; rw [if_neg (by rw [hv]; simp)])
    rw [HF.out]
    have HV := Lib.hid hv; clear hv
    go_enter Tryd.func58, Tryd.ntmps58
    obtain ⟨p0, p1, p2, p3⟩ := row4 r0
    go_wp2_with fail
    refine (Pl.normal_no F A B C _ HV.out).mono ?_
    rintro e w1 ⟨rfl, g1⟩
    have B1 := Lib.hid ((b0.trans (g1.mono (by simp))).alloc (Nat.le_trans b0.size g1.size) (.cells #[.int .i64 0, .int .i64 0, .int .i64 0, .int .i64 0] 27))
    clear b0 r0 g1 hE0 p0 p1 p2 p3
    go_wp2_with fail
    exact bodyPost_ret (v := .tuple #[.int .i64 0, .int .i64 0, .int .i64 1]) (by simp [results, Tryd.results58, go_sem]) rfl ⟨rfl, B1.out⟩
  | true =>
    obtain ⟨f, rfl, hV⟩ := Pl.vb_to hv
    cases hr : Ck.Cal.rng t with
    | false =>
      have HF : Hid (fam (f : Int) A B C t = (0, 0, 1)) := Lib.hid (by unfold fam; rw [if_neg (by rw [hr]; simp)])
      rw [HF.out]
      have HR := Lib.hid hr; clear hr hv
      go_enter Tryd.func58, Tryd.ntmps58
      obtain ⟨p0, p1, p2, p3⟩ := row4 r0
      go_wp2_with fail
      refine (Pl.normal_yes f A B C _ hV).mono ?_
      rintro e w1 ⟨rfl, g1⟩
      generalize Pl.Ico.nf f A B C = nf
      generalize Pl.nw f A B C 0 = n0
      generalize Pl.nw f A B C 1 = n1
      generalize Pl.nw f A B C 2 = n2
      have B1 := Lib.hid ((b0.trans (g1.mono (by simp))).alloc (Nat.le_trans b0.size g1.size) (.cells #[.int .i64 (nf : Int), .int .i64 n0, .int .i64 n1, .int .i64 n2] 27))
      clear b0 r0 g1 hE0 p0 p1 p2 p3 hV
      go_wp2_with fail
      refine (Ck.date_no t _ HR.out).mono ?_
      rintro e w2 ⟨rfl, g2⟩
      have B2 := Lib.hid ((B1.out.trans (g2.mono B1.out.size)).alloc (Nat.le_trans B1.out.size g2.size) (.cells #[.int .i64 0, .int .i64 0, .int .i64 0, .int .i64 0, .int .i64 0] 68))
      clear g2 B1
      go_wp2_with fail
      exact bodyPost_ret (v := .tuple #[.int .i64 0, .int .i64 0, .int .i64 1]) (by simp [results, Tryd.results58, go_sem]) rfl ⟨rfl, B2.out⟩
    | true =>
      have hr' : 0 ≤ t ∧ t ≤ 52595999 := by unfold Ck.Cal.rng at hr; simpa using hr
      obtain ⟨y, m, d, hh, i, hc, hn, -⟩ := Ck.Cal.num_of t hr'.1 hr'.2
      obtain ⟨nf, hnf⟩ : ∃ q, Pl.Ico.nf f A B C = q := ⟨_, rfl⟩
      have HF : Hid (fam (f : Int) A B C t = ((nf : Int), m, 0)) := Lib.hid (by unfold fam; rw [if_pos ⟨hv, hr⟩, mth_eq hc hn, ← hnf]; simp)
      rw [HF.out]
      have HNF := Lib.hid hnf
      clear hr hv hr' hnf
      go_enter Tryd.func58, Tryd.ntmps58
      obtain ⟨p0, p1, p2, p3⟩ := row4 r0
      go_wp2_with fail
      refine (Pl.normal_yes f A B C _ hV).mono ?_
      rintro e w1 ⟨rfl, g1⟩
      rw [HNF.out]
      generalize Pl.nw f A B C 0 = n0
      generalize Pl.nw f A B C 1 = n1
      generalize Pl.nw f A B C 2 = n2
      have ba := (Below.refl w1.heap.size w1).alloc (Nat.le_refl _) (.cells #[.int .i64 (nf : Int), .int .i64 n0, .int .i64 n1, .int .i64 n2] 27)
      have B1 := Lib.hid ((b0.trans (g1.mono (by simp))).trans (ba.mono (Nat.le_trans b0.size g1.size)))
      have T1 := (hE0.under g1).clk.under ba
      have R1 := Lib.hid (Row.new w1 #[.int .i64 (nf : Int), .int .i64 n0, .int .i64 n1, .int .i64 n2] 27)
      have HD := Lib.hid (Ck.date_yes t y m d hh i _ T1 hn hc)
      clear b0 r0 g1 hE0 p0 p1 p2 p3 hV ba T1 hc hn
      go_wp2_with fail
      refine HD.out.mono ?_
      rintro e w2 ⟨rfl, g2⟩
      go_upto_region 7 with fail
      refine forget (fun Y => Below w.heap.size w Y ∧ Row Y w1.heap.size 27 #[.int .i64 (nf : Int), .int .i64 n0, .int .i64 n1, .int .i64 n2] ∧ Row Y w2.heap.size 68 #[.int .i64 y, .int .i64 m, .int .i64 d, .int .i64 hh, .int .i64 i]) ⟨(B1.out.trans (g2.mono B1.out.size)).alloc (Nat.le_trans B1.out.size g2.size) _, (R1.out.under g2).alloc _, Row.new _ _ _⟩ ?_
      clear g2 B1 R1 HD
      rintro Y ⟨bY, r1, r2⟩
      obtain ⟨p0, p1, p2, p3⟩ := row4 r1
      obtain ⟨q0, q1, q2, q3, q4⟩ := row5 r2
      have BY := Lib.hid bY
      clear r1 r2 bY
      go_quiet (fail)
      go_wp2_with fail
      exact bodyPost_ret (v := .tuple #[.int .i64 (nf : Int), .int .i64 m, .int .i64 0]) (by simp [results, Tryd.results58, go_sem]) rfl ⟨rfl, by first | exact BY.out | exact below_drewN BY.out _⟩
end Go.Proofs.YtcheadbhkbbegaaDoor

namespace Go.Proofs.YtcheadbhkbbegaaDoor
open Go.RowKit

/-- What Lookup answers. -/
noncomputable def lkpR (N : List Cm.N5) (code : Int) (fm : Int × Int × Int) : Cm.N5 × Int :=
  if Cm.vldN N = 0 then if fm.2.2 = 0 then ((Cm.fndN N (code, fm.1, fm.2.1)).getD (0, 0, 0, 0, 0), if (Cm.fndN N (code, fm.1, fm.2.1)).isSome then 0 else 9) else ((0, 0, 0, 0, 0), fm.2.2) else ((0, 0, 0, 0, 0), Cm.vldN N)
theorem set5_row {w : World} {g : Nat} {t : TypeId} {y0 y1 y2 y3 y4 : Value} (u0 u1 u2 u3 u4 : Value) (h : Row w g t #[y0, y1, y2, y3, y4]) :
    Row (((((w.setCell ⟨g, 0, none⟩ u0).setCell ⟨g, 1, none⟩ u1).setCell ⟨g, 2, none⟩ u2).setCell ⟨g, 3, none⟩ u3).setCell ⟨g, 4, none⟩ u4) g t #[u0, u1, u2, u3, u4] := by
  have h0 : Row (w.setCell ⟨g, 0, none⟩ u0) g t #[u0, y1, y2, y3, y4] := h.put 0 _
  have h1 : Row ((w.setCell ⟨g, 0, none⟩ u0).setCell ⟨g, 1, none⟩ u1) g t #[u0, u1, y2, y3, y4] := h0.put 1 _
  have h2 : Row (((w.setCell ⟨g, 0, none⟩ u0).setCell ⟨g, 1, none⟩ u1).setCell ⟨g, 2, none⟩ u2) g t #[u0, u1, u2, y3, y4] := h1.put 2 _
  have h3 : Row ((((w.setCell ⟨g, 0, none⟩ u0).setCell ⟨g, 1, none⟩ u1).setCell ⟨g, 2, none⟩ u2).setCell ⟨g, 3, none⟩ u3) g t #[u0, u1, u2, u3, y4] := h2.put 3 _
  exact h3.put 4 _
theorem set1_below {w0 w : World} {B g j : Nat} {u : Value} (h : Below B w0 w) (hg : B ≤ g) : Below B w0 (w.setCell ⟨g, j, none⟩ u) :=
  ⟨h.os, h.tape, h.output, by simpa [World.setCell] using h.size, fun i hi => (Below.heap_setCell w ⟨g, j, none⟩ u i (by simp; omega)).trans (h.block i hi)⟩
/-- What is known while a normal is looked up. -/
structure Lu (W : World) (gb gp gr : Nat) (v : Value) (N : List Cm.N5) (F A B C : Int) (w : World) : Prop where
  below : Below W.heap.size W w
  cl : Row w gb 24 #[v]
  pl : Row w gp 27 #[.int .i64 F, .int .i64 A, .int .i64 B, .int .i64 C]
  res : Row w gr 50 #[.int .i64 0, .int .i64 0, .int .i64 0, .int .i64 0, .int .i64 0]
  nr : NrIn w v N
  env : Env w
  hgr : W.heap.size ≤ gr
theorem Lu.under {W w w' : World} {gb gp gr : Nat} {v : Value} {N : List Cm.N5} {F A B C : Int} (h : Lu W gb gp gr v N F A B C w) (hb : Below w.heap.size w w') : Lu W gb gp gr v N F A B C w' :=
  ⟨h.below.trans (hb.mono h.below.size), h.cl.under hb, h.pl.under hb, h.res.under hb, h.nr.under hb, h.env.under hb, h.hgr⟩
theorem Lu.fin {W w : World} {gb gp gr : Nat} {v : Value} {N : List Cm.N5} {F A B C : Int} (h : Lu W gb gp gr v N F A B C w) (u0 u1 u2 u3 u4 : Value) :
    Row (((((w.setCell ⟨gr, 0, none⟩ u0).setCell ⟨gr, 1, none⟩ u1).setCell ⟨gr, 2, none⟩ u2).setCell ⟨gr, 3, none⟩ u3).setCell ⟨gr, 4, none⟩ u4) gr 50 #[u0, u1, u2, u3, u4] ∧ Below W.heap.size W (((((w.setCell ⟨gr, 0, none⟩ u0).setCell ⟨gr, 1, none⟩ u1).setCell ⟨gr, 2, none⟩ u2).setCell ⟨gr, 3, none⟩ u3).setCell ⟨gr, 4, none⟩ u4) :=
  ⟨set5_row _ _ _ _ _ h.res, set1_below (set1_below (set1_below (set1_below (set1_below h.below h.hgr) h.hgr) h.hgr) h.hgr) h.hgr⟩
set_option maxRecDepth 100000 in
set_option maxHeartbeats 4000000 in
theorem lookup_any (v : Value) (N : List Cm.N5) (code F A B C t : Int) (w : World) (hN : NrIn w v N) (hE : Env w) :
    Calls Tryd.prog 26 #[clV v, .int .i64 code, .agg #[.int .i64 F, .int .i64 A, .int .i64 B, .int .i64 C], .int .i64 t] w fun e w' => e = .returned (.tuple #[nV (lkpR N code (fam F A B C t)).1, .int .i64 (lkpR N code (fam F A B C t)).2]) ∧ Below w.heap.size w w' := by
  obtain ⟨r, hr⟩ : ∃ r, lkpR N code (fam F A B C t) = r := ⟨_, rfl⟩
  have HR := Lib.hid hr
  rw [hr]
  clear hr
  have I0 : Lu w w.heap.size (w.heap.size + 1) (w.heap.size + 1 + 1) v N F A B C (((w.alloc (.cells #[v] 24)).alloc (.cells #[.int .i64 F, .int .i64 A, .int .i64 B, .int .i64 C] 27)).alloc (.cells #[.int .i64 0, .int .i64 0, .int .i64 0, .int .i64 0, .int .i64 0] 50)) := by
    have b1 := (Below.refl w.heap.size w).alloc (Nat.le_refl _) (.cells #[v] 24)
    have b2 := b1.alloc b1.size (.cells #[.int .i64 F, .int .i64 A, .int .i64 B, .int .i64 C] 27)
    have b3 := b2.alloc b2.size (.cells #[.int .i64 0, .int .i64 0, .int .i64 0, .int .i64 0, .int .i64 0] 50)
    exact ⟨b3, ((Row.new _ _ _).alloc _).alloc _, (Row.newAt (by simp)).alloc _, Row.newAt (by simp), hN.under b3, hE.under b3, by omega⟩
  obtain ⟨V, cap, rfl, h1, h2, -⟩ := id hN
  clear hN hE
  go_enter Tryd.func26, Tryd.ntmps26
  go_upto_region 1 with fail
  refine forget (Lu w w.heap.size (w.heap.size + 1) (w.heap.size + 1 + 1) (.slice V N.length cap) N F A B C) I0 ?_
  clear I0
  obtain ⟨gb, hgb⟩ : ∃ g, w.heap.size = g := ⟨_, rfl⟩
  obtain ⟨gp, hgp⟩ : ∃ g, w.heap.size + 1 = g := ⟨_, rfl⟩
  obtain ⟨gr, hgr⟩ : ∃ g, w.heap.size + 1 + 1 = g := ⟨_, rfl⟩
  rw [hgr, hgp]
  intro Y hI
  have HI : Hid (Lu w gb gp gr (.slice V N.length cap) N F A B C Y) := Lib.hid (by rw [← hgb]; exact hI)
  rw [hgb]
  clear hI hgp hgr hgb
  have q0 := (HI.out.cl.cell 0).trans rfl
  have HV := Lib.hid (validateN_any _ N Y HI.out.nr HI.out.env.elt)
  obtain ⟨z, hz⟩ : ∃ z, Cm.vldN N = z := ⟨_, rfl⟩
  have HZ := Lib.hid hz
  rw [hz] at HV
  clear hz
  go_wp2_with fail
  refine HV.out.mono ?_
  rintro e w1 ⟨rfl, g1⟩
  have I1 := Lib.hid (HI.out.under g1)
  clear g1 HI HV q0
  by_cases h0 : z = 0
  · subst h0
    go_upto_region 4 with fail
    have HF := Lib.hid (fam_any F A B C t w1 I1.out.env)
    obtain ⟨p0, p1, p2, p3⟩ := row4 I1.out.pl
    generalize hfm : fam F A B C t = fm at *
    obtain ⟨f, mo, er⟩ := fm
    go_wp2_with fail
    refine HF.out.mono ?_
    rintro e w2 ⟨rfl, g2⟩
    have I2 := Lib.hid (I1.out.under g2)
    clear g2 I1 HF p0 p1 p2 p3
    by_cases he : er = 0
    · subst he
      have HRz : Hid (r = ((Cm.fndN N (code, f, mo)).getD (0, 0, 0, 0, 0), if (Cm.fndN N (code, f, mo)).isSome then 0 else 9)) := Lib.hid (by rw [← HR.out]; unfold lkpR; rw [HZ.out, if_pos rfl]; rfl)
      obtain ⟨hlen, -, hasc⟩ := Cm.vldN_ok HZ.out
      have HA := Lib.hid hasc
      have HS := Lib.hid (search_any _ N (code, f, mo, 0, 0) w2 I2.out.nr hasc hlen)
      have q0 := (I2.out.cl.cell 0).trans rfl
      clear hasc
      go_wp2_with fail
      refine HS.out.mono ?_
      rintro e w3 ⟨g3, hs⟩
      have I3 := Lib.hid (I2.out.under g3)
      clear g3 I2 HS q0
      rcases hs with ⟨i, hi, hk, rfl⟩ | ⟨hno, i, rfl⟩
      · have HRy : Hid (r = (N[i], 0)) := Lib.hid (by rw [HRz.out, show Cm.fndN N (code, f, mo) = some N[i] from Cm.fndN_at HA.out hi hk]; rfl)
        obtain ⟨g, off, rfl, hgl, a0, a1, a2, a3, a4⟩ := I3.out.nr.at hi
        have k1 : (0 : Int) ≤ (i : Int) := by omega
        have k2 : (i : Int) < (N.length : Int) := by omega
        clear hk
        generalize N[i] = n at *
        obtain ⟨n0, n1, n2, n3, n4⟩ := n
        simp only at a0 a1 a2 a3 a4
        have q0 := (I3.out.cl.cell 0).trans rfl
        have f0 := I3.out.res.thaw 0
        have f1 := I3.out.res.thaw 1
        have f2 := I3.out.res.thaw 2
        have f3 := I3.out.res.thaw 3
        have f4 := I3.out.res.thaw 4
        obtain ⟨y0, y1, y2, y3, y4⟩ := row5 I3.out.res
        have HX := Lib.hid (I3.out.fin (.int .i64 n0) (.int .i64 n1) (.int .i64 n2) (.int .i64 n3) (.int .i64 n4))
        go_wp2_with fail
        exact bodyPost_ret (v := .tuple #[.agg #[.int .i64 n0, .int .i64 n1, .int .i64 n2, .int .i64 n3, .int .i64 n4], .int .i64 0]) (by obtain ⟨z0, z1, z2, z3, z4⟩ := row5 HX.out.1; simp [results, Tryd.results26, z0, z1, z2, z3, z4, go_sem]) rfl ⟨by rw [HRy.out], HX.out.2⟩
      · have HRy : Hid (r = ((0, 0, 0, 0, 0), 9)) := Lib.hid (by rw [HRz.out, show Cm.fndN N (code, f, mo) = none from Cm.fndN_none hno]; rfl)
        have f0 := I3.out.res.thaw 0
        have f1 := I3.out.res.thaw 1
        have f2 := I3.out.res.thaw 2
        have f3 := I3.out.res.thaw 3
        have f4 := I3.out.res.thaw 4
        obtain ⟨y0, y1, y2, y3, y4⟩ := row5 I3.out.res
        have HX := Lib.hid (I3.out.fin (.int .i64 0) (.int .i64 0) (.int .i64 0) (.int .i64 0) (.int .i64 0))
        clear hno
        go_wp2_with fail
        exact bodyPost_ret (v := .tuple #[.agg #[.int .i64 0, .int .i64 0, .int .i64 0, .int .i64 0, .int .i64 0], .int .i64 9]) (by obtain ⟨z0, z1, z2, z3, z4⟩ := row5 HX.out.1; simp [results, Tryd.results26, z0, z1, z2, z3, z4, go_sem]) rfl ⟨by rw [HRy.out], HX.out.2⟩
    · have k0 : (er != 0) = true := by rw [bne_iff_ne]; exact he
      have HRz : Hid (r = ((0, 0, 0, 0, 0), er)) := Lib.hid (by rw [← HR.out]; unfold lkpR; rw [HZ.out, if_pos rfl, if_neg he])
      have f0 := I2.out.res.thaw 0
      have f1 := I2.out.res.thaw 1
      have f2 := I2.out.res.thaw 2
      have f3 := I2.out.res.thaw 3
      have f4 := I2.out.res.thaw 4
      obtain ⟨q0, q1, q2, q3, q4⟩ := row5 I2.out.res
      have HX := Lib.hid (I2.out.fin (.int .i64 0) (.int .i64 0) (.int .i64 0) (.int .i64 0) (.int .i64 0))
      clear he
      go_wp2_with fail
      exact bodyPost_ret (v := .tuple #[.agg #[.int .i64 0, .int .i64 0, .int .i64 0, .int .i64 0, .int .i64 0], .int .i64 er]) (by obtain ⟨z0, z1, z2, z3, z4⟩ := row5 HX.out.1; simp [results, Tryd.results26, z0, z1, z2, z3, z4, go_sem]) rfl ⟨by rw [HRz.out], HX.out.2⟩
  · have k0 : (z != 0) = true := by rw [bne_iff_ne]; exact h0
    have HRz : Hid (r = ((0, 0, 0, 0, 0), z)) := Lib.hid (by rw [← HR.out]; unfold lkpR; rw [HZ.out, if_neg h0])
    have f0 := I1.out.res.thaw 0
    have f1 := I1.out.res.thaw 1
    have f2 := I1.out.res.thaw 2
    have f3 := I1.out.res.thaw 3
    have f4 := I1.out.res.thaw 4
    obtain ⟨q0, q1, q2, q3, q4⟩ := row5 I1.out.res
    have HX := Lib.hid (I1.out.fin (.int .i64 0) (.int .i64 0) (.int .i64 0) (.int .i64 0) (.int .i64 0))
    clear h0
    go_wp2_with fail
    exact bodyPost_ret (v := .tuple #[.agg #[.int .i64 0, .int .i64 0, .int .i64 0, .int .i64 0, .int .i64 0], .int .i64 z]) (by obtain ⟨z0, z1, z2, z3, z4⟩ := row5 HX.out.1; simp [results, Tryd.results26, z0, z1, z2, z3, z4, go_sem]) rfl ⟨by rw [HRz.out], HX.out.2⟩
end Go.Proofs.YtcheadbhkbbegaaDoor

namespace Go.Proofs.YtcheadbhkbbegaaDoor
open Go.RowKit

/-- The first error of a climate and a report. -/
noncomputable def valS (N : List Cm.N5) (L : List El.Elt.R) (fm : Int × Int × Int) : Int := if Cm.vldN N = 0 then if El.Elt.vld L = 0 then fm.2.2 else El.Elt.vld L else Cm.vldN N
theorem fam_err (F A B C t : Int) : (fam F A B C t).2.2 = 0 ∨ (fam F A B C t).2.2 = 1 := by
  unfold fam; split
  · exact .inl rfl
  · exact .inr rfl
/-- A value is more than the spread away from the mean. -/
def farN (n : Cm.N5) (x : Int) : Bool := decide (x < n.2.2.2.1 - n.2.2.2.2) || decide (n.2.2.2.1 + n.2.2.2.2 < x)
theorem lkpR_yes {N : List Cm.N5} {c f mo : Int} (h : Cm.vldN N = 0) : lkpR N c (f, mo, 0) = ((Cm.fndN N (c, f, mo)).getD (0, 0, 0, 0, 0), if (Cm.fndN N (c, f, mo)).isSome then 0 else 9) := by unfold lkpR; rw [if_pos h, if_pos rfl]
theorem lkpR_er {N : List Cm.N5} {c : Int} {fm : Int × Int × Int} (h : Cm.vldN N = 0) (h2 : fm.2.2 = 0 ∨ fm.2.2 = 1) : (lkpR N c fm).2 = 1 ↔ fm.2.2 = 1 := by
  unfold lkpR
  rw [if_pos h]
  rcases h2 with q | q
  · rw [if_pos q, q]
    dsimp only
    split <;> omega
  · rw [if_neg (by omega), q]
/-- What is known in the functions of season. -/
structure Sv (W : World) (gb gp : Nat) (v : Value) (N : List Cm.N5) (k : Int) (nm : ByteArray) (t F A B C : Int) (u : Value) (L : List El.Elt.R) (w : World) : Prop where
  below : Below W.heap.size W w
  cl : Row w gb 24 #[v]
  rp : Row w gp 38 (repC k nm t F A B C u)
  nr : NrIn w v N
  rd : El.RdIn w u L
  env : Env w
theorem Sv.under {W w w' : World} {gb gp : Nat} {v u : Value} {N : List Cm.N5} {k t F A B C : Int} {nm : ByteArray} {L : List El.Elt.R} (h : Sv W gb gp v N k nm t F A B C u L w) (hb : Below w.heap.size w w') : Sv W gb gp v N k nm t F A B C u L w' :=
  ⟨h.below.trans (hb.mono h.below.size), h.cl.under hb, h.rp.under hb, h.nr.under hb, h.rd.under hb, h.env.under hb⟩
theorem Sv.start (w : World) (v u : Value) (N : List Cm.N5) (k t F A B C : Int) (nm : ByteArray) (L : List El.Elt.R) (hN : NrIn w v N) (hL : El.RdIn w u L) (hE : Env w) :
    Sv w w.heap.size (w.heap.size + 1) v N k nm t F A B C u L ((w.alloc (.cells #[v] 24)).alloc (.cells (repC k nm t F A B C u) 38)) := by
  have b1 := (Below.refl w.heap.size w).alloc (Nat.le_refl _) (.cells #[v] 24)
  have b2 := b1.alloc b1.size (.cells (repC k nm t F A B C u) 38)
  exact ⟨b2, (Row.new _ _ _).alloc _, Row.newAt (by simp), hN.under b2, hL.under b2, hE.under b2⟩
set_option maxRecDepth 100000 in
set_option maxHeartbeats 4000000 in
theorem validateS_any (v : Value) (N : List Cm.N5) (k : Int) (nm : ByteArray) (t F A B C : Int) (u : Value) (L : List El.Elt.R) (w : World) (hN : NrIn w v N) (hL : El.RdIn w u L) (hE : Env w) :
    Calls Tryd.prog 73 #[clV v, repV k nm t F A B C u] w fun e w' => e = .returned (.int .i64 (valS N L (fam F A B C t))) ∧ Below w.heap.size w w' := by
  have I0 : Hid (Sv w w.heap.size (w.heap.size + 1) v N k nm t F A B C u L ((w.alloc (.cells #[v] 24)).alloc (.cells (repC k nm t F A B C u) 38))) := Lib.hid (Sv.start w v u N k t F A B C nm L hN hL hE)
  obtain ⟨s, hs⟩ : ∃ s, valS N L (fam F A B C t) = s := ⟨_, rfl⟩
  have HS := Lib.hid hs
  have HFe := Lib.hid (fam_err F A B C t)
  rw [hs]
  obtain ⟨V, cap, rfl, -⟩ := id hN
  obtain ⟨U, cu, rfl, -⟩ := id hL
  clear hN hL hE hs
  go_enter Tryd.func73, Tryd.ntmps73
  go_upto_region 1 with fail
  refine forget (fun Y => Hid (Sv w w.heap.size (w.heap.size + 1) (.slice V N.length cap) N k nm t F A B C (.slice U L.length cu) L Y)) I0 ?_
  clear I0
  obtain ⟨gp, hgp⟩ : ∃ g, w.heap.size + 1 = g := ⟨_, rfl⟩
  obtain ⟨gb, hgb⟩ : ∃ g, w.heap.size = g := ⟨_, rfl⟩
  rw [hgp, hgb]
  clear hgp hgb
  rintro Y HI
  have q0 := (HI.out.cl.cell 0).trans rfl
  have HV := Lib.hid (validateN_any _ N Y HI.out.nr HI.out.env.elt)
  obtain ⟨z, hz⟩ : ∃ z, Cm.vldN N = z := ⟨_, rfl⟩
  have HZ := Lib.hid hz
  rw [hz] at HV
  clear hz
  go_wp2_with fail
  refine HV.out.mono ?_
  rintro e w1 ⟨rfl, g1⟩
  have I1 := Lib.hid (HI.out.under g1)
  clear g1 HI HV q0
  by_cases h0 : z = 0
  · subst h0
    obtain ⟨q0, q1, q2, q3, q4, q5, q6, q7⟩ := row8 I1.out.rp
    have HV := Lib.hid (El.validate_any _ L w1 I1.out.rd I1.out.env.elt)
    obtain ⟨y, hy⟩ : ∃ z, El.Elt.vld L = z := ⟨_, rfl⟩
    have HY := Lib.hid hy
    rw [hy] at HV
    clear hy
    go_wp2_with fail
    refine HV.out.mono ?_
    rintro e w2 ⟨rfl, g2⟩
    have I2 := Lib.hid (I1.out.under g2)
    clear g2 I1 HV q0 q1 q2 q3 q4 q5 q6 q7
    by_cases h1 : y = 0
    · subst h1
      obtain ⟨q0, q1, q2, q3, q4, q5, q6, q7⟩ := row8 I2.out.rp
      have q8 := (I2.out.cl.cell 0).trans rfl
      have HK := Lib.hid (lookup_any _ N 1 F A B C t w2 I2.out.nr I2.out.env)
      have HSf : Hid (s = (fam F A B C t).2.2) := Lib.hid (by rw [← HS.out]; unfold valS; rw [if_pos HZ.out, if_pos HY.out])
      have HL1 := Lib.hid (lkpR_er (c := 1) HZ.out HFe.out)
      generalize fam F A B C t = fm at *
      go_wp2_with fail
      refine HK.out.mono ?_
      rintro e w3 ⟨rfl, g3⟩
      have I3 := Lib.hid (I2.out.under g3)
      generalize (lkpR N 1 fm).1 = n at *
      generalize (lkpR N 1 fm).2 = er at *
      have b4 := I3.out.below.alloc I3.out.below.size (.cells #[.int .i64 n.1, .int .i64 n.2.1, .int .i64 n.2.2.1, .int .i64 n.2.2.2.1, .int .i64 n.2.2.2.2] 50)
      have B4 := Lib.hid b4
      clear g3 I2 HK q0 q1 q2 q3 q4 q5 q6 q7 q8 b4 HS HZ HY
      by_cases h2 : er = 1
      · subst h2
        have HR : Hid (s = 1) := Lib.hid (by rw [HSf.out]; exact HL1.out.1 rfl)
        go_wp2_with fail
        go_ret
        exact ⟨ret_i64 HR.out.symm, B4.out⟩
      · have k2 : (er == 1) = false := beq_eq_false_iff_ne.2 h2
        have HR : Hid (s = 0) := Lib.hid (by
          rw [HSf.out]
          rcases HFe.out with q | q
          · exact q
          · exact absurd (HL1.out.2 q) h2)
        clear h2
        go_wp2_with fail
        go_ret
        exact ⟨ret_i64 HR.out.symm, B4.out⟩
    · have k1 : (y != 0) = true := by rw [bne_iff_ne]; exact h1
      have HR : Hid (s = y) := Lib.hid (by rw [← HS.out]; unfold valS; rw [if_pos HZ.out, if_neg (by rw [HY.out]; exact h1), HY.out])
      clear h1
      go_wp2_with fail
      go_ret
      exact ⟨ret_i64 HR.out.symm, I2.out.below⟩
  · have k0 : (z != 0) = true := by rw [bne_iff_ne]; exact h0
    have HR : Hid (s = z) := Lib.hid (by rw [← HS.out]; unfold valS; rw [if_neg (by rw [HZ.out]; exact h0), HZ.out])
    clear h0
    go_wp2_with fail
    go_ret
    exact ⟨ret_i64 HR.out.symm, I1.out.below⟩
set_option maxHeartbeats 1000000 in
theorem isFar_any (x : Int) (n : Cm.N5) (w : World) (h1 : -20000 ≤ n.2.2.2.1 ∧ n.2.2.2.1 ≤ 20000) (h2 : 0 ≤ n.2.2.2.2 ∧ n.2.2.2.2 ≤ 20000) :
    Calls Tryd.prog 74 #[.int .i64 x, nV n] w fun e w' => e = .returned (.bool (farN n x)) ∧ Below w.heap.size w w' := by
  obtain ⟨c, f, mo, a, s⟩ := n
  dsimp only at h1 h2
  obtain ⟨a1, a2⟩ := h1
  obtain ⟨s1, s2⟩ := h2
  have y1 : IntKind.i64.wrap (a - s) = a - s := IntWalk.i64_in _ (by omega)
  have y2 : IntKind.i64.wrap (a + s) = a + s := IntWalk.i64_in _ (by omega)
  have b1 := (Below.refl w.heap.size w).alloc (Nat.le_refl _) (.cells #[.int .i64 c, .int .i64 f, .int .i64 mo, .int .i64 a, .int .i64 s] 50)
  have B1 := Lib.hid b1
  have HF : Hid (farN (c, f, mo, a, s) x = (decide (x < a - s) || decide (a + s < x))) := Lib.hid rfl
  obtain ⟨r, hr⟩ : ∃ r, farN (c, f, mo, a, s) x = r := ⟨_, rfl⟩
  rw [hr] at HF ⊢
  clear hr b1
  by_cases h3 : x < a - s
  · have HR : Hid (r = true) := Lib.hid (by rw [HF.out, decide_eq_true h3]; rfl)
    clear HF
    go_enter Tryd.func74, Tryd.ntmps74
    go_wp2_with fail
    go_ret
    exact ⟨ret_bool HR.out.symm, B1.out⟩
  · by_cases h4 : a + s < x
    · have HR : Hid (r = true) := Lib.hid (by rw [HF.out, decide_eq_true h4]; simp)
      clear HF
      go_enter Tryd.func74, Tryd.ntmps74
      go_wp2_with fail
      go_ret
      exact ⟨ret_bool HR.out.symm, B1.out⟩
    · have HR : Hid (r = false) := Lib.hid (by rw [HF.out, decide_eq_false h3, decide_eq_false h4]; rfl)
      clear HF
      go_enter Tryd.func74, Tryd.ntmps74
      go_wp2_with fail
      go_ret
      exact ⟨ret_bool HR.out.symm, B1.out⟩
end Go.Proofs.YtcheadbhkbbegaaDoor
