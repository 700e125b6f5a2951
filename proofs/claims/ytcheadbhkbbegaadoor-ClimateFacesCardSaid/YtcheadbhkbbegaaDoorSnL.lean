/- The walk of SeasonLearned. -/
import Derived.Test.YtcheadbhkbbegaaDoorSnP
import Derived.Test.YtcheadbhkbbegaaDoorQaq
import Derived.Test.YtcheadbhkbbegaaDoorCmLk
namespace Go.Proofs.YtcheadbhkbbegaaDoor
open Go.RowKit

/-- What is known behind the drawing: the reports, the learned climate and its box. -/
structure Slk (W : World) (R : List Rp) (vr : Value) (N : List Cm.N5) (A : Option Addr) (cap gc : Nat) (w : World) : Prop where
  below : Below W.heap.size W w
  rps : RpsIn w vr R
  nr : NrIn w (.slice A N.length cap) N
  box : Row w gc 24 #[.slice A N.length cap]
theorem Slk.under {W w w' : World} {R : List Rp} {vr : Value} {N : List Cm.N5} {A : Option Addr} {cap gc : Nat} (h : Slk W R vr N A cap gc w) (hb : Below w.heap.size w w') : Slk W R vr N A cap gc w' :=
  ⟨h.below.trans (hb.mono h.below.size), h.rps.under hb, h.nr.under hb, h.box.under hb⟩
/-- .. and the other climate, being changed. -/
structure Sd (Z : World) (M : List Cm.N5) (A : Option Addr) (L cap gd : Nat) (w : World) : Prop where
  below : Below Z.heap.size Z w
  len : M.length = L
  own : w.ownsRow Z.heap.size 50 5 (.slice A L cap) L (nrc M)
  box : Row w gd 24 #[.slice A L cap]
theorem Sd.under {Z w w' : World} {M : List Cm.N5} {A : Option Addr} {L cap gd : Nat} (h : Sd Z M A L cap gd w) (hb : Below w.heap.size w w') : Sd Z M A L cap gd w' :=
  ⟨h.below.trans (hb.mono h.below.size), h.len, El.own_under h.own hb, h.box.under hb⟩
theorem Sd.put {Z w : World} {M : List Cm.N5} {g L cap gd i : Nat} (h : Sd Z M (some ⟨g, 0, none⟩) L cap gd w) (hi : i < M.length) (x : Int) :
    Sd Z (M.set i (M[i].1, M[i].2.1, M[i].2.2.1, M[i].2.2.2.1, x)) (some ⟨g, 0, none⟩) L cap gd (w.setCell ⟨g, i * 5 + 4, none⟩ (.int .i64 x)) := by
  have hb := row_base h.own rfl
  have hne : g ≠ gd := fun e => row_not h.own h.box (by decide) (by rw [← e]; rfl)
  refine ⟨set1_below h.below hb, by rw [List.length_set]; exact h.len, ?_, h.box.far (p := ⟨g, i * 5 + 4, none⟩) hne _⟩
  have := own_setN h.own (i * 5 + 4) (.int .i64 x)
  rw [nrc_set4 M i hi x] at this
  exact this
theorem Sd.facts {Z w : World} {M : List Cm.N5} {g L cap gd i : Nat} (h : Sd Z M (some ⟨g, 0, none⟩) L cap gd w) (hi : i < M.length) : w.cell? ⟨g, i * 5 + 4, none⟩ = some (.int .i64 M[i].2.2.2.2) ∧ w.frozen? ⟨g, i * 5 + 4, none⟩ = false := by
  have hl := h.len
  refine ⟨by rw [h.own.cellAt _ (by omega), nrc_at M i hi 4 (by omega)]; rfl, ?_⟩
  rcases h.own.2 with ⟨h0, _⟩ | ⟨g', cap', cur, h0, hb, hh, -⟩
  · cases h0
  · injection h0 with h0
    injection h0 with h0
    injection h0 with h0
    subst h0
    simp [World.frozen?, hh]
theorem Sd.nr {Z w : World} {M : List Cm.N5} {A : Option Addr} {L cap gd : Nat} (h : Sd Z M A L cap gd w) : NrIn w (.slice A L cap) M := by
  have hl := h.len
  subst hl
  exact NrIn.own h.own
theorem ln_pair {R : List Rp} (h0 : errC R = 0) (h : (lrn R).2 = 0) : (lrn R).1 = outC R 2640 := by
  by_cases h2 : 200 < (outC R 2640).length
  · rw [lrn_big h0 h2] at h; cases h
  · rw [lrn_ok h0 h2]
set_option maxRecDepth 100000 in
set_option maxHeartbeats 8000000 in
theorem seasonLearned_any (l : Value) (w : World) (hE : Env w) (hI : ListIn w l) :
    Calls Tryd.prog 8 #[l] w fun e w' => e = .returned (.bool true) ∧ Below w.heap.size w w' := by
  have HE := Lib.hid hE
  obtain ⟨i0, hi0, hz0, hz1, hz2⟩ := info_parts infoNormal
  clear hE
  go_enter Tryd.func8, Tryd.ntmps8
  go_wp2_with fail
  refine (new_any w l hI).mono ?_
  rintro e w1 ⟨rfl, s1, b1⟩
  obtain ⟨b, hb⟩ : ∃ b, w.heap.size = b := ⟨_, rfl⟩
  rw [hb] at s1 ⊢
  have HB := Lib.hid hb
  clear b1 hb hI
  go_wp2_with fail
  refine (minute_any w b _ s1).mono ?_
  rintro e w2 ⟨m, ⟨m1, m2⟩, rfl, s2, -⟩
  clear s1
  go_wp2_with fail
  refine (placed_any w b w2 m 6 s2 (by omega) m1 m2).mono ?_
  rintro e w3 ⟨R, vr, rfl, hRl, hPL⟩
  have HIn := Lib.hid hPL.ins
  have HVal := Lib.hid hPL.val
  have HBl := Lib.hid hPL.src.below
  have HEr : Hid (errC R = 0) := Lib.hid (errC_zero R (fun j hj => by
    obtain ⟨-, ⟨t1, t2⟩, hv, hn, -⟩ := hPL.val _ (List.getElem_mem hj)
    unfold erC
    rw [if_pos ⟨hn, by unfold Ck.Cal.rng; simp; omega⟩, hv]))
  clear hPL s2
  go_wp2_with fail
  refine (refLearn_any vr R _ HIn.out (by omega)).mono ?_
  rintro e w4 ⟨v, rfl, g4, o4⟩
  have HLn := Lib.hid (ln_pair HEr.out)
  have HLv := Lib.hid (lrn_vld (R := R))
  obtain ⟨N, hN⟩ : ∃ N, (lrn R).1 = N := ⟨_, rfl⟩
  obtain ⟨er, her⟩ : ∃ N, (lrn R).2 = N := ⟨_, rfl⟩
  rw [hN] at HLn HLv o4
  rw [her] at HLn ⊢
  clear hN her
  obtain ⟨A, cap, rfl⟩ := row_form o4
  have hNl : N.length ≤ 200 := (Cm.vldN_ok HLv.out).1
  have b5 := (Below.refl w4.heap.size w4).alloc (Nat.le_refl _) (.cells #[.slice A N.length cap] 24)
  have H5 : Hid (Slk w R vr N A cap w4.heap.size (w4.alloc (.cells #[.slice A N.length cap] 24))) := Lib.hid ⟨(HBl.out.trans (g4.mono HBl.out.size)).trans (b5.mono (HBl.out.trans (g4.mono HBl.out.size)).size), (HIn.out.under g4).under b5, (NrIn.own o4).under b5, Row.new _ _ _⟩
  clear g4 o4 b5 HIn HBl
  go_upto_region 5 with fail
  refine forget (fun Y => Hid (Slk w R vr N A cap w4.heap.size Y)) H5 ?_
  clear H5
  generalize w4.heap.size = gc at *
  rintro Z H5
  by_cases he : er = 0
  · subst he
    have HNo : Hid (N = outC R 2640) := Lib.hid (HLn.out rfl)
    clear HLn
    have q0 := ((H5.out.box.alloc (.cells #[] 50)).cell 0).trans rfl
    have HO0 := Lib.hid (own_empty Z)
    have b6 := (Below.refl Z.heap.size Z).alloc (Nat.le_refl _) (.cells #[] 50)
    have B6 := Lib.hid b6
    have HNw := Lib.hid (nr_news (H5.out.nr.under b6))
    clear b6
    go_wp2_with (at_builtin; refine wpList_append_opt rfl (.tmp 35) (.tmp 37) 22 rfl Z.heap.size 50 i0 (nV (0, 0, 0, 0, 0)) 5 40 Tryd.underlying22 hi0 hz0 hz1 hz2 rfl (by decide) (.slice (some ⟨Z.heap.size, 0, none⟩) 0 0) 0 [] rfl HO0.out A N.length cap (nrc N) rfl (nrc_len5 N) HNw.out.2.1 HNw.out.2.2 (nrc_one N) (by unfold maxLen; omega) (by omega) B6.out.size ?_; intro v' w7 ho' hg'; obtain ⟨A', cap', ev⟩ : ∃ A' cap', v' = .slice A' (0 + N.length) cap' := row_form ho'; subst ev; rw [Nat.zero_add, List.nil_append] at ho'; rw [Nat.zero_add])
    have HL : Hid (Below Z.heap.size Z w7) := Lib.hid (El.below_own B6.out B6.out.size HO0.out hg')
    have b8 := (Below.refl w7.heap.size w7).alloc (Nat.le_refl _) (.cells #[.slice A' N.length cap'] 24)
    have H8 : Hid (Sd Z (zr 0 N) A' N.length cap' w7.heap.size (w7.alloc (.cells #[.slice A' N.length cap'] 24))) := Lib.hid ⟨HL.out.trans (b8.mono HL.out.size), rfl, El.own_under ho' b8, Row.new _ _ _⟩
    clear ho' hg' HL b8 HO0 B6 HNw q0
    go_upto_region 8 with fail
    refine forget (fun Y => Hid (Sd Z (zr 0 N) A' N.length cap' w7.heap.size Y)) H8 ?_
    clear H8
    generalize w7.heap.size = gd at *
    rintro Y8 H8
    have q0 := (H8.out.box.cell 0).trans rfl
    go_wp2_with fail
    go_loopw [43] (fun t' wr => ∃ i : Nat, i ≤ N.length ∧ t' = .int .i64 (i : Int) ∧ Hid (Sd Z (zr i N) A' N.length cap' gd wr)) (fun t' _ => N.length - (intOf t').toNat)
    case atStart => exact ⟨0, Nat.zero_le _, rfl, H8⟩
    case round =>
      clear H8 q0
      obtain ⟨i, hi, rfl, H9⟩ := hrel
      by_cases hlt : i < N.length
      · have k0 : (0 : Int) ≤ (i : Int) := by omega
        have k1 : (i : Int) < (N.length : Int) := by omega
        obtain ⟨g, rfl⟩ := own_addr H9.out.own (by omega)
        have hzi : i < (zr i N).length := by rw [zr_len i N (by omega)]; exact hlt
        obtain ⟨c4, f4⟩ := H9.out.facts hzi
        have q0 := (H9.out.box.cell 0).trans rfl
        have HX := Lib.hid (show Sd Z (zr (i + 1) N) (some ⟨g, 0, none⟩) N.length cap' gd (wr.setCell ⟨g, i * 5 + 4, none⟩ (.int .i64 0)) by
          have h9 := H9.out.put hzi 0
          rw [zr_at i N hlt] at h9
          rw [← zr_set i N hlt]
          exact h9)
        generalize (zr i N)[i].2.2.2.2 = sp at *
        clear H9 hzi
        go_wp2_with fail
        go_roundw
        case rel => exact ⟨i + 1, by omega, by go_num, HX⟩
        case measure => simp [intOf]; omega
      · obtain rfl : i = N.length := by omega
        have k1 : ¬ (N.length : Int) < (N.length : Int) := by omega
        rw [zr_all] at H9
        have HZ0 := Lib.hid (zs_vld HLv.out)
        have H10 : Hid (Slk w R vr N A cap gc wr ∧ Sd Z (N.map zs) A' N.length cap' gd wr) := Lib.hid ⟨H5.out.under H9.out.below, H9.out⟩
        clear H9 H5
        obtain ⟨Ar, cr, hvr, -⟩ := id H10.out.1.rps
        subst hvr
        go_wp2_with fail
        go_loopw [54] (fun t' wr => ∃ i : Nat, i ≤ R.length ∧ t' = .int .i64 (i : Int) ∧ Hid (Slk w R (.slice Ar R.length cr) N A cap gc wr ∧ Sd Z (N.map zs) A' N.length cap' gd wr)) (fun t' _ => R.length - (intOf t').toNat)
        case atStart => exact ⟨0, Nat.zero_le _, rfl, H10⟩
        case round =>
          clear H10
          obtain ⟨i, hi, rfl, H10⟩ := hrel
          by_cases hlt : i < R.length
          · obtain ⟨Ar', cr', e, -, -, hat⟩ := H10.out.1.rps
            injection e with e1 e2 e3
            subst e1
            obtain ⟨g, off, rfl, hgl, ⟨c0, c1, c2, c3, c4, c5, c6, c7⟩, hrd⟩ := hat i hlt
            have k0 : (0 : Int) ≤ (i : Int) := by omega
            have k1 : (i : Int) < (R.length : Int) := by omega
            have HLd := Lib.hid (learned HEr.out (List.getElem_mem hlt) N HNo.out)
            have HVr := Lib.hid (HVal.out _ (List.getElem_mem hlt))
            clear hat e3
            generalize R[i] = r at *
            obtain ⟨rk, nm, t, F, P, Q, C, u, L⟩ := r
            simp only at c0 c1 c2 c3 c4 c5 c6 c7 hrd HLd
            have HVr2 : Hid (nrm F P Q C = true ∧ El.Elt.vld L = 0 ∧ 0 ≤ t ∧ t ≤ 52595999) := Lib.hid (by obtain ⟨-, h1, h2, h3, -⟩ := HVr.out; exact ⟨h3, h2, h1.1, h1.2⟩)
            clear HVr
            obtain ⟨Au, cu, eu, -⟩ := id hrd
            have eu' : u = .slice Au L.length cu := eu
            subst eu'
            have HFM : Hid (fam F P Q C t = (F, mth t, 0)) := Lib.hid (fam_nrm HVr2.out.1 (by unfold Ck.Cal.rng; have := HVr2.out.2.2; simp; omega))
            have b1 := (Below.refl wr.heap.size wr).alloc (Nat.le_refl _) (.cells (repC rk nm t F P Q C (.slice Au L.length cu)) 38)
            have I1 : Hid ((Slk w R (.slice (some ⟨g, off, none⟩) R.length cr) N A cap gc (wr.alloc (.cells (repC rk nm t F P Q C (.slice Au L.length cu)) 38)) ∧ Sd Z (N.map zs) A' N.length cap' gd (wr.alloc (.cells (repC rk nm t F P Q C (.slice Au L.length cu)) 38))) ∧ El.RdIn (wr.alloc (.cells (repC rk nm t F P Q C (.slice Au L.length cu)) 38)) (.slice Au L.length cu) L ∧ Row (wr.alloc (.cells (repC rk nm t F P Q C (.slice Au L.length cu)) 38)) wr.heap.size 38 (repC rk nm t F P Q C (.slice Au L.length cu))) := Lib.hid ⟨⟨H10.out.1.under b1, H10.out.2.under b1⟩, El.RdIn.under hrd b1, Row.new _ _ _⟩
            clear b1 H10 hrd eu
            go_upto_region 16 with fail
            refine forget (fun Y => Hid ((Slk w R (.slice (some ⟨g, off, none⟩) R.length cr) N A cap gc Y ∧ Sd Z (N.map zs) A' N.length cap' gd Y) ∧ El.RdIn Y (.slice Au L.length cu) L ∧ Row Y wr.heap.size 38 (repC rk nm t F P Q C (.slice Au L.length cu)))) I1 ?_
            clear I1 c0 c1 c2 c3 c4 c5 c6 c7
            generalize wr.heap.size = gp at *
            rintro Y1 H1
            obtain ⟨q0, q1, q2, q3, q4, q5, q6, q7⟩ := row8 H1.out.2.2
            have q8 := (H1.out.1.1.box.cell 0).trans rfl
            have HCk := checkS_any _ N rk nm t F P Q C _ L Y1 H1.out.1.1.nr H1.out.2.1 (HE.out.under H1.out.1.1.below)
            have hz : valS N L (F, mth t, 0) = 0 := by unfold valS; rw [if_pos HLv.out, if_pos HVr2.out.2.1]
            have hj : chkJ N L (F, mth t, 0) = [] := by unfold chkJ; rw [if_pos hz]; exact HLd.out.1
            rw [HFM.out, hz, hj] at HCk
            have HCC := Lib.hid HCk
            clear HCk hz hj
            go_wp2_with fail
            refine HCC.out.mono ?_
            rintro e w2 ⟨o, rfl, g2, ho⟩
            obtain ⟨Ao, co, rfl⟩ := row_form ho
            have H2 := Lib.hid (And.intro (And.intro (H1.out.1.1.under g2) (H1.out.1.2.under g2)) (And.intro (El.RdIn.under H1.out.2.1 g2) (H1.out.2.2.under g2)))
            clear ho g2 H1 HCC q0 q1 q2 q3 q4 q5 q6 q7 q8
            obtain ⟨q0, q1, q2, q3, q4, q5, q6, q7⟩ := row8 H2.out.2.2
            have q8 := (H2.out.1.2.box.cell 0).trans rfl
            have HCk := checkS_any (.slice A' N.length cap') (N.map zs) rk nm t F P Q C _ L w2 H2.out.1.2.nr H2.out.2.1 (HE.out.under H2.out.1.1.below)
            have hz : valS (N.map zs) L (F, mth t, 0) = 0 := by unfold valS; rw [if_pos HZ0.out, if_pos HVr2.out.2.1]
            have hj : chkJ (N.map zs) L (F, mth t, 0) = rejL (N.map zs) F (mth t) L := by unfold chkJ; rw [if_pos hz]
            have HVz := Lib.hid hz
            rw [HFM.out, hz, hj] at HCk
            have HCC := Lib.hid HCk
            clear HCk hz hj
            go_wp2_with fail
            refine HCC.out.mono ?_
            rintro e w3 ⟨o, rfl, g3, ho⟩
            have hlo : (rejL (N.map zs) F (mth t) L).length ≤ 11 := Nat.le_trans (rejL_len _ _ _ _) (asc_le HVr2.out.2.1 (vld_asc HVr2.out.2.1))
            have HRj := Lib.hid (fun x (hx : x ∈ L) => rej_has (N := N.map zs) (f := F) (mo := mth t) HVr2.out.2.1 hx)
            generalize rejL (N.map zs) F (mth t) L = J at *
            obtain ⟨Ao2, co2, rfl⟩ := row_form ho
            have H3 := Lib.hid (And.intro (And.intro (And.intro (H2.out.1.1.under g3) (H2.out.1.2.under g3)) (And.intro (El.RdIn.under H2.out.2.1 g3) (H2.out.2.2.under g3))) (NmIn.own ho))
            clear ho g3 H2 HCC q0 q1 q2 q3 q4 q5 q6 q7 q8
            obtain ⟨q0, q1, q2, q3, q4, q5, q6, q7⟩ := row8 H3.out.1.2.2
            go_wp2_with fail
            go_loopw [84] (fun t' wr => ∃ j : Nat, j ≤ L.length ∧ t' = .int .i64 (j : Int) ∧ Hid (((Slk w R (.slice (some ⟨g, off, none⟩) R.length cr) N A cap gc wr ∧ Sd Z (N.map zs) A' N.length cap' gd wr) ∧ El.RdIn wr (.slice Au L.length cu) L ∧ Row wr gp 38 (repC rk nm t F P Q C (.slice Au L.length cu))) ∧ El.NmIn wr (.slice Ao2 J.length co2) J)) (fun t' _ => L.length - (intOf t').toNat)
            case atStart => exact ⟨0, Nat.zero_le _, rfl, H3⟩
            case round =>
              clear H3 q0 q1 q2 q3 q4 q5 q6 q7
              obtain ⟨j, hj, rfl, H3⟩ := hrel
              have hL11 := asc_le HVr2.out.2.1 (vld_asc HVr2.out.2.1)
              by_cases hjl : j < L.length
              · obtain ⟨Au', cu', e, -, -, hat⟩ := H3.out.1.2.1
                injection e with e1 e2 e3
                subst e1
                obtain ⟨gu, ou, rfl, hgu, x0, x1⟩ := hat j hjl
                have j0 : (0 : Int) ≤ (j : Int) := by omega
                have j1 : (j : Int) < (L.length : Int) := by omega
                have hmem := List.getElem_mem hjl
                obtain ⟨n, hfn, hnN, -, -⟩ := HLd.out.2 _ hmem
                have hcon := HRj.out _ hmem
                rw [zs_rej hfn] at hcon
                have hfar : farR (N.map zs) L L[j].1 (F, mth t, 0) = (L[j].2 - n.2.2.2.1, true) := by
                  unfold farR
                  rw [if_pos HVz.out, fnd_of HVr2.out.2.1 hmem]
                  dsimp only
                  rw [zs_fnd, hfn]
                  rfl
                have HFr := Lib.hid hfar
                have HCn := Lib.hid hcon
                clear hat e3 hmem hfn hnN hcon hfar
                generalize n.2.2.2.1 = mn at *
                generalize L[j] = x at *
                obtain ⟨xc, xv⟩ := x
                simp only at x0 x1 HFr HCn
                obtain ⟨nn, hnn⟩ : ∃ nn, xv - mn = nn := ⟨_, rfl⟩
                rw [hnn] at HFr HCn
                obtain ⟨nb, hnb⟩ : ∃ nb, (nn != 0) = nb := ⟨_, rfl⟩
                rw [hnb] at HCn
                clear hnn
                have b1 := (Below.refl wr.heap.size wr).alloc (Nat.le_refl _) (.cells #[.int .i64 xc, .int .i64 xv] 60)
                have H4 : Hid ((((Slk w R (.slice (some ⟨g, off, none⟩) R.length cr) N A cap gc (wr.alloc (.cells #[.int .i64 xc, .int .i64 xv] 60)) ∧ Sd Z (N.map zs) A' N.length cap' gd (wr.alloc (.cells #[.int .i64 xc, .int .i64 xv] 60))) ∧ El.RdIn (wr.alloc (.cells #[.int .i64 xc, .int .i64 xv] 60)) (.slice (some ⟨gu, ou, none⟩) L.length cu) L ∧ Row (wr.alloc (.cells #[.int .i64 xc, .int .i64 xv] 60)) gp 38 (repC rk nm t F P Q C (.slice (some ⟨gu, ou, none⟩) L.length cu))) ∧ El.NmIn (wr.alloc (.cells #[.int .i64 xc, .int .i64 xv] 60)) (.slice Ao2 J.length co2) J) ∧ Row (wr.alloc (.cells #[.int .i64 xc, .int .i64 xv] 60)) wr.heap.size 60 #[.int .i64 xc, .int .i64 xv]) := Lib.hid ⟨⟨⟨⟨H3.out.1.1.1.under b1, H3.out.1.1.2.under b1⟩, El.RdIn.under H3.out.1.2.1 b1, H3.out.1.2.2.under b1⟩, El.NmIn.under H3.out.2 b1⟩, Row.new _ _ _⟩
                clear b1 H3
                go_upto_region 23 with fail
                refine forget (fun Y => Hid ((((Slk w R (.slice (some ⟨g, off, none⟩) R.length cr) N A cap gc Y ∧ Sd Z (N.map zs) A' N.length cap' gd Y) ∧ El.RdIn Y (.slice (some ⟨gu, ou, none⟩) L.length cu) L ∧ Row Y gp 38 (repC rk nm t F P Q C (.slice (some ⟨gu, ou, none⟩) L.length cu))) ∧ El.NmIn Y (.slice Ao2 J.length co2) J) ∧ Row Y wr.heap.size 60 #[.int .i64 xc, .int .i64 xv])) H4 ?_
                clear H4 x0 x1
                generalize wr.heap.size = gx at *
                rintro Y4 H4
                obtain ⟨x0, x1⟩ := row2 H4.out.2
                obtain ⟨q0, q1, q2, q3, q4, q5, q6, q7⟩ := row8 H4.out.1.1.2.2
                have q8 := (H4.out.1.1.1.2.box.cell 0).trans rfl
                have hFa := farS_any (.slice A' N.length cap') (N.map zs) rk nm t F P Q C _ L xc Y4 H4.out.1.1.1.2.nr H4.out.1.1.2.1 (HE.out.under H4.out.1.1.1.1.below)
                rw [HFM.out, HFr.out] at hFa
                have HFa := Lib.hid hFa
                clear hFa
                go_wp2_with fail
                refine HFa.out.mono ?_
                rintro e w5 ⟨rfl, g5⟩
                have H5 : Hid ((((Slk w R (.slice (some ⟨g, off, none⟩) R.length cr) N A cap gc w5 ∧ Sd Z (N.map zs) A' N.length cap' gd w5) ∧ El.RdIn w5 (.slice (some ⟨gu, ou, none⟩) L.length cu) L ∧ Row w5 gp 38 (repC rk nm t F P Q C (.slice (some ⟨gu, ou, none⟩) L.length cu))) ∧ El.NmIn w5 (.slice Ao2 J.length co2) J) ∧ Row w5 gx 60 #[.int .i64 xc, .int .i64 xv]) := Lib.hid ⟨⟨⟨⟨H4.out.1.1.1.1.under g5, H4.out.1.1.1.2.under g5⟩, El.RdIn.under H4.out.1.1.2.1 g5, H4.out.1.1.2.2.under g5⟩, El.NmIn.under H4.out.1.2 g5⟩, H4.out.2.under g5⟩
                clear g5 H4 HFa x0 x1 q0 q1 q2 q3 q4 q5 q6 q7 q8
                obtain ⟨x0, x1⟩ := row2 H5.out.2
                have HIn := Lib.hid (in_any (.slice Ao2 J.length co2) J xc w5 H5.out.1.2)
                rw [HCn.out] at HIn
                go_wp2_with fail
                refine HIn.out.mono ?_
                rintro e w6 ⟨rfl, rfl⟩
                cases nb with
                | true =>
                  go_wp2_with fail
                  go_roundw
                  case rel => exact ⟨j + 1, by omega, by go_num, Lib.hid H5.out.1⟩
                  case measure => simp [intOf]; omega
                | false =>
                  go_wp2_with fail
                  go_roundw
                  case rel => exact ⟨j + 1, by omega, by go_num, Lib.hid H5.out.1⟩
                  case measure => simp [intOf]; omega
              · obtain rfl : j = L.length := by omega
                have j1 : ¬ (L.length : Int) < (L.length : Int) := by omega
                go_wp2_with fail
                go_roundw
                case rel => exact ⟨i + 1, by omega, by go_num, Lib.hid H3.out.1.1⟩
                case measure => simp [intOf]; omega
          · obtain rfl : i = R.length := by omega
            have k1 : ¬ (R.length : Int) < (R.length : Int) := by omega
            go_wp2_with fail
            refine (awake15 wr (HE.out.under H10.out.1.below)).mono ?_
            rintro e w9 ⟨rfl, g9⟩
            have HB2 := Lib.hid (H10.out.1.below.trans (g9.mono H10.out.1.below.size))
            clear g9
            go_wp2_with fail
            go_ret
            exact ⟨rfl, HB2.out⟩
  · have k0 : (er != 0) = true := by rw [bne_iff_ne]; exact he
    clear he
    go_wp2_with fail
    refine (awake15 Z (HE.out.under H5.out.below)).mono ?_
    rintro e w9 ⟨rfl, g9⟩
    have HB2 := Lib.hid (H5.out.below.trans (g9.mono H5.out.below.size))
    clear g9
    go_wp2_with fail
    go_ret
    exact ⟨rfl, HB2.out⟩
end Go.Proofs.YtcheadbhkbbegaaDoor
