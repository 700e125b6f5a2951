/- The walk of ClimateLearns. -/
import Derived.Test.YtcheadbhkbbegaaDoorLrA
import Derived.Test.YtcheadbhkbbegaaDoorSnL
namespace Go.Proofs.YtcheadbhkbbegaaDoor
open Go.RowKit Go.Maps

set_option maxRecDepth 100000 in
set_option maxHeartbeats 8000000 in
theorem climateLearns_any (l : Value) (w : World) (hE : Env w) (hI : ListIn w l) :
    Calls Tryd.prog 4 #[l] w fun e w' => e = .returned (.bool true) ∧ Below w.heap.size w w' := by
  have HE := Lib.hid hE
  obtain ⟨i0, hi0, hz0, hz1, hz2⟩ := info_parts infoReport
  clear hE
  go_enter Tryd.func4, Tryd.ntmps4
  go_wp2_with fail
  refine (new_any w l hI).mono ?_
  rintro e w1 ⟨rfl, s1, b1⟩
  obtain ⟨b, hb⟩ : ∃ b, w.heap.size = b := ⟨_, rfl⟩
  rw [hb] at s1 ⊢
  have HB := Lib.hid hb
  clear b1 hb hI
  go_wp2_with fail
  refine (minute_any w b _ s1).mono ?_
  rintro e w2 ⟨m, ⟨m1, m2⟩, rfl, s2, -⟩
  clear s1
  go_wp2_with fail
  refine (placed_any w b w2 m 6 s2 (by omega) m1 m2).mono ?_
  rintro e w3 ⟨R, vr, rfl, hRl, hPL⟩
  have HBl := Lib.hid (src_lt s2)
  have HVal := Lib.hid hPL.val
  have HErr : Hid (errC R = 0) := Lib.hid (errC_of hPL.val)
  have HVL : Hid (∀ r ∈ R, r.L.length ≤ 11) := Lib.hid (fun r hr => vld_le11 (hPL.val r hr).2.2.1)
  have H3 := Lib.hid hPL
  have hR6 : R.length ≤ 6 := by omega
  obtain ⟨Ar, cr, hvr, -⟩ := id hPL.ins
  subst hvr
  clear hPL s2 m1 m2 hRl
  go_wp2_with fail
  refine (learn_any (.slice Ar R.length cr) R _ (HE.out.under H3.out.src.below) H3.out.ins (by omega) (fun r hr => by have := HVL.out r hr; omega)).mono ?_
  rintro e w4 ⟨v, rfl, g4, o4⟩
  have hlf := lrn_few HErr.out (show R.length ≤ 18 by omega)
  have hlv := lrn_vld (R := R)
  rw [hlf] at o4 hlv ⊢
  obtain ⟨N, hN⟩ : ∃ N, outC R 2640 = N := ⟨_, rfl⟩
  have HN := Lib.hid hN
  rw [hN] at o4 hlv
  have HLv : Hid (Cm.vldN N = 0) := Lib.hid hlv
  obtain ⟨A, cap, rfl⟩ := row_form o4
  have hNl : N.length ≤ 200 := (Cm.vldN_ok HLv.out).1
  have b5 := (Below.refl w4.heap.size w4).alloc (Nat.le_refl _) (.cells #[.slice A N.length cap] 24)
  have H5 : Hid (PL w b w2 m R (.slice Ar R.length cr) (w4.alloc (.cells #[.slice A N.length cap] 24)) ∧ Pq w b w3.heap.size N (.slice A N.length cap) w4.heap.size (w4.alloc (.cells #[.slice A N.length cap] 24))) := Lib.hid (by
    have h4 := H3.out.step HBl.out (H3.out.src.under g4) (grown_below g4)
    have h5 := h4.step HBl.out (h4.src.under b5) (grown_below b5)
    have hs := H3.out.gro.size
    have hs4 := g4.size
    have hbl := HBl.out
    exact ⟨h5, h5.src, El.own_under o4 b5, Row.new _ _ _, by omega, by omega⟩)
  clear o4 g4 b5 hlf hlv hN H3
  dsimp only
  go_upto_region 5 with fail
  refine forget (fun Y => Hid (PL w b w2 m R (.slice Ar R.length cr) Y ∧ Pq w b w3.heap.size N (.slice A N.length cap) w4.heap.size Y)) H5 ?_
  clear H5
  generalize w4.heap.size = gc at *
  generalize w3.heap.size = bn at *
  rintro Y5 H5
  have q0 := (H5.out.2.box.cell 0).trans rfl
  have HNr5 := Lib.hid (NrIn.own H5.out.2.own)
  have HE5 := Lib.hid (HE.out.under H5.out.1.src.below)
  go_wp2_with fail
  refine (validateN_any _ N _ HNr5.out HE5.out.elt).mono ?_
  rintro e w6 ⟨rfl, g6⟩
  rw [HLv.out]
  have H6 : Hid (PL w b w2 m R (.slice Ar R.length cr) w6 ∧ Pq w b bn N (.slice A N.length cap) gc w6) := Lib.hid ⟨H5.out.1.step HBl.out (H5.out.1.src.under g6) (grown_below g6), H5.out.2.under g6⟩
  clear H5 q0 HNr5 HE5 g6
  go_wp2_with fail
  refine (ordr_any w b _ R.length H6.out.1.src (by omega)).mono ?_
  rintro e Z ⟨u, PP, rfl, hP, hO⟩
  have hPl : PP.length = R.length := by rw [hP.length_eq, upto_len]
  have HP := Lib.hid hP
  have HZ : Hid (Slk w R (.slice Ar R.length cr) N A cap gc Z ∧ El.NmIn Z u PP) := Lib.hid (by
    have h7 := H6.out.1.step HBl.out hO.src hO.gro
    have h8 := H6.out.2.step hO.src hO.gro
    obtain ⟨base, -, ho⟩ := hO.own
    exact ⟨⟨h7.src.below, h7.ins, NrIn.own h8.own, h8.box⟩, NmIn.own ho⟩)
  obtain ⟨Ao, co, hu, -⟩ := id HZ.out.2
  have hu' : u = .slice Ao PP.length co := hu
  subst hu'
  clear hP hO H6 hu
  go_wp2_with fail
  go_loopw [8, 46] (fun y t' wr => ∃ (k : Nat) (y' : Value), k ≤ PP.length ∧ y' = y ∧ t' = .int .i64 (k : Int) ∧ Hid (Lo Z (pick R (PP.take k)) y' wr)) (fun _ t' _ => PP.length - (intOf t').toNat)
  case atStart => exact ⟨0, _, Nat.zero_le _, rfl, rfl, Lib.hid (Lo.start Z)⟩
  case round =>
    obtain ⟨k, y, hk, rfl, rfl, HL⟩ := hrel
    by_cases hlt : k < PP.length
    · obtain ⟨g1, o1, hA1, -, p1⟩ := NmIn.at (El.NmIn.under HZ.out.2 HL.out.below) hlt
      subst hA1
      have hmem := upto_mem (HP.out.mem_iff.1 (List.getElem_mem hlt))
      obtain ⟨j, hj⟩ := Int.eq_ofNat_of_zero_le hmem.1
      have hjR : j < R.length := by omega
      have HPk := Lib.hid (pick_take R PP hlt (r := R[j]) (by rw [hj, Int.toNat_natCast]; exact List.getElem?_eq_getElem hjR))
      rw [hj] at p1
      obtain ⟨Ar', cr', e, -, -, hat⟩ := HZ.out.1.rps
      injection e with e1 e2 e3
      subst e1
      obtain ⟨g, off, hA2, hgl, hc, hrd⟩ := hat j hjR
      subst hA2
      obtain ⟨c0, c1, c2, c3, c4, c5, c6, c7⟩ := hc.under hgl HL.out.below
      have k0 : (0 : Int) ≤ (k : Int) := by omega
      have k1 : (k : Int) < (PP.length : Int) := by omega
      have j0 : (0 : Int) ≤ (j : Int) := by omega
      have j1 : (j : Int) < (R.length : Int) := by omega
      have hQl : (pick R (PP.take k)).length ≤ 6 := Nat.le_trans (pick_len R PP k) (by omega)
      generalize hQ : pick R (PP.take k) = Q at *
      clear hat e3 hmem hj
      generalize R[j] = r at *
      obtain ⟨rk, nm, t, F, P1, P2, P3, ur, L⟩ := r
      simp only at c0 c1 c2 c3 c4 c5 c6 c7 hrd
      obtain ⟨Au, cu, eu, -⟩ := id hrd
      have eu' : ur = .slice Au L.length cu := eu
      clear hrd eu
      subst eu'
      have HRW := Lib.hid (HL.out.row (.cells (repC rk nm t F P1 P2 P3 (.slice Au L.length cu)) 38))
      have HC8 := Lib.hid (eight_at (r := (⟨rk, nm, t, F, P1, P2, P3, .slice Au L.length cu, L⟩ : Rp)) (Row.new wr (repC rk nm t F P1 P2 P3 (.slice Au L.length cu)) 38))
      have hsz : Z.heap.size ≤ (wr.alloc (.cells (repC rk nm t F P1 P2 P3 (.slice Au L.length cu)) 38)).heap.size := Nat.le_trans HL.out.below.size ((Below.refl _ _).alloc (Nat.le_refl _) _ : Below wr.heap.size wr _).size
      go_wp2_with (at_builtin; go_loud (refine wpList_append_own' rfl (.tmp 50) (.tmp 55) 25 rfl Z.heap.size 38 i0 (repV 0 ⟨#[]⟩ 0 0 0 0 0 (.slice none 0 0)) 8 88 Tryd.underlying25 hi0 hz0 hz1 hz2 rfl (by decide) y Q.length (rpc Q) rfl HRW.out ⟨wr.heap.size, 0, none⟩ 1 1 (rpCells (⟨rk, nm, t, F, P1, P2, P3, .slice Au L.length cu, L⟩ : Rp)) rfl rfl HC8.out (fun u hu => by simp only [rpCells, List.mem_cons, List.not_mem_nil, or_false] at hu; rcases hu with rfl | rfl | rfl | rfl | rfl | rfl | rfl | rfl <;> rfl) (by unfold maxLen; omega) (by omega) hsz ?_; intro v' w9 ho' hg'))
      have HLn : Hid (Lo Z (pick R (PP.take (k + 1))) v' w9) := Lib.hid (by rw [HPk.out]; exact HL.out.app ho' hg')
      clear ho' hg' HRW HC8 HL HPk hsz
      go_roundw
      case rel => exact ⟨k + 1, _, by omega, rfl, by go_num, HLn⟩
      case measure => simp [intOf]; omega
    · obtain rfl : k = PP.length := by omega
      rw [List.take_length] at HL
      have k1 : ¬ (PP.length : Int) < (PP.length : Int) := by omega
      have HPm := Lib.hid (pick_perm HP.out)
      have H8 : Hid (Slk w R (.slice Ar R.length cr) N A cap gc wr ∧ RpsIn wr y (pick R PP)) := Lib.hid ⟨HZ.out.1.under HL.out.below, RpsIn.own HL.out.own (fun r hr => by
        obtain ⟨i, hi, e⟩ := List.getElem_of_mem (HPm.out.mem_iff.1 hr)
        obtain ⟨Ar', cr', -, -, -, hat⟩ := HZ.out.1.rps
        obtain ⟨g, off, -, -, -, hrd⟩ := hat i hi
        rw [← e]
        exact El.RdIn.under hrd HL.out.below)⟩
      have hpl : (pick R PP).length ≤ 6 := by rw [HPm.out.length_eq]; exact hR6
      have herr : errC (pick R PP) = 0 := errC_of (m := m) (fun r hr => HVal.out r (HPm.out.mem_iff.1 hr))
      have HLf := Lib.hid (lrn_few herr (by omega))
      have HL11 : Hid (∀ r ∈ pick R PP, r.L.length ≤ 40) := Lib.hid (fun r hr => by have := HVL.out r (HPm.out.mem_iff.1 hr); omega)
      have HE8 := Lib.hid (HE.out.under H8.out.1.below)
      clear HZ HL herr
      go_wp2_with fail
      refine (learn_any y (pick R PP) wr HE8.out H8.out.2 (by omega) HL11.out).mono ?_
      rintro e w9 ⟨v9, rfl, g9, o9⟩
      rw [HLf.out, outC_perm HPm.out, HN.out] at o9 ⊢
      obtain ⟨A9, c9, rfl⟩ := row_form o9
      have b9 := (Below.refl w9.heap.size w9).alloc (Nat.le_refl _) (.cells #[.slice A9 N.length c9] 24)
      have H9 : Hid (Slk w R (.slice Ar R.length cr) N A cap gc (w9.alloc (.cells #[.slice A9 N.length c9] 24)) ∧ NrIn (w9.alloc (.cells #[.slice A9 N.length c9] 24)) (.slice A9 N.length c9) N ∧ Row (w9.alloc (.cells #[.slice A9 N.length c9] 24)) w9.heap.size 24 #[.slice A9 N.length c9]) := Lib.hid ⟨(H8.out.1.under g9).under b9, (NrIn.own o9).under b9, Row.new _ _ _⟩
      clear o9 g9 b9 H8 HLf HL11 HE8 hpl HPm HP
      dsimp only
      go_upto_region 14 with fail
      refine forget (fun Y => Hid (Slk w R (.slice Ar R.length cr) N A cap gc Y ∧ NrIn Y (.slice A9 N.length c9) N ∧ Row Y w9.heap.size 24 #[.slice A9 N.length c9])) H9 ?_
      clear H9
      generalize w9.heap.size = gd at *
      rintro Y9 H9
      have q0 := (H9.out.1.box.cell 0).trans rfl
      have q1 := (H9.out.2.2.cell 0).trans rfl
      have HSm := Lib.hid (refSameN_any _ _ N N Y9 H9.out.1.nr H9.out.2.1)
      go_wp2_with fail
      refine HSm.out.mono ?_
      rintro e w10 ⟨he, g10⟩
      obtain rfl : e = .returned (.bool true) := he.trans (by simp)
      have HZ2 := Lib.hid (H9.out.1.under g10)
      clear H9 HSm q0 q1 g10
      have q0 := (HZ2.out.box.cell 0).trans rfl
      have hmk := run_make_row' (P := Tryd.prog) 58 4 (.bool false) 1 Tryd.underlying58 infoBool rfl .i64 .i64 N.length (by omega) (by omega)
      have H10 : Hid (Lb w10 w10.heap.size N.length (D2 N R 0) (w10.alloc (.cells (madeCells #[.bool false] N.length) 4))) := Lib.hid (Lb.start w10 N.length (fun j _ => d2_zero))
      go_upto_region 17 with fail
      refine forget (fun Y => Hid (Lb w10 w10.heap.size N.length (D2 N R 0) Y)) H10 ?_
      clear H10 hmk q0
      obtain ⟨gB, hgB⟩ : ∃ g, w10.heap.size = g := ⟨_, rfl⟩
      rw [hgB]
      clear hgB
      rintro Y10 H10
      go_wp2_with fail
      go_loopw [77] (fun t' wr => ∃ i : Nat, i ≤ R.length ∧ t' = .int .i64 (i : Int) ∧ Hid (Lb w10 gB N.length (D2 N R i) wr)) (fun t' _ => R.length - (intOf t').toNat)
      case atStart => exact ⟨0, Nat.zero_le _, rfl, H10⟩
      case round =>
        clear H10
        obtain ⟨i, hi, rfl, H10⟩ := hrel
        by_cases hlt : i < R.length
        · obtain ⟨Ar', cr', e, -, -, hat⟩ := HZ2.out.rps
          injection e with e1 e2 e3
          subst e1
          obtain ⟨g, off, hA2, hgl, hc, hrd⟩ := hat i hlt
          subst hA2
          obtain ⟨c0, c1, c2, c3, c4, c5, c6, c7⟩ := hc.under hgl H10.out.below
          have k0 : (0 : Int) ≤ (i : Int) := by omega
          have k1 : (i : Int) < (R.length : Int) := by omega
          have HVr := Lib.hid (HVal.out _ (List.getElem_mem hlt))
          have hL11 := HVL.out _ (List.getElem_mem hlt)
          have HNr := Lib.hid (fun (x : El.Elt.R) (hx : x ∈ R[i].L) => has_normal HErr.out (List.getElem_mem hlt) hx)
          have HD2 := Lib.hid (fun (j : Nat) (h : D2 N R (i + 1) j) => d2_succ hlt h)
          clear hat e3 hc
          generalize R[i] = r at *
          obtain ⟨rk, nm, t, F, P1, P2, P3, ur, L⟩ := r
          simp only at c0 c1 c2 c3 c4 c5 c6 c7 hrd HNr HD2 hL11
          rw [HN.out] at HNr
          have HVr2 : Hid (nrm F P1 P2 P3 = true ∧ El.Elt.vld L = 0 ∧ 0 ≤ t ∧ t ≤ 52595999) := Lib.hid (by obtain ⟨-, h1, h2, h3, -⟩ := HVr.out; exact ⟨h3, h2, h1.1, h1.2⟩)
          clear HVr
          obtain ⟨Au, cu, eu, -⟩ := id hrd
          have eu' : ur = .slice Au L.length cu := eu
          subst eu'
          have HRd := Lib.hid hrd
          have HFM : Hid (fam F P1 P2 P3 t = (F, mth t, 0)) := Lib.hid (fam_nrm HVr2.out.1 (by unfold Ck.Cal.rng; have := HVr2.out.2.2; simp; omega))
          have b1 := (Below.refl wr.heap.size wr).alloc (Nat.le_refl _) (.cells (repC rk nm t F P1 P2 P3 (.slice Au L.length cu)) 38)
          have I1 : Hid (Lc w10 gB N.length (D3 N R i F (mth t) L 0) wr.heap.size (repC rk nm t F P1 P2 P3 (.slice Au L.length cu)) (wr.alloc (.cells (repC rk nm t F P1 P2 P3 (.slice Au L.length cu)) 38))) := Lib.hid ⟨(H10.out.under b1).mono (fun j _ h => d3_zero h), Row.new _ _ _⟩
          clear b1 H10 hrd eu
          go_upto_region 20 with fail
          refine forget (fun Y => Hid (Lc w10 gB N.length (D3 N R i F (mth t) L 0) wr.heap.size (repC rk nm t F P1 P2 P3 (.slice Au L.length cu)) Y)) I1 ?_
          clear I1 c0 c1 c2 c3 c4 c5 c6 c7
          generalize wr.heap.size = gp at *
          rintro Y1 H1
          obtain ⟨q0, q1, q2, q3, q4, q5, q6, q7⟩ := row8 H1.out.rp
          go_wp2_with fail
          go_loopw [84] (fun t' wr => ∃ q : Nat, q ≤ L.length ∧ t' = .int .i64 (q : Int) ∧ Hid (Lc w10 gB N.length (D3 N R i F (mth t) L q) gp (repC rk nm t F P1 P2 P3 (.slice Au L.length cu)) wr)) (fun t' _ => L.length - (intOf t').toNat)
          case atStart => exact ⟨0, Nat.zero_le _, rfl, H1⟩
          case round =>
            clear H1 q0 q1 q2 q3 q4 q5 q6 q7
            obtain ⟨q, hq, rfl, H3⟩ := hrel
            by_cases hql : q < L.length
            · obtain ⟨Au', cu', e, -, -, hat⟩ := id HRd.out
              injection e with e1 e2 e3
              subst e1
              obtain ⟨gu, ou, hAu, hgu, x0, x1⟩ := hat q hql
              subst hAu
              have y0 := (H3.out.lb.below.cell (p := ⟨gu, ou + q * 2, none⟩) hgu).trans x0
              have y1 := (H3.out.lb.below.cell (p := ⟨gu, ou + q * 2 + 1, none⟩) hgu).trans x1
              have j0 : (0 : Int) ≤ (q : Int) := by omega
              have j1 : (q : Int) < (L.length : Int) := by omega
              obtain ⟨⟨n, hnN, hne⟩, hfn, hb1, hb2⟩ := HNr.out _ (List.getElem_mem hql)
              rw [← hne] at hfn hb1 hb2
              have hvb := El.Elt.val_bd (vld_vals HVr2.out.2.1 _ (List.getElem_mem hql))
              have hmb := mean_in HLv.out hnN
              have HD3 := Lib.hid (fun (j : Nat) (hj : j < N.length) (h : D3 N R i F (mth t) L (q + 1) j) => d3_succ hql hj h)
              clear hat e3 x0 x1 hne hnN
              generalize L[q] = x at *
              obtain ⟨xc, xv⟩ := x
              obtain ⟨n0, n1, n2, mn, sp⟩ := n
              simp only at y0 y1 hb1 hb2 hvb hmb hfn
              obtain ⟨-, v1, v2, -⟩ := hvb
              obtain ⟨w1', w2'⟩ := hmb
              have HFn := Lib.hid hfn
              have b1 := (Below.refl wr.heap.size wr).alloc (Nat.le_refl _) (.cells #[.int .i64 xc, .int .i64 xv] 60)
              have H4 : Hid (Lc w10 gB N.length (D3 N R i F (mth t) L q) gp (repC rk nm t F P1 P2 P3 (.slice (some ⟨gu, ou, none⟩) L.length cu)) (wr.alloc (.cells #[.int .i64 xc, .int .i64 xv] 60)) ∧ Row (wr.alloc (.cells #[.int .i64 xc, .int .i64 xv] 60)) wr.heap.size 60 #[.int .i64 xc, .int .i64 xv]) := Lib.hid ⟨H3.out.under b1, Row.new _ _ _⟩
              clear b1 H3 hfn
              go_upto_region 23 with fail
              refine forget (fun Y => Hid (Lc w10 gB N.length (D3 N R i F (mth t) L q) gp (repC rk nm t F P1 P2 P3 (.slice (some ⟨gu, ou, none⟩) L.length cu)) Y ∧ Row Y wr.heap.size 60 #[.int .i64 xc, .int .i64 xv])) H4 ?_
              clear H4 y0 y1
              generalize wr.heap.size = gx at *
              rintro Y4 H4
              obtain ⟨q0, q1, q2, q3, q4, q5, q6, q7⟩ := row8 H4.out.1.rp
              obtain ⟨y0, y1⟩ := row2 H4.out.2
              have HS4 := Lib.hid (HZ2.out.under H4.out.1.lb.below)
              have z0 := (HS4.out.box.cell 0).trans rfl
              have hlk := lookup_any _ N xc F P1 P2 P3 t Y4 HS4.out.nr (HE.out.under HS4.out.below)
              rw [HFM.out, lkpR_yes HLv.out, HFn.out] at hlk
              have HLk := Lib.hid hlk
              clear hlk
              go_wp2_with fail
              refine HLk.out.mono ?_
              rintro e w11 ⟨he, g11⟩
              obtain rfl : e = .returned (.tuple #[nV (n0, n1, n2, mn, sp), .int .i64 0]) := he.trans (by simp)
              have b1 := (Below.refl w11.heap.size w11).alloc (Nat.le_refl _) (.cells #[.int .i64 n0, .int .i64 n1, .int .i64 n2, .int .i64 mn, .int .i64 sp] 50)
              have H5 : Hid (Le w10 gB N.length (D4 N R i F (mth t) L q (xc, xv) 0) gp (repC rk nm t F P1 P2 P3 (.slice (some ⟨gu, ou, none⟩) L.length cu)) gx #[.int .i64 xc, .int .i64 xv] w11.heap.size #[.int .i64 n0, .int .i64 n1, .int .i64 n2, .int .i64 mn, .int .i64 sp] (w11.alloc (.cells #[.int .i64 n0, .int .i64 n1, .int .i64 n2, .int .i64 mn, .int .i64 sp] 50))) := Lib.hid ⟨((H4.out.1.under g11).under b1).mono (fun j _ h => d4_zero h), (H4.out.2.under g11).under b1, Row.new _ _ _⟩
              clear b1 H4 g11 HLk HS4 q0 q1 q2 q3 q4 q5 q6 q7 y0 y1 z0
              go_upto_region 24 with fail
              refine forget (fun Y => Hid (Le w10 gB N.length (D4 N R i F (mth t) L q (xc, xv) 0) gp (repC rk nm t F P1 P2 P3 (.slice (some ⟨gu, ou, none⟩) L.length cu)) gx #[.int .i64 xc, .int .i64 xv] w11.heap.size #[.int .i64 n0, .int .i64 n1, .int .i64 n2, .int .i64 mn, .int .i64 sp] Y)) H5 ?_
              clear H5
              generalize w11.heap.size = gn at *
              rintro Y5 H5
              obtain ⟨y0, y1⟩ := row2 H5.out.rx
              obtain ⟨z0, z1, z2, z3, z4⟩ := row5 H5.out.rn
              have q8 := ((HZ2.out.under H5.out.lc.lb.below).box.cell 0).trans rfl
              have hmx : ¬ sp < max (xv - mn) (mn - xv) := by omega
              go_wp2_with fail
              clear y0 y1 z0 z1 z2 z3 z4 q8 hmx hb1 hb2
              go_loopw [120] (fun t' wr => ∃ p : Nat, p ≤ N.length ∧ t' = .int .i64 (p : Int) ∧ Hid (Le w10 gB N.length (D4 N R i F (mth t) L q (xc, xv) p) gp (repC rk nm t F P1 P2 P3 (.slice (some ⟨gu, ou, none⟩) L.length cu)) gx #[.int .i64 xc, .int .i64 xv] gn #[.int .i64 n0, .int .i64 n1, .int .i64 n2, .int .i64 mn, .int .i64 sp] wr)) (fun t' _ => N.length - (intOf t').toNat)
              case atStart => exact ⟨0, Nat.zero_le _, rfl, H5⟩
              case round =>
                clear H5
                obtain ⟨p, hp, rfl, H6⟩ := hrel
                by_cases hpl : p < N.length
                · obtain ⟨gz, oz, hA, hgz, p1⟩ := NrIn.at HZ2.out.nr hpl
                  subst hA
                  have q8 := ((HZ2.out.under H6.out.lc.lb.below).box.cell 0).trans rfl
                  have p2 := At5.keep p1 (fun j => H6.out.lc.lb.below.cell (p := ⟨gz, j, none⟩) hgz)
                  obtain ⟨y0, y1⟩ := row2 H6.out.rx
                  obtain ⟨z0, z1, z2, z3, z4⟩ := row5 H6.out.rn
                  have l0 : (0 : Int) ≤ (p : Int) := by omega
                  have l1 : (p : Int) < (N.length : Int) := by omega
                  have HHt := Lib.hid (show hitN N p F (mth t) (xc, xv) → N[p] = (n0, n1, n2, mn, sp) ∧ max (xv - mn) (mn - xv) = sp from fun ⟨n', h1, h2, h3⟩ => by
                    rw [List.getElem?_eq_getElem hpl] at h1
                    injection h1 with h1
                    have h2 := HFn.out.symm.trans h2
                    injection h2 with h2
                    subst h2
                    exact ⟨h1, h3⟩)
                  generalize N[p] = nn at *
                  obtain ⟨bq, hbq⟩ : ∃ bq, decide (nn = (n0, n1, n2, mn, sp)) = bq := ⟨_, rfl⟩
                  have HBQ := Lib.hid hbq
                  clear hbq p1
                  have HDr := Lib.hid (H6.out.under (show Below wr.heap.size wr wr.drew from ⟨rfl, rfl, rfl, Nat.le_refl _, fun _ _ => rfl⟩))
                  go_upto_region 29 with fail
                  refine wp_region_held_drew (S := fun w' : World => w'.cell? ⟨gc, 0, none⟩ = some (.slice (some ⟨gz, oz, none⟩) N.length cap) ∧ (w'.cell? ⟨gz, oz + p * 5, none⟩ = some (.int .i64 nn.1) ∧ w'.cell? ⟨gz, oz + p * 5 + 1, none⟩ = some (.int .i64 nn.2.1) ∧ w'.cell? ⟨gz, oz + p * 5 + 2, none⟩ = some (.int .i64 nn.2.2.1) ∧ w'.cell? ⟨gz, oz + p * 5 + 3, none⟩ = some (.int .i64 nn.2.2.2.1) ∧ w'.cell? ⟨gz, oz + p * 5 + 4, none⟩ = some (.int .i64 nn.2.2.2.2)) ∧ (w'.cell? ⟨gn, 0, none⟩ = some (.int .i64 n0) ∧ w'.cell? ⟨gn, 1, none⟩ = some (.int .i64 n1) ∧ w'.cell? ⟨gn, 2, none⟩ = some (.int .i64 n2) ∧ w'.cell? ⟨gn, 3, none⟩ = some (.int .i64 mn) ∧ w'.cell? ⟨gn, 4, none⟩ = some (.int .i64 sp)) ∧ w'.cell? ⟨gx, 1, none⟩ = some (.int .i64 xv)) (by kernel_rfl) ⟨q8, p2, ⟨z0, z1, z2, z3, z4⟩, y1⟩ (fun hHeld => ?_)
                  clear H6
                  refine tk 0 (oi := ⟨some 123, _, _, _, _, none⟩) rfl ?_
                  try go_frame
                  refine tk 1 (oi := ⟨some 124, _, _, _, _, none⟩) rfl ?_
                  try go_frame
                  refine tk 2 (oi := ⟨some 125, _, _, _, _, none⟩) rfl ?_
                  try go_frame
                  refine tk 3 (oi := ⟨some 126, _, _, _, _, none⟩) rfl ?_
                  try go_frame
                  refine tk 4 (oi := ⟨some 127, _, _, _, _, none⟩) rfl ?_
                  try go_frame
                  refine tk 5 (oi := ⟨some 128, _, _, _, _, none⟩) rfl ?_
                  try go_frame
                  refine tk 6 (oi := ⟨some 129, _, _, _, _, none⟩) (v := .bool bq) rfl ?_ (hy := fun wx hSx => by
                    go_simp
                    rw [five_eq HBQ.out]
                    by_cases h1 : nn.1 = n0 <;> by_cases h2 : nn.2.1 = n1 <;> by_cases h3 : nn.2.2.1 = n2 <;> by_cases h4 : nn.2.2.2.1 = mn <;> by_cases h5 : nn.2.2.2.2 = sp <;> simp [h1, h2, h3, h4, h5])
                  try go_frame
                  refine tk 7 (oi := ⟨some 130, _, _, _, _, none⟩) rfl ?_
                  try go_frame
                  have H7 := Lib.hid HDr.out
                  clear HDr
                  cases bq with
                  | false =>
                    have HNh : Hid (¬ hitN N p F (mth t) (xc, xv)) := Lib.hid (fun h => (of_decide_eq_false HBQ.out) (HHt.out h).1)
                    clear HHt HBQ
                    refine sk 8 (oi := ⟨some 131, _, _, _, _, some _⟩) rfl ?_ (hg := by kernel_rfl)
                    try go_frame
                    refine sk 9 (oi := ⟨some 132, _, _, _, _, some _⟩) rfl ?_ (hg := by kernel_rfl)
                    try go_frame
                    refine sk 10 (oi := ⟨some 133, _, _, _, _, some _⟩) rfl ?_ (hg := by kernel_rfl)
                    try go_frame
                    refine sk 11 (oi := ⟨some 134, _, _, _, _, some _⟩) rfl ?_ (hg := by kernel_rfl)
                    try go_frame
                    refine sk 12 (oi := ⟨some 135, _, _, _, _, some _⟩) rfl ?_ (hg := by kernel_rfl)
                    try go_frame
                    refine sk 13 (oi := ⟨some 136, _, _, _, _, some _⟩) rfl ?_ (hg := by kernel_rfl)
                    try go_frame
                    refine sk 14 (oi := ⟨some 137, _, _, _, _, some _⟩) rfl ?_ (hg := by kernel_rfl)
                    try go_frame
                    refine sk 15 (oi := ⟨some 138, _, _, _, _, some _⟩) rfl ?_ (hg := by kernel_rfl)
                    try go_frame
                    refine sk 16 (oi := ⟨some 139, _, _, _, _, some _⟩) rfl ?_ (hg := by kernel_rfl)
                    try go_frame
                    refine sk 17 (oi := ⟨some 140, _, _, _, _, some _⟩) rfl ?_ (hg := by kernel_rfl)
                    try go_frame
                    refine sk 18 (oi := ⟨some 141, _, _, _, _, some _⟩) rfl ?_ (hg := by kernel_rfl)
                    try go_frame
                    refine sk 19 (oi := ⟨some 142, _, _, _, _, some _⟩) rfl ?_ (hg := by kernel_rfl)
                    try go_frame
                    refine sk 20 (oi := ⟨some 143, _, _, _, _, some _⟩) rfl ?_ (hg := by kernel_rfl)
                    try go_frame
                    refine sk 21 (oi := ⟨some 144, _, _, _, _, some _⟩) rfl ?_ (hg := by kernel_rfl)
                    try go_frame
                    refine tk 22 (oi := ⟨some 145, _, _, _, _, none⟩) rfl ?_ (hg := by kernel_rfl)
                    try go_frame
                    refine wpAnyH_done (by kernel_rfl) ?_ _
                    clear hHeld p2 q8 y0 y1 z0 z1 z2 z3 z4
                    have HNo := Lib.hid (fun (j : Nat) (hj : j < N.length) (h : D4 N R i F (mth t) L q (xc, xv) (p + 1) j) => (d4_succ h).elim id (fun h2 => absurd h2.2 HNh.out))
                    have H8 : Hid (Le w10 gB N.length (D4 N R i F (mth t) L q (xc, xv) (p + 1)) gp (repC rk nm t F P1 P2 P3 (.slice (some ⟨gu, ou, none⟩) L.length cu)) gx #[.int .i64 xc, .int .i64 xv] gn #[.int .i64 n0, .int .i64 n1, .int .i64 n2, .int .i64 mn, .int .i64 sp] wr.drew) := Lib.hid (H7.out.mono (fun j hj h => HNo.out j hj h))
                    clear HNo HNh H7
                    go_wp2_with fail
                    go_roundw
                    case rel => exact ⟨p + 1, by omega, by go_num, H8⟩
                    case measure => simp [intOf]; omega
                  | true =>
                    have hw1 : IntKind.i64.wrap (xv - mn) = xv - mn := IntWalk.i64_in _ (by omega)
                    have hw2 : IntKind.i64.wrap (mn - xv) = mn - xv := IntWalk.i64_in _ (by omega)
                    by_cases hd : max (xv - mn) (mn - xv) = sp
                    · clear HHt HBQ
                      refine tk 8 (oi := ⟨some 131, _, _, _, _, some _⟩) rfl ?_ (hg := by kernel_rfl)
                      try go_frame
                      refine tk 9 (oi := ⟨some 132, _, _, _, _, some _⟩) rfl ?_ (hg := by kernel_rfl)
                      try go_frame
                      refine tk 10 (oi := ⟨some 133, _, _, _, _, some _⟩) rfl ?_ (hg := by kernel_rfl)
                      try go_frame
                      refine tk 11 (oi := ⟨some 134, _, _, _, _, some _⟩) rfl ?_ (hg := by kernel_rfl)
                      try go_frame
                      refine tk 12 (oi := ⟨some 135, _, _, _, _, some _⟩) (v := .int .i64 (xv - mn)) rfl ?_ (hg := by kernel_rfl) (hy := fun wx hSx => by first | (go_simp; done) | (go_simp; simp [hw1]))
                      try go_frame
                      refine tk 13 (oi := ⟨some 136, _, _, _, _, some _⟩) rfl ?_ (hg := by kernel_rfl)
                      try go_frame
                      refine tk 14 (oi := ⟨some 137, _, _, _, _, some _⟩) rfl ?_ (hg := by kernel_rfl)
                      try go_frame
                      refine tk 15 (oi := ⟨some 138, _, _, _, _, some _⟩) rfl ?_ (hg := by kernel_rfl)
                      try go_frame
                      refine tk 16 (oi := ⟨some 139, _, _, _, _, some _⟩) rfl ?_ (hg := by kernel_rfl)
                      try go_frame
                      refine tk 17 (oi := ⟨some 140, _, _, _, _, some _⟩) (v := .int .i64 (mn - xv)) rfl ?_ (hg := by kernel_rfl) (hy := fun wx hSx => by first | (go_simp; done) | (go_simp; simp [hw2]))
                      try go_frame
                      refine tk 18 (oi := ⟨some 141, _, _, _, _, some _⟩) (v := .int .i64 (max (xv - mn) (mn - xv))) rfl ?_ (hg := by kernel_rfl) (hy := fun wx hSx => by first | (go_simp; done) | (go_simp; simp [hw1]))
                      try go_frame
                      refine tk 19 (oi := ⟨some 142, _, _, _, _, some _⟩) rfl ?_ (hg := by kernel_rfl)
                      try go_frame
                      refine tk 20 (oi := ⟨some 143, _, _, _, _, some _⟩) rfl ?_ (hg := by kernel_rfl)
                      try go_frame
                      refine tk 21 (oi := ⟨some 144, _, _, _, _, some _⟩) (v := .bool true) rfl ?_ (hg := by kernel_rfl) (hy := fun wx hSx => by first | (go_simp; done) | (go_simp; simp [hd]))
                      try go_frame
                      refine tk 22 (oi := ⟨some 145, _, _, _, _, none⟩) rfl ?_ (hg := by kernel_rfl)
                      try go_frame
                      refine wpAnyH_done (by kernel_rfl) ?_ _
                      clear hHeld p2 q8 y0 y1 z0 z1 z2 z3 z4 hd hw1 hw2
                      have H8 : Hid (Le w10 gB N.length (D4 N R i F (mth t) L q (xc, xv) (p + 1)) gp (repC rk nm t F P1 P2 P3 (.slice (some ⟨gu, ou, none⟩) L.length cu)) gx #[.int .i64 xc, .int .i64 xv] gn #[.int .i64 n0, .int .i64 n1, .int .i64 n2, .int .i64 mn, .int .i64 sp] (wr.drew.setCell ⟨gB, p, none⟩ (.bool true))) := Lib.hid (H7.out.put (fun j h => (d4_succ h).imp id (fun h2 => h2.1)))
                      obtain ⟨bo, y0, -, f0⟩ := H7.out.lc.lb.facts hpl
                      clear H7
                      go_wp2_with fail
                      go_roundw
                      case rel => exact ⟨p + 1, by omega, by go_num, H8⟩
                      case measure => simp [intOf]; omega
                    · have HNh : Hid (¬ hitN N p F (mth t) (xc, xv)) := Lib.hid (fun h => hd (HHt.out h).2)
                      clear HHt HBQ
                      refine tk 8 (oi := ⟨some 131, _, _, _, _, some _⟩) rfl ?_ (hg := by kernel_rfl)
                      try go_frame
                      refine tk 9 (oi := ⟨some 132, _, _, _, _, some _⟩) rfl ?_ (hg := by kernel_rfl)
                      try go_frame
                      refine tk 10 (oi := ⟨some 133, _, _, _, _, some _⟩) rfl ?_ (hg := by kernel_rfl)
                      try go_frame
                      refine tk 11 (oi := ⟨some 134, _, _, _, _, some _⟩) rfl ?_ (hg := by kernel_rfl)
                      try go_frame
                      refine tk 12 (oi := ⟨some 135, _, _, _, _, some _⟩) (v := .int .i64 (xv - mn)) rfl ?_ (hg := by kernel_rfl) (hy := fun wx hSx => by first | (go_simp; done) | (go_simp; simp [hw1]))
                      try go_frame
                      refine tk 13 (oi := ⟨some 136, _, _, _, _, some _⟩) rfl ?_ (hg := by kernel_rfl)
                      try go_frame
                      refine tk 14 (oi := ⟨some 137, _, _, _, _, some _⟩) rfl ?_ (hg := by kernel_rfl)
                      try go_frame
                      refine tk 15 (oi := ⟨some 138, _, _, _, _, some _⟩) rfl ?_ (hg := by kernel_rfl)
                      try go_frame
                      refine tk 16 (oi := ⟨some 139, _, _, _, _, some _⟩) rfl ?_ (hg := by kernel_rfl)
                      try go_frame
                      refine tk 17 (oi := ⟨some 140, _, _, _, _, some _⟩) (v := .int .i64 (mn - xv)) rfl ?_ (hg := by kernel_rfl) (hy := fun wx hSx => by first | (go_simp; done) | (go_simp; simp [hw2]))
                      try go_frame
                      refine tk 18 (oi := ⟨some 141, _, _, _, _, some _⟩) (v := .int .i64 (max (xv - mn) (mn - xv))) rfl ?_ (hg := by kernel_rfl) (hy := fun wx hSx => by first | (go_simp; done) | (go_simp; simp [hw1]))
                      try go_frame
                      refine tk 19 (oi := ⟨some 142, _, _, _, _, some _⟩) rfl ?_ (hg := by kernel_rfl)
                      try go_frame
                      refine tk 20 (oi := ⟨some 143, _, _, _, _, some _⟩) rfl ?_ (hg := by kernel_rfl)
                      try go_frame
                      refine tk 21 (oi := ⟨some 144, _, _, _, _, some _⟩) (v := .bool false) rfl ?_ (hg := by kernel_rfl) (hy := fun wx hSx => by first | (go_simp; done) | (go_simp; simp [hd]))
                      try go_frame
                      refine tk 22 (oi := ⟨some 145, _, _, _, _, none⟩) rfl ?_ (hg := by kernel_rfl)
                      try go_frame
                      refine wpAnyH_done (by kernel_rfl) ?_ _
                      clear hHeld p2 q8 y0 y1 z0 z1 z2 z3 z4 hd hw1 hw2
                      have HNo := Lib.hid (fun (j : Nat) (hj : j < N.length) (h : D4 N R i F (mth t) L q (xc, xv) (p + 1) j) => (d4_succ h).elim id (fun h2 => absurd h2.2 HNh.out))
                      have H8 : Hid (Le w10 gB N.length (D4 N R i F (mth t) L q (xc, xv) (p + 1)) gp (repC rk nm t F P1 P2 P3 (.slice (some ⟨gu, ou, none⟩) L.length cu)) gx #[.int .i64 xc, .int .i64 xv] gn #[.int .i64 n0, .int .i64 n1, .int .i64 n2, .int .i64 mn, .int .i64 sp] wr.drew) := Lib.hid (H7.out.mono (fun j hj h => HNo.out j hj h))
                      clear HNo HNh H7
                      go_wp2_with fail
                      go_roundw
                      case rel => exact ⟨p + 1, by omega, by go_num, H8⟩
                      case measure => simp [intOf]; omega
                · obtain rfl : p = N.length := by omega
                  have l1 : ¬ (N.length : Int) < (N.length : Int) := by omega
                  have H7 : Hid (Lc w10 gB N.length (D3 N R i F (mth t) L (q + 1)) gp (repC rk nm t F P1 P2 P3 (.slice (some ⟨gu, ou, none⟩) L.length cu)) wr) := Lib.hid (H6.out.lc.mono (fun j hj h => HD3.out j hj h))
                  clear H6
                  go_wp2_with fail
                  go_roundw
                  case rel => exact ⟨q + 1, by omega, by go_num, H7⟩
                  case measure => simp [intOf]; omega
            · obtain rfl : q = L.length := by omega
              have j1 : ¬ (L.length : Int) < (L.length : Int) := by omega
              have H4 : Hid (Lb w10 gB N.length (D2 N R (i + 1)) wr) := Lib.hid (H3.out.lb.mono (fun j _ h => HD2.out j h))
              clear H3
              go_wp2_with fail
              go_roundw
              case rel => exact ⟨i + 1, by omega, by go_num, H4⟩
              case measure => simp [intOf]; omega
        · obtain rfl : i = R.length := by omega
          have k1 : ¬ (R.length : Int) < (R.length : Int) := by omega
          have H11 : Hid (Lb w10 gB N.length (fun _ => True) wr) := Lib.hid (H10.out.mono (fun j hj _ => d2_all HErr.out HN.out hj))
          clear H10
          go_wp2_with fail
          go_loopw [154] (fun t' wr => ∃ i : Nat, i ≤ N.length ∧ t' = .int .i64 (i : Int) ∧ Hid (Lb w10 gB N.length (fun _ => True) wr)) (fun t' _ => N.length - (intOf t').toNat)
          case atStart => exact ⟨0, Nat.zero_le _, rfl, H11⟩
          case round =>
            clear H11
            obtain ⟨i, hi, rfl, H11⟩ := hrel
            by_cases hlt : i < N.length
            · obtain ⟨q, c0, hq, -⟩ := H11.out.facts hlt
              obtain rfl := hq trivial
              have k2 : (0 : Int) ≤ (i : Int) := by omega
              have k3 : (i : Int) < (N.length : Int) := by omega
              go_wp2_with fail
              go_roundw
              case rel => exact ⟨i + 1, by omega, by go_num, H11⟩
              case measure => simp [intOf]; omega
            · obtain rfl : i = N.length := by omega
              have k3 : ¬ (N.length : Int) < (N.length : Int) := by omega
              have HW := Lib.hid ((HZ2.out.under H11.out.below).below)
              clear H11
              go_wp2_with fail
              refine (awake13 wr (HE.out.under HW.out)).mono ?_
              rintro e w12 ⟨rfl, g12⟩
              have HB2 := Lib.hid (HW.out.trans (g12.mono HW.out.size))
              clear g12 HW
              go_wp2_with fail
              go_ret
              exact ⟨rfl, HB2.out⟩
end Go.Proofs.YtcheadbhkbbegaaDoor
