/- The walk of GridLists: for all numbers the law returns true. -/
import Derived.Test.YtehehhehilgnkaaGreatMge
import Derived.BigQuiet
namespace Go.Proofs.YtehehhehilgnkaaGreat
open Go.RowKit Go.Maps Go.Shelf

attribute [local go_sem] eq_place4 eq_cell3 eq_edge2
/-- What is known between the calls. -/
structure Sgl (W : World) (gk : Nat) (n m : Int) (w : World) : Prop where
  below : Below W.heap.size W w
  rk : Row w gk 3 #[.int .i64 n, .int .i64 m]
theorem Sgl.under {W w w' : World} {gk : Nat} {n m : Int} (h : Sgl W gk n m w) (hb : Below w.heap.size w w') : Sgl W gk n m w' :=
  ⟨h.below.trans (hb.mono h.below.size), h.rk.under hb⟩
theorem two_cells {w : World} {gk : Nat} {t : TypeId} {n m : Int} (h : Row w gk t #[.int .i64 n, .int .i64 m]) {i : Nat} (hi : i < 2) : ∃ x : Int, w.cell? ⟨gk, i, none⟩ = some (.int .i64 x) := by
  rcases (by omega : i = 0 ∨ i = 1) with rfl | rfl
  · exact ⟨n, (h.cell 0).trans rfl⟩
  · exact ⟨m, (h.cell 1).trans rfl⟩
theorem both_under {w w' : World} {va vb : Value} {m k : Nat} {F : Nat → Int} (h : Ls w va m k F ∧ Ls w vb m k F) (hb : Below w.heap.size w w') : Ls w' va m k F ∧ Ls w' vb m k F := ⟨h.1.under hb, h.2.under hb⟩
set_option maxRecDepth 100000 in
set_option maxHeartbeats 8000000 in
theorem gridLists_any (n y k : Int) (w : World) (hy : I64 y) (hk : I64 k) :
    Calls Tryz.prog 3 #[.int .i64 n, .int .i64 y, .int .i64 k] w fun e w' => e = .returned (.bool true) ∧ Below w.heap.size w w' := by
  have HY := Lib.hid hy; clear hy
  have HK := Lib.hid hk; clear hk
  obtain ⟨mm, hmm, hfm⟩ : ∃ mm : Nat, 1 + k % 8 = (mm : Int) ∧ Lat.frq mm := by
    have h1 := Int.emod_nonneg k (show (8 : Int) ≠ 0 by omega)
    have h2 := Int.emod_lt_of_pos k (show (0 : Int) < 8 by omega)
    obtain ⟨q, hq⟩ := Int.eq_ofNat_of_zero_le h1
    exact ⟨1 + q, by omega, by unfold Lat.frq; omega⟩
  have HF := Lib.hid hfm; clear hfm
  have HMM := Lib.hid hmm; clear hmm
  go_enter Tryz.func3, Tryz.ntmps3
  go_wp2_with fail
  refine (mod_any k 8 _ HK.out (by omega) (by omega)).mono ?_
  rintro e w1 ⟨rfl, rfl⟩
  have h8 : 0 ≤ k % 8 ∧ k % 8 < 8 := ⟨Int.emod_nonneg k (show (8 : Int) ≠ 0 by omega), Int.emod_lt_of_pos k (show (0 : Int) < 8 by omega)⟩
  obtain ⟨h80, h81⟩ := h8
  go_upto_region 2 with fail
  rw [HMM.out]
  clear h80 h81
  go_upto_region 3 with fail
  refine forget (fun Y => Sgl w w.heap.size n (mm : Int) Y) ⟨(Below.refl _ _).alloc (Nat.le_refl _) _, Row.new _ _ _⟩ ?_
  generalize hgk : w.heap.size = gk at *
  have HGK := Lib.hid hgk; clear hgk
  rintro Y hY
  have H0 := Lib.hid hY; clear hY
  go_loopw [38] (fun t wr => ∃ i : Nat, i ≤ 2 ∧ t = .int .i64 i ∧ Sgl w gk n (mm : Int) wr) (fun t _ => 2 - (intOf t).toNat)
  case atStart => exact ⟨0, by omega, rfl, H0.out⟩
  case round =>
    clear H0
    obtain ⟨i, hi, rfl, A⟩ := hrel
    have HA := Lib.hid A; clear A
    by_cases hi2 : i < 2
    · obtain ⟨x, ck⟩ := two_cells HA.out.rk hi2
      have i0 : (0 : Int) ≤ (i : Int) := by omega
      have i1 : (i : Int) < 2 := by omega
      obtain ⟨u1, m1, F1, hm1, hp1, hq1⟩ := nodes_both x
      obtain ⟨u2, m2, F2, hm2, hp2, hq2⟩ := cells_both x
      obtain ⟨u3, m3, F3, hm3, hp3, hq3⟩ := edges_both x
      have HP1 := Lib.hid hp1; clear hp1
      have HP2 := Lib.hid hp2; clear hp2
      have HP3 := Lib.hid hp3; clear hp3
      have HQ1 := Lib.hid hq1; clear hq1
      have HQ2 := Lib.hid hq2; clear hq2
      have HQ3 := Lib.hid hq3; clear hq3
      go_wp2_with fail
      refine (HP1.out _).mono ?_
      rintro e w1 ⟨va, rfl, b1, l1⟩
      have H1 := Lib.hid (And.intro (HA.out.under b1) l1)
      clear b1 l1 ck HA
      obtain ⟨A1, c1, rfl⟩ := H1.out.2.form
      go_wp2_with fail
      refine (HQ1.out _).mono ?_
      rintro e w2 ⟨vb, rfl, b2, l2⟩
      obtain ⟨B1, d1, rfl⟩ := l2.form
      have H2 := Lib.hid (And.intro (H1.out.1.under b2) (And.intro (H1.out.2.under b2) l2))
      clear b2 l2 H1
      go_wp2_with fail
      refine (HP2.out _).mono ?_
      rintro e w3 ⟨vc, rfl, b3, l3⟩
      obtain ⟨A2, c2, rfl⟩ := l3.form
      have H3 := Lib.hid (And.intro (H2.out.1.under b3) (And.intro (both_under H2.out.2 b3) l3))
      clear b3 l3 H2
      go_wp2_with fail
      refine (HQ2.out _).mono ?_
      rintro e w4 ⟨vd, rfl, b4, l4⟩
      obtain ⟨B2, d2, rfl⟩ := l4.form
      have H4 := Lib.hid (And.intro (H3.out.1.under b4) (And.intro (both_under H3.out.2.1 b4) (And.intro (H3.out.2.2.under b4) l4)))
      clear b4 l4 H3
      go_wp2_with fail
      go_loopw [18] (fun t wr => ∃ i : Nat, i ≤ m1 ∧ t = .int .i64 i ∧ ∃ q, wr = w4.drewN q) (fun t _ => m1 - (intOf t).toNat)
      case atStart => exact ⟨0, by omega, rfl, 0, rfl⟩
      case round =>
        obtain ⟨j, hj, rfl, q, rfl⟩ := hrel
        by_cases hlt : j < m1
        · obtain ⟨g, rfl, c⟩ := H4.out.2.1.1.at_ hlt
          obtain ⟨g', rfl, d⟩ := H4.out.2.1.2.at_ hlt
          have k0 : (0 : Int) ≤ (j : Int) := by omega
          have k1 : (j : Int) < (m1 : Int) := by omega
          have e0 := c 0 (by omega)
          have e1 := c 1 (by omega)
          have e2 := c 2 (by omega)
          have e3 := c 3 (by omega)
          have f0 := d 0 (by omega)
          have f1 := d 1 (by omega)
          have f2 := d 2 (by omega)
          have f3 := d 3 (by omega)
          rw [Nat.add_zero] at e0 f0
          clear c d
          generalize F1 (j * 4) = z0 at *
          generalize F1 (j * 4 + 1) = z1 at *
          generalize F1 (j * 4 + 2) = z2 at *
          generalize F1 (j * 4 + 3) = z3 at *
          go_wp2_with fail
          go_quiet (fail)
          go_wp2_with fail
          go_roundw
          case rel => exact ⟨j + 1, by omega, by go_num, _, rfl⟩
          case measure => simp [intOf]; omega
        · have k1 : ¬ ((j : Int) < (m1 : Int)) := by omega
          go_wp2_with fail
          clear hlt k1 hj
          go_loopw [19] (fun t wr => ∃ i : Nat, i ≤ m2 ∧ t = .int .i64 i ∧ ∃ q, wr = w4.drewN q) (fun t _ => m2 - (intOf t).toNat)
          case atStart => exact ⟨0, by omega, rfl, _, rfl⟩
          case round =>
            obtain ⟨j', hj, rfl, q, rfl⟩ := hrel
            by_cases hlt : j' < m2
            · obtain ⟨g, rfl, c⟩ := H4.out.2.2.1.at_ hlt
              obtain ⟨g', rfl, d⟩ := H4.out.2.2.2.at_ hlt
              have k0 : (0 : Int) ≤ (j' : Int) := by omega
              have k1 : (j' : Int) < (m2 : Int) := by omega
              have e0 := c 0 (by omega)
              have e1 := c 1 (by omega)
              have e2 := c 2 (by omega)
              have f0 := d 0 (by omega)
              have f1 := d 1 (by omega)
              have f2 := d 2 (by omega)
              rw [Nat.add_zero] at e0 f0
              clear c d
              generalize F2 (j' * 3) = z0 at *
              generalize F2 (j' * 3 + 1) = z1 at *
              generalize F2 (j' * 3 + 2) = z2 at *
              go_wp2_with fail
              go_quiet (fail)
              go_wp2_with fail
              go_roundw
              case rel => exact ⟨j' + 1, by omega, by go_num, _, rfl⟩
              case measure => simp [intOf]; omega
            · have k1 : ¬ ((j' : Int) < (m2 : Int)) := by omega
              have HS : Hid (Sgl w gk n (mm : Int) (w4.drewN q)) := Lib.hid (H4.out.1.under (bel_drewN _ _))
              clear H4
              generalize w4.drewN q = w4' at *
              go_wp2_with fail
              refine (HP3.out _).mono ?_
              rintro e w5 ⟨ve, rfl, b5, l5⟩
              obtain ⟨A3, c3, rfl⟩ := l5.form
              have H5 := Lib.hid (And.intro (HS.out.under b5) l5)
              clear b5 l5 HS
              go_wp2_with fail
              refine (HQ3.out _).mono ?_
              rintro e w6 ⟨vf, rfl, b6, l6⟩
              obtain ⟨B3, d3, rfl⟩ := l6.form
              have H6 := Lib.hid (And.intro (H5.out.1.under b6) (And.intro (H5.out.2.under b6) l6))
              clear b6 l6 H5 hlt k1 hj
              go_wp2_with fail
              go_loopw [24] (fun t wr => ∃ i : Nat, i ≤ m3 ∧ t = .int .i64 i ∧ ∃ q, wr = w6.drewN q) (fun t _ => m3 - (intOf t).toNat)
              case atStart => exact ⟨0, by omega, rfl, 0, rfl⟩
              case round =>
                obtain ⟨j3, hj, rfl, q, rfl⟩ := hrel
                by_cases hlt : j3 < m3
                · obtain ⟨g, rfl, c⟩ := H6.out.2.1.at_ hlt
                  obtain ⟨g', rfl, d⟩ := H6.out.2.2.at_ hlt
                  have k0 : (0 : Int) ≤ (j3 : Int) := by omega
                  have k1 : (j3 : Int) < (m3 : Int) := by omega
                  have e0 := c 0 (by omega)
                  have e1 := c 1 (by omega)
                  have f0 := d 0 (by omega)
                  have f1 := d 1 (by omega)
                  rw [Nat.add_zero] at e0 f0
                  clear c d
                  generalize F3 (j3 * 2) = z0 at *
                  generalize F3 (j3 * 2 + 1) = z1 at *
                  go_wp2_with fail
                  go_quiet (fail)
                  go_wp2_with fail
                  go_roundw
                  case rel => exact ⟨j3 + 1, by omega, by go_num, _, rfl⟩
                  case measure => simp [intOf]; omega
                · have k1 : ¬ ((j3 : Int) < (m3 : Int)) := by omega
                  have HS : Hid (Sgl w gk n (mm : Int) (w6.drewN q)) := Lib.hid (H6.out.1.under (bel_drewN _ _))
                  clear H6
                  generalize w6.drewN q = w6' at *
                  go_wp2_with ((go_at_call 11; refine (refCount_yes mm _ HF.out).mono ?_; rintro e w7 ⟨rfl, rfl⟩))
                  refine (mod_any y (cn mm) _ HY.out (by unfold cn; omega) (by have := cn_le HF.out; omega)).mono ?_
                  rintro e w8 ⟨rfl, rfl⟩
                  generalize y % (cn mm : Int) = y2 at *
                  go_upto_region 31 with fail
                  refine forget (fun Y => Sgl w gk n (mm : Int) Y ∧ Row Y w6'.heap.size 3 #[.int .i64 y, .int .i64 y2]) ⟨HS.out.under ((Below.refl _ _).alloc (Nat.le_refl _) _), Row.new _ _ _⟩ ?_
                  clear HS
                  generalize w6'.heap.size = gj at *
                  rintro Y2 hY2
                  have H7 := Lib.hid hY2; clear hY2
                  clear hlt k1 hj
                  go_loopw [156] (fun t wr => ∃ i : Nat, i ≤ 2 ∧ t = .int .i64 i ∧ Sgl w gk n (mm : Int) wr ∧ Row wr gj 3 #[.int .i64 y, .int .i64 y2]) (fun t _ => 2 - (intOf t).toNat)
                  case atStart => exact ⟨0, by omega, rfl, H7.out⟩
                  case round =>
                    clear H7
                    obtain ⟨s, hs, rfl, M⟩ := hrel
                    have HM := Lib.hid M; clear M
                    by_cases hs2 : s < 2
                    · obtain ⟨yy, cy⟩ := two_cells HM.out.2 hs2
                      have s0 : (0 : Int) ≤ (s : Int) := by omega
                      have s1 : (s : Int) < 2 := by omega
                      obtain ⟨u4, m4, F4, hm4, hp4, hq4⟩ := nei_both x yy
                      have HP4 := Lib.hid hp4; clear hp4
                      have HQ4 := Lib.hid hq4; clear hq4
                      go_wp2_with fail
                      refine (HP4.out _).mono ?_
                      rintro e w9 ⟨vg, rfl, b9, l9⟩
                      have H9 := Lib.hid (And.intro (And.intro (HM.out.1.under b9) (HM.out.2.under b9)) l9)
                      clear b9 l9 HM cy
                      go_wp2_with fail
                      refine (HQ4.out _).mono ?_
                      rintro e w10 ⟨vh, rfl, b10, l10⟩
                      have H10 := Lib.hid (And.intro (And.intro (H9.out.1.1.under b10) (H9.out.1.2.under b10)) (And.intro (H9.out.2.under b10) l10))
                      clear b10 l10 H9
                      go_wp2_with ((go_at_call 14; refine (ints_same _ _ m4 F4 _ H10.out.2.1 H10.out.2.2 hm4).mono ?_; rintro e w11 ⟨rfl, b11⟩; have H11 := Lib.hid (And.intro (H10.out.1.1.under b11) (H10.out.1.2.under b11)); clear b11 H10))
                      go_roundw
                      case rel => exact ⟨s + 1, by omega, by go_num, H11.out⟩
                      case measure => simp [intOf]; omega
                    · have s1 : ¬ ((s : Int) < 2) := by omega
                      have HS := Lib.hid HM.out.1; clear HM
                      go_wp2_with fail
                      go_roundw
                      case rel => exact ⟨i + 1, by omega, by go_num, HS.out⟩
                      case measure => simp [intOf]; omega
    · have i1 : ¬ ((i : Int) < 2) := by omega
      have HB := Lib.hid HA.out.below; clear HA
      go_wp2_with fail
      refine (awake_from _ HB.out).mono ?_
      rintro e w2 ⟨rfl, b2⟩
      have H2 := Lib.hid b2; clear b2
      go_wp2_with fail
      go_ret
      exact ⟨rfl, H2.out⟩
end Go.Proofs.YtehehhehilgnkaaGreat
