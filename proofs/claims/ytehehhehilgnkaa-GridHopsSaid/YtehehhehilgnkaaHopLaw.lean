/- GridHops returns true, if the reference's around answers as it should. -/
import Derived.Test.YtehehhehilgnkaaRHop
import Derived.Test.YtehehhehilgnkaaDstB
import Derived.Test.YtehehhehilgnkaaSrc
import Derived.Test.YtehehhehilgnkaaShr
namespace Go.Proofs.Ytehehhehilgnkaa
open Go.RowKit Go.Maps Go.Shelf

set_option maxRecDepth 100000 in
theorem keepIn_any (v : Value) (l : List Nat) (x : Nat) (w : World) (h : NmL w v l) : Calls Try.prog 32 #[v, .int .i64 (x : Int)] w fun e w' => e = .returned (.bool (decide (x ∈ l))) ∧ w = w' := by
  obtain ⟨b, cap, rfl, h1, h2, hc⟩ := h
  have HC := Lib.hid hc; clear hc
  go_enter Try.func32, Try.ntmps32
  go_wp2_with fail
  go_loopw [5] (fun t wr => ∃ i : Nat, i ≤ l.length ∧ t = .int .i64 i ∧ x ∉ l.take i ∧ wr = w) (fun t _ => l.length - (intOf t).toNat)
  case atStart => exact ⟨0, by omega, rfl, by simp, rfl⟩
  case round =>
    obtain ⟨i, hi, rfl, hx, rfl⟩ := hrel
    by_cases hlt : i < l.length
    · have i0 : (0 : Int) ≤ (i : Int) := by omega
      have i1 : (i : Int) < (l.length : Int) := by omega
      have p0 := HC.out.at_ i hlt
      have HTK := Lib.hid (show l.take (i + 1) = l.take i ++ [l[i]] from List.take_succ_eq_append_getElem hlt)
      have HIN := Lib.hid (List.getElem_mem hlt)
      generalize l[i] = y at *
      by_cases hxy : y = x
      · subst hxy
        have HD := Lib.hid (show decide (y ∈ l) = true from decide_eq_true HIN.out)
        clear HTK hx
        go_wp2_with fail
        go_ret
        exact ⟨by rw [HD.out]; rfl, rfl⟩
      · have y1 : ¬ ((y : Int) = (x : Int)) := by omega
        have HX := Lib.hid (show x ∉ l.take (i + 1) from by
          rw [HTK.out, List.mem_append, List.mem_singleton]
          rintro (h | h)
          · exact hx h
          · exact hxy h.symm)
        clear hx
        go_wp2_with fail
        go_roundw
        case rel => exact ⟨i + 1, by omega, by go_num, HX.out, trivial⟩
        case measure => simp [intOf]; omega
    · have i1 : ¬ ((i : Int) < (l.length : Int)) := by omega
      have hie : i = l.length := by omega
      rw [hie, List.take_length] at hx
      have HD := Lib.hid (show decide (x ∈ l) = false from decide_eq_false hx)
      clear hx hie
      go_wp2_with fail
      go_ret
      exact ⟨by rw [HD.out]; rfl, rfl⟩
/-- Both functions answer the same at any three numbers. -/
theorem both_hops (H : Arn) (n x y : Int) : ∃ u t : Int, (∀ w : World, Calls Try.prog 28 #[.int .i64 n, .int .i64 x, .int .i64 y] w fun e w' => e = .returned (.tuple #[.int .i64 u, .int .i64 t]) ∧ Below w.heap.size w w') ∧ ∀ w : World, Calls Try.prog 31 #[.int .i64 n, .int .i64 x, .int .i64 y] w fun e w' => e = .returned (.tuple #[.int .i64 u, .int .i64 t]) ∧ Below w.heap.size w w' := by
  by_cases h : okB n x = false ∨ okB n y = false
  · exact ⟨0, 1, fun w => (hops_no n x y w h).mono (fun e w' ⟨h1, h2⟩ => ⟨h1, h2 ▸ Below.refl _ _⟩), fun w => (refHops_no n x y w h).mono (fun e w' ⟨h1, h2⟩ => ⟨h1, h2 ▸ Below.refl _ _⟩)⟩
  · have h1 : okB n x = true := by cases hh : okB n x <;> simp_all
    have h2 : okB n y = true := by cases hh : okB n y <;> simp_all
    obtain ⟨m, a, rfl, rfl, hm, ha⟩ := okB_nat h1
    obtain ⟨m', b, he, rfl, -, hb⟩ := okB_nat h2
    obtain rfl : m = m' := by omega
    obtain ⟨D, hD⟩ := Lat.far_some hm ha
    have hB := Lat.far_bound hm ha hD
    exact ⟨D b, 0, fun w => hops_yes m a b (D b) w hm ha hb (hD b hb) (hB b hb), fun w => refHops_of H m a b D w hm ha hb hD hB⟩
set_option maxRecDepth 100000 in
set_option maxHeartbeats 8000000 in
theorem gridHops_of (H : Arn) (v : Value) (n x y : Int) (w : World) (hl : ListIn w v) :
    Calls Try.prog 6 #[v, .int .i64 n, .int .i64 x, .int .i64 y] w fun e w' => e = .returned (.bool true) ∧ Below w.heap.size w w' := by
  obtain ⟨u, t, hu1, hu2⟩ := both_hops H n x y
  have HU1 := Lib.hid hu1; clear hu1
  have HU2 := Lib.hid hu2; clear hu2
  go_enter Try.func6, Try.ntmps6
  go_wp2_with fail
  refine (new_any _ _ hl).mono ?_
  rintro e w1 ⟨rfl, s1, -⟩
  go_wp2_with fail
  refine (range_any _ _ _ _ _ s1 (by omega) (by omega) (by omega) (by omega)).mono ?_
  rintro e w2 ⟨k', ⟨n1, n2⟩, rfl, s2, -⟩
  obtain ⟨k, rfl⟩ := Int.eq_ofNat_of_zero_le (show 0 ≤ k' by omega)
  have hn : Lat.frq k := ⟨by omega, by omega⟩
  have hc : 1 ≤ (cn k : Int) ∧ (cn k : Int) ≤ 642 := by have := cn_le hn; unfold cn at *; omega
  obtain ⟨c1, c2⟩ := hc
  have HN := Lib.hid hn; clear hn s1
  go_wp2_with fail
  refine (refCount_yes _ _ HN.out).mono ?_
  rintro e w3 ⟨rfl, rfl⟩
  go_wp2_with fail
  refine (n_any _ _ _ _ s2 (by omega) (by omega)).mono ?_
  rintro e w3 ⟨a', ⟨p1, p2⟩, rfl, s3, -⟩
  clear s2
  go_wp2_with fail
  refine (n_any _ _ _ _ s3 (by omega) (by omega)).mono ?_
  rintro e w4 ⟨b', ⟨p3, p4⟩, rfl, s4, -⟩
  clear s3
  go_wp2_with fail
  refine (n_any _ _ _ _ s4 (by omega) (by omega)).mono ?_
  rintro e w5 ⟨d', ⟨p5, p6⟩, rfl, s5, -⟩
  clear s4
  obtain ⟨a, rfl⟩ := Int.eq_ofNat_of_zero_le p1
  obtain ⟨b, rfl⟩ := Int.eq_ofNat_of_zero_le p3
  obtain ⟨c, rfl⟩ := Int.eq_ofNat_of_zero_le p5
  have HA := Lib.hid (show a < cn k by omega)
  have HB := Lib.hid (show b < cn k by omega)
  have HC := Lib.hid (show c < cn k by omega)
  obtain ⟨D, hD⟩ := Lat.far_some HN.out HA.out
  obtain ⟨E, hE⟩ := Lat.far_some HN.out HC.out
  have hDb := Lat.far_bound HN.out HA.out hD
  have hEb := Lat.far_bound HN.out HC.out hE
  have HD := Lib.hid hD; clear hD
  have HE := Lib.hid hE; clear hE
  have HDB := Lib.hid hDb; clear hDb
  have HEB := Lib.hid hEb; clear hEb
  have B5 := Lib.hid s5.below; clear s5
  go_wp2_with fail
  refine (hops_yes k a b (D b) _ HN.out HA.out HB.out (HD.out b HB.out) (HDB.out b HB.out)).mono ?_
  rintro e w6 ⟨rfl, h6⟩
  have B6 := Lib.hid (B5.out.trans (h6.mono B5.out.size)); clear h6 B5
  go_wp2_with fail
  refine (hops_yes k b a (D b) _ HN.out HB.out HA.out (Lat.dist_sym HN.out HA.out (HD.out b HB.out)) (HDB.out b HB.out)).mono ?_
  rintro e w7 ⟨rfl, h7⟩
  have B7 := Lib.hid (B6.out.trans (h7.mono B6.out.size)); clear h7 B6
  go_wp2_with fail
  refine (hops_yes k a c (D c) _ HN.out HA.out HC.out (HD.out c HC.out) (HDB.out c HC.out)).mono ?_
  rintro e w8 ⟨rfl, h8⟩
  have B8 := Lib.hid (B7.out.trans (h8.mono B7.out.size)); clear h8 B7
  go_wp2_with fail
  refine (hops_yes k c b (E b) _ HN.out HC.out HB.out (HE.out b HB.out) (HEB.out b HB.out)).mono ?_
  rintro e w9 ⟨rfl, h9⟩
  have B9 := Lib.hid (B8.out.trans (h9.mono B8.out.size)); clear h9 B8
  go_wp2_with fail
  refine (neighbours_yes k a _ HN.out HA.out).mono ?_
  rintro e wn ⟨vn, rfl, hbn, hnl⟩
  have BN := Lib.hid (And.intro (B9.out.trans (hbn.mono B9.out.size)) hnl); clear hbn hnl B9
  go_wp2_with fail
  refine (HU1.out _).mono ?_
  rintro e wp ⟨rfl, hbp⟩
  have BP := Lib.hid (And.intro (BN.out.1.trans (hbp.mono BN.out.1.size)) (BN.out.2.under hbp)); clear hbp BN
  go_wp2_with fail
  refine (HU2.out _).mono ?_
  rintro e wq ⟨rfl, hbq⟩
  have BQ := Lib.hid (And.intro (BP.out.1.trans (hbq.mono BP.out.1.size)) (BP.out.2.under hbq)); clear hbq BP
  have htri : (D b : Int) ≤ (D c : Int) + (E b : Int) := by
    have := Lat.dist_tri (HD.out b HB.out) (HD.out c HC.out) (HE.out b HB.out)
    omega
  have d1 := HDB.out b HB.out
  have d2 := HDB.out c HC.out
  have d3 := HEB.out b HB.out
  have hz : ((D b : Int) = 0 ↔ (a : Int) = (b : Int)) := by
    have := Lat.dist_zero (HD.out b HB.out)
    omega
  have ho : ((D b : Int) = 1 ↔ b ∈ Lat.nbs k a) := by
    have := Lat.dist_near HN.out HA.out (HD.out b HB.out)
    rw [← this]; omega
  have HSTP := Lib.hid (fun z (hz : z ∈ Lat.nbs k a) => (show ∃ F, z < cn k ∧ Lat.Dist k z b F ∧ F ≤ 100000 ∧ F ≤ D b + 1 ∧ D b ≤ F + 1 from by
    have hzl := (Lat.nbs_in HN.out HA.out hz).1
    obtain ⟨F, hF⟩ := Lat.dist_all HN.out hzl HB.out
    have hba := Lat.dist_sym HN.out HA.out (HD.out b HB.out)
    have hbz := Lat.dist_sym HN.out hzl hF
    have h1 := Lat.dist_step hba hz hbz
    have h2 := Lat.dist_step hbz (Lat.nbs_sym HN.out HA.out hz) hba
    have h3 := Lat.dist_bound HN.out hzl HB.out hF
    exact ⟨F, hzl, hF, by omega, h1, h2⟩))
  generalize D b = db at *
  generalize D c = dc at *
  generalize E b = eb at *
  have w1 : IntKind.i64.wrap ((dc : Int) + (eb : Int)) = (dc : Int) + (eb : Int) := IntWalk.i64_in _ (by omega)
  go_upto_region 14 with fail
  go_cut [149] from 124 to 149 (fun t wc => t = .bool false ∧ Below w.heap.size w wc ∧ NmL wc vn (Lat.nbs k a))
  case first =>
    have f1 : ¬ ((dc : Int) + (eb : Int) < (db : Int)) := by omega
    obtain ⟨bz, y1⟩ : ∃ bz : Bool, decide ((db : Int) = 0) = bz := ⟨_, rfl⟩
    have y2 : decide ((a : Int) = (b : Int)) = bz := by rw [← y1]; exact decide_eq_decide.2 hz.symm
    have y3 : decide (a = b) = bz := by rw [← y2]; exact decide_eq_decide.2 (by omega)
    have y4 : decide (db = 0) = bz := by rw [← y1]; exact decide_eq_decide.2 (by omega)
    have y5 : ((db : Int) == 0) = bz := by rw [← y1]; rfl
    have y6 : ((a : Int) == (b : Int)) = bz := by rw [← y2]; rfl
    obtain ⟨bo, z1⟩ : ∃ bo : Bool, decide ((db : Int) = 1) = bo := ⟨_, rfl⟩
    have z4 : decide (db = 1) = bo := by rw [← z1]; exact decide_eq_decide.2 (by omega)
    have z5 : ((db : Int) == 1) = bo := by rw [← z1]; rfl
    have hIn : decide (b ∈ Lat.nbs k a) = bo := by rw [← z1]; exact decide_eq_decide.2 ho.symm
    have HIN := Lib.hid hIn; clear hIn hz ho htri
    go_wp2_with ((go_at_call 32; refine (keepIn_any _ _ b _ BQ.out.2).mono ?_; rintro e w10 ⟨rfl, rfl⟩; rw [HIN.out]))
    go_meet
    exact ⟨rfl, BQ.out⟩
  case rest =>
    obtain ⟨rfl, hw, hnl⟩ := hcut
    clear BQ hz ho htri w1
    obtain ⟨bn, capn, rfl, g1, g2, g3⟩ := hnl
    have HQ := Lib.hid (And.intro hw g3); clear hw g3
    generalize Lat.nbs k a = N at *
    have w1 : IntKind.i64.wrap ((db : Int) + 1) = (db : Int) + 1 := IntWalk.i64_in _ (by omega)
    have w2 : IntKind.i64.wrap ((db : Int) - 1) = (db : Int) - 1 := IntWalk.i64_in _ (by omega)
    have hNl : (N.length : Int) ≤ 9223372036854775807 := by omega
    go_wp2_with fail
    go_loopw [152] (fun t wr => ∃ i : Nat, i ≤ N.length ∧ t = .int .i64 i ∧ Below w.heap.size w wr ∧ Cs wr bn N) (fun t _ => N.length - (intOf t).toNat)
    case atStart => exact ⟨0, by omega, rfl, HQ.out⟩
    case round =>
      clear HQ
      obtain ⟨i, hi, rfl, hw, hcs⟩ := hrel
      by_cases hlt : i < N.length
      · have i0 : (0 : Int) ≤ (i : Int) := by omega
        have i1 : (i : Int) < (N.length : Int) := by omega
        have p0 := hcs.at_ i hlt
        obtain ⟨F, f1, f2, f3, f4, f5⟩ := HSTP.out _ (List.getElem_mem hlt)
        generalize N[i] = z at *
        have HF := Lib.hid (And.intro f1 f2); clear f1 f2
        have HQ := Lib.hid (And.intro hw hcs); clear hw hcs
        have f6 : ¬ ((db : Int) + 1 < (F : Int)) := by omega
        have f7 : ¬ ((F : Int) < (db : Int) - 1) := by omega
        clear f4 f5
        go_wp2_with fail
        refine (hops_yes k z b F _ HN.out HF.out.1 HB.out HF.out.2 f3).mono ?_
        rintro e w11 ⟨rfl, h11⟩
        have HR := Lib.hid (And.intro (HQ.out.1.trans (h11.mono HQ.out.1.size)) (HQ.out.2.under h11)); clear h11 HQ p0
        go_wp2_with fail
        go_roundw
        case rel => exact ⟨i + 1, by omega, by go_num, HR.out⟩
        case measure => simp [intOf]; omega
      · have i1 : ¬ ((i : Int) < (N.length : Int)) := by omega
        have HQ := Lib.hid hw; clear hw hcs
        go_wp2_with fail
        refine (awake_from (w0 := w) _ HQ.out).mono ?_
        rintro e w12 ⟨rfl, hb12⟩
        have B12 := Lib.hid hb12; clear hb12
        go_wp2_with fail
        go_ret
        exact ⟨rfl, B12.out⟩
end Go.Proofs.Ytehehhehilgnkaa
