/- Contracts of isNode, Neighbours and Hops. -/
import Derived.Test.YtehehhehilgnkaaSpr
namespace Go.Proofs.Ytehehhehilgnkaa
open Go.RowKit Go.Maps Go.Shelf

/-- The grid of a frequency has this node. -/
def okB (n x : Int) : Bool := decide (1 ≤ n ∧ n ≤ 8 ∧ 0 ≤ x ∧ x < 10 * (n.toNat : Int) * (n.toNat : Int) + 2)
theorem okB_nat {n x : Int} (h : okB n x = true) : ∃ m y : Nat, n = m ∧ x = y ∧ Lat.frq m ∧ y < cn m := by
  unfold okB at h
  rw [decide_eq_true_eq] at h
  obtain ⟨h1, h2, h3, h4⟩ := h
  refine ⟨n.toNat, x.toNat, by omega, by omega, ⟨by omega, by omega⟩, ?_⟩
  have e : ((10 * n.toNat * n.toNat + 2 : Nat) : Int) = 10 * (n.toNat : Int) * (n.toNat : Int) + 2 := rfl
  unfold cn
  omega
theorem okB_of {m y : Nat} (h : Lat.frq m) (hy : y < cn m) : okB m y = true := by
  unfold okB
  rw [decide_eq_true_eq]
  have e : ((10 * m * m + 2 : Nat) : Int) = 10 * (m : Int) * (m : Int) + 2 := rfl
  unfold Lat.frq at h
  unfold cn at hy
  refine ⟨by omega, by omega, by omega, ?_⟩
  rw [Int.toNat_natCast]
  omega
theorem okB_no {m : Nat} {x : Int} (hx : ¬ x < (cn m : Int)) : okB m x = false := by
  unfold okB
  rw [decide_eq_false_iff_not]
  rintro ⟨_, _, _, h⟩
  rw [Int.toNat_natCast] at h
  have e : ((10 * m * m + 2 : Nat) : Int) = 10 * (m : Int) * (m : Int) + 2 := rfl
  unfold cn at hx
  omega
set_option maxHeartbeats 1000000 in
theorem isNode_any (n x : Int) (w : World) : Calls Try.prog 55 #[.int .i64 n, .int .i64 x] w fun e w' => e = .returned (.bool (okB n x)) ∧ w = w' := by
  by_cases h0 : 0 ≤ x
  · by_cases hn : 1 ≤ n ∧ n ≤ 8
    · obtain ⟨m, rfl⟩ := Int.eq_ofNat_of_zero_le (show 0 ≤ n by omega)
      have hm : Lat.frq m := ⟨by omega, by omega⟩
      by_cases hx : x < (cn m : Int)
      · obtain ⟨y, rfl⟩ := Int.eq_ofNat_of_zero_le h0
        have HO := Lib.hid (okB_of hm (show y < cn m by omega))
        have HM := Lib.hid hm; clear hm hn
        go_enter Try.func55, Try.ntmps55
        go_wp2_with fail
        refine (count_yes _ _ HM.out).mono ?_
        rintro e w1 ⟨rfl, rfl⟩
        go_wp2_with fail
        go_ret
        exact ⟨by rw [HO.out]; first | rfl | (simp; done) | (simp; omega), rfl⟩
      · have HO := Lib.hid (okB_no hx)
        have HM := Lib.hid hm; clear hm hn
        go_enter Try.func55, Try.ntmps55
        go_wp2_with fail
        refine (count_yes _ _ HM.out).mono ?_
        rintro e w1 ⟨rfl, rfl⟩
        go_wp2_with fail
        go_ret
        exact ⟨by rw [HO.out]; first | rfl | (simp; done) | (simp; omega), rfl⟩
    · have HO : Hid (okB n x = false) := Lib.hid (by unfold okB; rw [decide_eq_false_iff_not]; exact fun h => hn ⟨h.1, h.2.1⟩)
      have hx : ¬ x < 0 := by omega
      have HN := Lib.hid hn; clear hn
      go_enter Try.func55, Try.ntmps55
      go_wp2_with fail
      refine (count_no _ _ HN.out).mono ?_
      rintro e w1 ⟨rfl, rfl⟩
      go_wp2_with fail
      go_ret
      exact ⟨by rw [HO.out]; first | rfl | (simp; done) | (simp; omega), rfl⟩
  · have HO : Hid (okB n x = false) := Lib.hid (by unfold okB; rw [decide_eq_false_iff_not]; exact fun h => h0 h.2.2.1)
    go_enter Try.func55, Try.ntmps55
    go_wp2_with fail
    go_ret
    exact ⟨by rw [HO.out]; first | rfl | (simp; done) | (simp; omega), rfl⟩
/-- What Neighbours leaves. -/
def NeiR (W : World) (n a : Nat) (e : Ending) (w : World) : Prop := ∃ v, e = .returned (.tuple #[v, .int .i64 0]) ∧ Below W.heap.size W w ∧ NmL w v (Lat.nbs n a)
set_option maxHeartbeats 1000000 in
theorem neighbours_yes (n a : Nat) (w : World) (hn : Lat.frq n) (ha : a < cn n) : Calls Try.prog 30 #[.int .i64 n, .int .i64 a] w (NeiR w n a) := by
  have HO := Lib.hid (okB_of hn ha)
  have hc := cn_le hn
  have a0 : (0 : Int) ≤ (a : Int) := by omega
  have a1 : (a : Int) < (cn n : Int) := by omega
  have HN := Lib.hid hn; clear hn
  have HA := Lib.hid ha; clear ha
  go_enter Try.func30, Try.ntmps30
  go_wp2_with fail
  refine (isNode_any _ _ _).mono ?_
  rintro e w1 ⟨rfl, rfl⟩
  rw [HO.out]
  go_wp2_with fail
  refine (links_any _ _ HN.out).mono ?_
  rintro e w2 ⟨g, cg, rfl, h1, h2, hb, hg, hnb, -⟩
  obtain ⟨v, q0, hv⟩ := hnb.at_ a HA.out
  obtain ⟨bv, cv, rfl, v1, v2, v3⟩ := hv
  have H := Lib.hid (And.intro hb v3); clear hb v3 hnb
  go_wp2_with fail
  go_ret2
  exact ⟨_, rfl, H.out.1, bv, cv, rfl, v1, v2, H.out.2⟩
theorem neighbours_no (n x : Int) (w : World) (h : okB n x = false) : Calls Try.prog 30 #[.int .i64 n, .int .i64 x] w fun e w' => e = .returned (.tuple #[.slice none 0 0, .int .i64 1]) ∧ w = w' := by
  have HO := Lib.hid h; clear h
  go_enter Try.func30, Try.ntmps30
  go_wp2_with fail
  refine (isNode_any _ _ _).mono ?_
  rintro e w1 ⟨rfl, rfl⟩
  rw [HO.out]
  go_wp2_with fail
  go_ret2
  exact ⟨rfl, rfl⟩
theorem infoBool : (Try.prog.info? 4).map (fun i => (i.zero, i.size, i.bytes)) = some (some (.bool false), 1, 1) := by kernel_rfl
theorem bs_made (w : World) (m : Nat) : Bs (w.alloc (.cells (madeCells #[.bool false] m) 4)) w.heap.size m (fun _ => false) :=
  ⟨_, Row.new _ _ _, size_madeCells _ _, fun i hi => by simp [madeCells, hi, Nat.mod_one]⟩
theorem bs_made_set (w : World) (m a : Nat) (ha : a < m) : Bs (w.alloc (.cells ((madeCells #[.bool false] m).setIfInBounds a (.bool true)) 4)) w.heap.size m (fun x => false || decide (x = a)) :=
  ⟨_, Row.new _ _ _, by simp [size_madeCells], fun i hi => by
    by_cases e : i = a
    · subst e
      rw [Array.getElem?_setIfInBounds, if_pos rfl, if_pos (by rw [size_madeCells]; exact hi)]
      simp
    · rw [Array.getElem?_setIfInBounds, if_neg (fun e' => e e'.symm)]
      simp [madeCells, hi, Nat.mod_one, e]⟩
/-- What is known while the rings are gone through. -/
structure Hp (wl : World) (n a gs k D : Nat) (vr : Value) (w : World) : Prop where
  le : k ≤ D
  below : Below wl.heap.size wl w
  ex : ∃ S R, Lat.Rg n a k R ∧ Lat.Sn n a k S ∧ Bs w gs (cn n) S ∧ NmI w gs vr R
theorem Hp.start {wl w : World} {n a gs D : Nat} (hb : Below wl.heap.size wl w) (ha : a < cn n) (hs : Bs w gs (cn n) (fun x => false || decide (x = a))) (hg : gs < w.heap.size) : Hp wl n a gs 0 D (.slice (some ⟨w.heap.size, 0, none⟩) 1 1) (w.alloc (.cells #[.int .i64 (a : Int)] 3)) := by
  refine ⟨Nat.zero_le _, hb.alloc hb.size _, fun x => decide (x = a), [a], Lat.rg_start n a, Lat.sn_start n a, (hs.same (fun x => Bool.false_or _)).under ((Below.refl _ _).alloc (Nat.le_refl _) _), some ⟨w.heap.size, 0, none⟩, 1, rfl, by simp, by omega, fun i hi => ⟨w.heap.size, rfl, by omega, by simp, ?_⟩⟩
  have : i = 0 := by simpa using hi
  subst this
  exact (Row.new w #[.int .i64 (a : Int)] 3).cell 0
def HopR (W : World) (D : Nat) (e : Ending) (w : World) : Prop := e = .returned (.tuple #[.int .i64 D, .int .i64 0]) ∧ Below W.heap.size W w
set_option maxRecDepth 100000 in
set_option maxHeartbeats 4000000 in
theorem hops_yes (n a b D : Nat) (w : World) (hn : Lat.frq n) (ha : a < cn n) (hb : b < cn n) (hD : Lat.Dist n a b D) (hD2 : D ≤ 100000) : Calls Try.prog 28 #[.int .i64 n, .int .i64 a, .int .i64 b] w (HopR w D) := by
  have HO := Lib.hid (okB_of hn ha)
  have HP := Lib.hid (okB_of hn hb)
  have hc := cn_le hn
  have a0 : (0 : Int) ≤ (a : Int) := by omega
  have a1 : (a : Int) < (cn n : Int) := by omega
  have b0 : (0 : Int) ≤ (b : Int) := by omega
  have b1 : (b : Int) < (cn n : Int) := by omega
  have hmk := run_make_row' (P := Try.prog) 100 4 (.bool false) 1 Try.underlying100 infoBool rfl .i64 .i64 (cn n) (by omega) (by omega)
  have HN := Lib.hid hn; clear hn
  have HA := Lib.hid ha; clear ha
  have HB := Lib.hid hb; clear hb
  have HD := Lib.hid hD; clear hD
  go_enter Try.func28, Try.ntmps28
  go_upto_region 3 with (first | (go_at_call 55; refine (isNode_any _ _ _).mono ?_; rintro e w1 ⟨rfl, rfl⟩; first | rw [HO.out] | rw [HP.out]))
  go_wp2_with fail
  refine (links_any _ _ HN.out).mono ?_
  rintro e wl ⟨g, cg, rfl, h1, h2, hb, hg, hnb, -⟩
  have hs0 := bs_made wl (cn n)
  obtain ⟨q0, q1⟩ := hs0.at_ HA.out
  have HS0 := Lib.hid hs0; clear hs0
  have HNB := Lib.hid hnb; clear hnb
  have HBL := Lib.hid hb; clear hb
  go_upto_region 6 with fail
  refine forget (fun Y => Below wl.heap.size wl Y ∧ Bs Y wl.heap.size (cn n) (fun x => false || decide (x = a)) ∧ wl.heap.size < Y.heap.size) ⟨(Below.refl _ _).alloc (Nat.le_refl _) _, bs_made_set _ _ _ HA.out, by simp⟩ ?_
  clear q0 q1 HS0 hmk
  have HGS := Lib.hid (Nat.le_refl wl.heap.size)
  generalize hgs : wl.heap.size = gs at *
  have hgs2 : wl.heap.size ≤ gs := by omega
  clear HGS
  have HGS := Lib.hid hgs2
  have HGE := Lib.hid hgs
  clear hgs hgs2
  rintro Y ⟨y1, y2, y3⟩
  have HY := Lib.hid (And.intro y1 (And.intro y2 y3)); clear y1 y2 y3
  go_upto_region 8 with fail
  have hp0 := Hp.start (D := D) (gs := gs) (by rw [HGE.out]; exact HY.out.1) HA.out HY.out.2.1 HY.out.2.2
  refine forget (fun Z => Hp wl n a gs 0 D (.slice (some ⟨Y.heap.size, 0, none⟩) 1 1) Z) hp0 ?_
  clear hp0 HY
  generalize Y.heap.size = gy at *
  rintro Z hZ
  have HZ := Lib.hid hZ; clear hZ
  go_wp2_with fail
  go_loopw [10, 11] (fun t v wr => ∃ k : Nat, t = .int .i64 k ∧ Hp wl n a gs k D v wr) (fun t _ _ => D - (intOf t).toNat)
  case atStart => exact ⟨0, rfl, HZ.out⟩
  case round =>
    clear HZ
    obtain ⟨k, rfl, M⟩ := hrel
    obtain ⟨S, R, hR, hS, hB, hV⟩ := M.ex
    obtain ⟨q0, q1⟩ := hB.at_ HB.out
    cases hs : S b
    · rw [hs] at q0
      have hkD : k + 1 ≤ D := by
        rcases Nat.lt_or_ge k D with h | h
        · exact h
        · have := (hS b HB.out).2 ⟨D, h, HD.out⟩
          rw [hs] at this
          cases this
      have HR := Lib.hid hR
      have HSN := Lib.hid hS
      have HBS := Lib.hid hB
      have HV := Lib.hid hV
      have HM := Lib.hid M
      clear hR hS hB hV M hs
      go_wp2_with fail
      refine (spread_any wl n g cg gs (cn n) S R _ _ HN.out HM.out.below HNB.out HGS.out HBS.out HV.out (fun x hx => Lat.dist_lt HN.out HA.out ((HR.out.2 x).1 hx)) (Nat.le_trans (Lat.rg_len HN.out HA.out HR.out) hc) h1 h2 (Nat.le_refl _) (by omega)).mono ?_
      rintro e w5 ⟨v5, rfl, hsp⟩
      obtain ⟨n1, n2⟩ := Lat.ring_next HN.out HA.out HSN.out HR.out rfl
      have H5 : Hid (Hp wl n a gs (k + 1) D v5 w5) := Lib.hid ⟨hkD, hsp.below HM.out.below HGS.out, _, _, n1, n2, hsp.bs, nmi_own hsp.own (fun bb hbb => by have := (hsp.own.lt bb hbb).1; have := HBS.out.lt; omega)⟩
      clear n1 n2 hsp HM HV HBS HSN HR q0 q1
      go_wp2_with fail
      go_roundw
      case rel => exact ⟨k + 1, by go_num, H5.out⟩
      case measure => simp [intOf]; omega
    · rw [hs] at q0
      obtain rfl : k = D := by
        obtain ⟨j, hj, hd⟩ := (hS b HB.out).1 hs
        have := Lat.dist_one hd HD.out
        have := M.le
        omega
      have HF := Lib.hid (HBL.out.trans (M.below.mono HBL.out.size))
      clear hR hS hB hV M hs
      go_wp2_with fail
      go_ret2
      exact ⟨rfl, HF.out⟩
theorem hops_no (n a b : Int) (w : World) (h : okB n a = false ∨ okB n b = false) : Calls Try.prog 28 #[.int .i64 n, .int .i64 a, .int .i64 b] w fun e w' => e = .returned (.tuple #[.int .i64 0, .int .i64 1]) ∧ w = w' := by
  cases ha : okB n a
  · have HO := Lib.hid ha; clear ha h
    go_enter Try.func28, Try.ntmps28
    go_wp2_with fail
    refine (isNode_any _ _ _).mono ?_
    rintro e w1 ⟨rfl, rfl⟩
    rw [HO.out]
    go_wp2_with fail
    go_ret2
    exact ⟨rfl, rfl⟩
  · have HO := Lib.hid ha
    have HP := Lib.hid (h.resolve_left (by rw [ha]; decide)); clear ha h
    go_enter Try.func28, Try.ntmps28
    go_wp2_with fail
    refine (isNode_any _ _ _).mono ?_
    rintro e w1 ⟨rfl, rfl⟩
    rw [HO.out]
    go_wp2_with fail
    refine (isNode_any _ _ _).mono ?_
    rintro e w1 ⟨rfl, rfl⟩
    rw [HP.out]
    go_wp2_with fail
    go_ret2
    exact ⟨rfl, rfl⟩
end Go.Proofs.Ytehehhehilgnkaa
