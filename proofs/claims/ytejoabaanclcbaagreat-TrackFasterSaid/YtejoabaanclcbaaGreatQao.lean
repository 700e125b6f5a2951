/- Texts of this proof. -/
import Derived.Test.YtejoabaanclcbaaGreatSpr
import Derived.Test.YtejoabaanclcbaaGreatCelM
import Derived.Laws.CopyRow
import Derived.Laws.CopyOwn
namespace Go.Proofs.YtejoabaanclcbaaGreat
open Go.RowKit Go.Maps Go.Shelf

/-- The grid of a frequency has this node. -/
def okB (n x : Int) : Bool := decide (1 ≤ n ∧ n ≤ 8 ∧ 0 ≤ x ∧ x < 10 * (n.toNat : Int) * (n.toNat : Int) + 2)
theorem okB_of {m y : Nat} (h : Lat.frq m) (hy : y < cn m) : okB m y = true := by
  unfold okB
  rw [decide_eq_true_eq]
  have e : ((10 * m * m + 2 : Nat) : Int) = 10 * (m : Int) * (m : Int) + 2 := rfl
  unfold Lat.frq at h
  unfold cn at hy
  refine ⟨by omega, by omega, by omega, ?_⟩
  rw [Int.toNat_natCast]
  omega
theorem okB_no {m : Nat} {x : Int} (hx : ¬ x < (cn m : Int)) : okB m x = false := by
  unfold okB
  rw [decide_eq_false_iff_not]
  rintro ⟨_, _, _, h⟩
  rw [Int.toNat_natCast] at h
  have e : ((10 * m * m + 2 : Nat) : Int) = 10 * (m : Int) * (m : Int) + 2 := rfl
  unfold cn at hx
  omega
set_option maxHeartbeats 1000000 in
theorem isNode_any (n x : Int) (w : World) : Calls Tryz.prog 85 #[.int .i64 n, .int .i64 x] w fun e w' => e = .returned (.bool (okB n x)) ∧ w = w' := by
  by_cases h0 : 0 ≤ x
  · by_cases hn : 1 ≤ n ∧ n ≤ 8
    · obtain ⟨m, rfl⟩ := Int.eq_ofNat_of_zero_le (show 0 ≤ n by omega)
      have hm : Lat.frq m := ⟨by omega, by omega⟩
      by_cases hx : x < (cn m : Int)
      · obtain ⟨y, rfl⟩ := Int.eq_ofNat_of_zero_le h0
        have HO := Lib.hid (okB_of hm (show y < cn m by omega))
        have HM := Lib.hid hm; clear hm hn
        go_enter Tryz.func85, Tryz.ntmps85
        go_wp2_with fail
        refine (count_yes _ _ HM.out).mono ?_
        rintro e w1 ⟨rfl, rfl⟩
        go_wp2_with fail
        go_ret
        exact ⟨by rw [HO.out]; first | rfl | (simp; done) | (simp; omega), rfl⟩
      · have HO := Lib.hid (okB_no hx)
        have HM := Lib.hid hm; clear hm hn
        go_enter Tryz.func85, Tryz.ntmps85
        go_wp2_with fail
        refine (count_yes _ _ HM.out).mono ?_
        rintro e w1 ⟨rfl, rfl⟩
        go_wp2_with fail
        go_ret
        exact ⟨by rw [HO.out]; first | rfl | (simp; done) | (simp; omega), rfl⟩
    · have HO : Hid (okB n x = false) := Lib.hid (by unfold okB; rw [decide_eq_false_iff_not]; exact fun h => hn ⟨h.1, h.2.1⟩)
      have hx : ¬ x < 0 := by omega
      have HN := Lib.hid hn; clear hn
      go_enter Tryz.func85, Tryz.ntmps85
      go_wp2_with fail
      refine (count_no _ _ HN.out).mono ?_
      rintro e w1 ⟨rfl, rfl⟩
      go_wp2_with fail
      go_ret
      exact ⟨by rw [HO.out]; first | rfl | (simp; done) | (simp; omega), rfl⟩
  · have HO : Hid (okB n x = false) := Lib.hid (by unfold okB; rw [decide_eq_false_iff_not]; exact fun h => h0 h.2.2.1)
    go_enter Tryz.func85, Tryz.ntmps85
    go_wp2_with fail
    go_ret
    exact ⟨by rw [HO.out]; first | rfl | (simp; done) | (simp; omega), rfl⟩
/-- What Neighbours leaves. -/
def NeiR (W : World) (n a : Nat) (e : Ending) (w : World) : Prop := ∃ v, e = .returned (.tuple #[v, .int .i64 0]) ∧ Below W.heap.size W w ∧ NmL w v (Lat.nbs n a)
theorem infoBool : (Tryz.prog.info? 4).map (fun i => (i.zero, i.size, i.bytes)) = some (some (.bool false), 1, 1) := by kernel_rfl
theorem bs_made (w : World) (m : Nat) : Bs (w.alloc (.cells (madeCells #[.bool false] m) 4)) w.heap.size m (fun _ => false) :=
  ⟨_, Row.new _ _ _, size_madeCells _ _, fun i hi => by simp [madeCells, hi, Nat.mod_one]⟩
theorem bs_made_set (w : World) (m a : Nat) (ha : a < m) : Bs (w.alloc (.cells ((madeCells #[.bool false] m).setIfInBounds a (.bool true)) 4)) w.heap.size m (fun x => false || decide (x = a)) :=
  ⟨_, Row.new _ _ _, by simp [size_madeCells], fun i hi => by
    by_cases e : i = a
    · subst e
      rw [Array.getElem?_setIfInBounds, if_pos rfl, if_pos (by rw [size_madeCells]; exact hi)]
      simp
    · rw [Array.getElem?_setIfInBounds, if_neg (fun e' => e e'.symm)]
      simp [madeCells, hi, Nat.mod_one, e]⟩
/-- What is known while the rings are gone through. -/
structure Hp (wl : World) (n a gs k D : Nat) (vr : Value) (w : World) : Prop where
  le : k ≤ D
  below : Below wl.heap.size wl w
  ex : ∃ S R, Lat.Rg n a k R ∧ Lat.Sn n a k S ∧ Bs w gs (cn n) S ∧ NmI w gs vr R
theorem Hp.start {wl w : World} {n a gs D : Nat} (hb : Below wl.heap.size wl w) (ha : a < cn n) (hs : Bs w gs (cn n) (fun x => false || decide (x = a))) (hg : gs < w.heap.size) : Hp wl n a gs 0 D (.slice (some ⟨w.heap.size, 0, none⟩) 1 1) (w.alloc (.cells #[.int .i64 (a : Int)] 3)) := by
  refine ⟨Nat.zero_le _, hb.alloc hb.size _, fun x => decide (x = a), [a], Lat.rg_start n a, Lat.sn_start n a, (hs.same (fun x => Bool.false_or _)).under ((Below.refl _ _).alloc (Nat.le_refl _) _), some ⟨w.heap.size, 0, none⟩, 1, rfl, by simp, by omega, fun i hi => ⟨w.heap.size, rfl, by omega, by simp, ?_⟩⟩
  have : i = 0 := by simpa using hi
  subst this
  exact (Row.new w #[.int .i64 (a : Int)] 3).cell 0
def HopR (W : World) (D : Nat) (e : Ending) (w : World) : Prop := e = .returned (.tuple #[.int .i64 D, .int .i64 0]) ∧ Below W.heap.size W w
set_option maxRecDepth 100000 in
set_option maxHeartbeats 4000000 in
theorem hops_yes (n a b D : Nat) (w : World) (hn : Lat.frq n) (ha : a < cn n) (hb : b < cn n) (hD : Lat.Dist n a b D) (hD2 : D ≤ 100000) : Calls Tryz.prog 62 #[.int .i64 n, .int .i64 a, .int .i64 b] w (HopR w D) := by
  have HO := Lib.hid (okB_of hn ha)
  have HP := Lib.hid (okB_of hn hb)
  have hc := cn_le hn
  have a0 : (0 : Int) ≤ (a : Int) := by omega
  have a1 : (a : Int) < (cn n : Int) := by omega
  have b0 : (0 : Int) ≤ (b : Int) := by omega
  have b1 : (b : Int) < (cn n : Int) := by omega
  have hmk := run_make_row' (P := Tryz.prog) 44 4 (.bool false) 1 Tryz.underlying44 infoBool rfl .i64 .i64 (cn n) (by omega) (by omega)
  have HN := Lib.hid hn; clear hn
  have HA := Lib.hid ha; clear ha
  have HB := Lib.hid hb; clear hb
  have HD := Lib.hid hD; clear hD
  go_enter Tryz.func62, Tryz.ntmps62
  go_upto_region 3 with (first | (go_at_call 85; refine (isNode_any _ _ _).mono ?_; rintro e w1 ⟨rfl, rfl⟩; first | rw [HO.out] | rw [HP.out]))
  go_wp2_with fail
  refine (links_any _ _ HN.out).mono ?_
  rintro e wl ⟨g, cg, rfl, h1, h2, hb, hg, hnb, -⟩
  have hs0 := bs_made wl (cn n)
  obtain ⟨q0, q1⟩ := hs0.at_ HA.out
  have HS0 := Lib.hid hs0; clear hs0
  have HNB := Lib.hid hnb; clear hnb
  have HBL := Lib.hid hb; clear hb
  go_upto_region 6 with fail
  refine forget (fun Y => Below wl.heap.size wl Y ∧ Bs Y wl.heap.size (cn n) (fun x => false || decide (x = a)) ∧ wl.heap.size < Y.heap.size) ⟨(Below.refl _ _).alloc (Nat.le_refl _) _, bs_made_set _ _ _ HA.out, by simp⟩ ?_
  clear q0 q1 HS0 hmk
  have HGS := Lib.hid (Nat.le_refl wl.heap.size)
  generalize hgs : wl.heap.size = gs at *
  have hgs2 : wl.heap.size ≤ gs := by omega
  clear HGS
  have HGS := Lib.hid hgs2
  have HGE := Lib.hid hgs
  clear hgs hgs2
  rintro Y ⟨y1, y2, y3⟩
  have HY := Lib.hid (And.intro y1 (And.intro y2 y3)); clear y1 y2 y3
  go_upto_region 8 with fail
  have hp0 := Hp.start (D := D) (gs := gs) (by rw [HGE.out]; exact HY.out.1) HA.out HY.out.2.1 HY.out.2.2
  refine forget (fun Z => Hp wl n a gs 0 D (.slice (some ⟨Y.heap.size, 0, none⟩) 1 1) Z) hp0 ?_
  clear hp0 HY
  generalize Y.heap.size = gy at *
  rintro Z hZ
  have HZ := Lib.hid hZ; clear hZ
  go_wp2_with fail
  go_loopw [10, 11] (fun t v wr => ∃ k : Nat, t = .int .i64 k ∧ Hp wl n a gs k D v wr) (fun t _ _ => D - (intOf t).toNat)
  case atStart => exact ⟨0, rfl, HZ.out⟩
  case round =>
    clear HZ
    obtain ⟨k, rfl, M⟩ := hrel
    obtain ⟨S, R, hR, hS, hB, hV⟩ := M.ex
    obtain ⟨q0, q1⟩ := hB.at_ HB.out
    cases hs : S b
    · rw [hs] at q0
      have hkD : k + 1 ≤ D := by
        rcases Nat.lt_or_ge k D with h | h
        · exact h
        · have := (hS b HB.out).2 ⟨D, h, HD.out⟩
          rw [hs] at this
          cases this
      have HR := Lib.hid hR
      have HSN := Lib.hid hS
      have HBS := Lib.hid hB
      have HV := Lib.hid hV
      have HM := Lib.hid M
      clear hR hS hB hV M hs
      go_wp2_with fail
      refine (spread_any wl n g cg gs (cn n) S R _ _ HN.out HM.out.below HNB.out HGS.out HBS.out HV.out (fun x hx => Lat.dist_lt HN.out HA.out ((HR.out.2 x).1 hx)) (Nat.le_trans (Lat.rg_len HN.out HA.out HR.out) hc) h1 h2 (Nat.le_refl _) (by omega)).mono ?_
      rintro e w5 ⟨v5, rfl, hsp⟩
      obtain ⟨n1, n2⟩ := Lat.ring_next HN.out HA.out HSN.out HR.out rfl
      have H5 : Hid (Hp wl n a gs (k + 1) D v5 w5) := Lib.hid ⟨hkD, hsp.below HM.out.below HGS.out, _, _, n1, n2, hsp.bs, nmi_own hsp.own (fun bb hbb => by have := (hsp.own.lt bb hbb).1; have := HBS.out.lt; omega)⟩
      clear n1 n2 hsp HM HV HBS HSN HR q0 q1
      go_wp2_with fail
      go_roundw
      case rel => exact ⟨k + 1, by go_num, H5.out⟩
      case measure => simp [intOf]; omega
    · rw [hs] at q0
      obtain rfl : k = D := by
        obtain ⟨j, hj, hd⟩ := (hS b HB.out).1 hs
        have := Lat.dist_one hd HD.out
        have := M.le
        omega
      have HF := Lib.hid (HBL.out.trans (M.below.mono HBL.out.size))
      clear hR hS hB hV M hs
      go_wp2_with fail
      go_ret2
      exact ⟨rfl, HF.out⟩
end Go.Proofs.YtejoabaanclcbaaGreat



namespace Go.Proofs.YtejoabaanclcbaaGreat
open Go.RowKit Go.Maps Go.Shelf

theorem agg3 {x y z x' y' z' : Int} (h : x = x') (h1 : y = y') (h2 : z = z') : Ending.returned (.agg #[.int .i64 x, .int .i64 y, .int .i64 z]) = Ending.returned (.agg #[.int .i64 x', .int .i64 y', .int .i64 z']) := by rw [h, h1, h2]
set_option maxRecDepth 100000 in
set_option maxHeartbeats 4000000 in
theorem refCell_any (a b c : Nat) (w : World) (ha : a ≤ 1000) (hb : b ≤ 1000) (hc : c ≤ 1000) : Calls Tryz.prog 114 #[.int .i64 (a : Int), .int .i64 (b : Int), .int .i64 (c : Int)] w fun e w' => e = .returned (.agg #[.int .i64 ((Lat.scell (a, b, c)).1 : Int), .int .i64 ((Lat.scell (a, b, c)).2.1 : Int), .int .i64 ((Lat.scell (a, b, c)).2.2 : Int)]) ∧ Below w.heap.size w w' := by
  have HS : Hid (((Lat.scell (a, b, c)).1 : Int) = min (a : Int) (min b c) ∧ ((Lat.scell (a, b, c)).2.1 : Int) = a + b + c - min (a : Int) (min b c) - max (a : Int) (max b c) ∧ ((Lat.scell (a, b, c)).2.2 : Int) = max (a : Int) (max b c)) := Lib.hid (by
    unfold Lat.scell
    simp only
    omega)
  go_enter Tryz.func114, Tryz.ntmps114
  go_wp2_with fail
  all_goals refine bodyPost_ret (results_cell_row Tryz.results114 _ _ w.heap.size 126 _ (0, 0) _ rfl (Row.new _ _ _) Tryz.underlying126 rfl (by kernel_rfl)) rfl ⟨agg3 ?_ ?_ ?_, (Below.refl _ _).alloc (Nat.le_refl _) _⟩
  all_goals (obtain ⟨h1, h2, h3⟩ := HS.out)
  all_goals (first | rw [h1] | rw [h2] | rw [h3])
  all_goals (clear h1 h2 h3 HS)
  all_goals (repeat (split at *))
  all_goals omega
end Go.Proofs.YtejoabaanclcbaaGreat



namespace Go.Proofs.YtejoabaanclcbaaGreat
open Go.RowKit Go.Maps Go.Shelf

/-- copy, where an element has s cells. -/
theorem run_copy_wide {P : Program} (w : World) (dT sT ty elem : TypeId) (g o dLen dCap : Nat) (a : Addr) (sLen sCap s : Nat) (cur : Array Value) (t : TypeId) (cs : List Value)
    (hu : P.underlying dT = some (.slice elem)) (hs : (P.info? elem).map (·.size) = some s)
    (hg : w.heap[g]? = some (.cells cur t (0, 0))) (hn : cs.length = Nat.min sLen dLen * s)
    (hsrc : ∀ j v, cs[j]? = some v → w.cell? (a.add j) = some v) (hfit : o + cs.length ≤ cur.size) (h1 : ∀ v ∈ cs, v.oneCell' = true) :
    (Builtin.copy_ #[dT, sT] ty #[.slice (some ⟨g, o, none⟩) dLen dCap, .slice (some a) sLen sCap]).run P w =
      .ok (goInt (Nat.min sLen dLen)) (w.setRow g (cur.toList.take o ++ cs ++ cur.toList.drop (o + cs.length)).toArray) := by
  have hl := run_loadCells_list (P := P) w a cs hsrc
  have hst := run_storeCells_at P g o t cs 0 cur w hg (by simpa using hfit) h1
  cases hq : P.info? elem with
  | none => simp [hq] at hs
  | some i =>
    have hi : i.size = s := by simpa [hq] using hs
    rw [hn] at hl hst
    simp [Builtin.copy_, run_underlying hu, Builtin.lenOf, Builtin.firstCells, sizeOf, typeInfo, hq, hi, hl, hst, hn]
theorem wpList_copy_wide {P : Program} {w : World} {ops : Array Oper} {rest : List Oper} {o : Oper} {a : Act} {Q : Exit → Act → World → Prop} (hgd : o.guard = none) (d s : Operand) (dT sT : TypeId)
    (ho : o.op = .call { callee := .builtin .copy, args := #[d, s], argTypes := #[dT, sT] }) (elem : TypeId) (size : Nat) (hu : P.underlying dT = some (.slice elem)) (hsz : (P.info? elem).map (·.size) = some size)
    (g off dLen dCap : Nat) (ad : Addr) (sLen sCap : Nat) (hd : a.eval d = .slice (some ⟨g, off, none⟩) dLen dCap) (hs : a.eval s = .slice (some ad) sLen sCap)
    (cur : Array Value) (t : TypeId) (hg : w.heap[g]? = some (.cells cur t (0, 0))) (cs : List Value) (hn : cs.length = Nat.min sLen dLen * size)
    (hsrc : ∀ j v, cs[j]? = some v → w.cell? (ad.add j) = some v) (hfit : off + cs.length ≤ cur.size) (h1 : ∀ v ∈ cs, v.oneCell' = true)
    (h : wpList P ops Q rest (a.put o.dst (goInt (Nat.min sLen dLen))) (w.setRow g (cur.toList.take off ++ cs ++ cur.toList.drop (off + cs.length)).toArray)) : wpList P ops Q (o :: rest) a w := by
  refine wpList_plain hgd fun K hK => ?_
  have hrun := run_copy_wide (P := P) w dT sT o.type elem g off dLen dCap ad sLen sCap size cur t cs hu hsz hg hn hsrc hfit h1
  unfold Oper.wp
  simp only [execOp, ho, resolve, invoke, builtin]
  simp [hd, hs, hrun, Result.andThen]
  exact hK _ _ (by simpa using h)
end Go.Proofs.YtejoabaanclcbaaGreat



namespace Go.Proofs.YtejoabaanclcbaaGreat
open Go.RowKit Go.Maps Go.Shelf

theorem tcs_app (L M : List Lat.Tr) : tcs (L ++ M) = tcs L ++ tcs M := by simp [tcs]
theorem tcs_split (L : List Lat.Tr) (k : Nat) : tcs L = tcs (L.take k) ++ tcs (L.drop k) := by rw [← tcs_app, List.take_append_drop]
theorem copied {Z : World} {base g cap k : Nat} {L : List Lat.Tr} {e : TypeId} {Y : List Value} (hY : Y.length = 3) (o4 : Z.ownsRow base e 3 (.slice (some ⟨g, 0, none⟩) (L.length + 1) cap) (L.length + 1) (tcs L ++ Y)) (hk : k ≤ L.length) :
    ∃ cur, Z.heap[g]? = some (.cells cur e (0, 0)) ∧ (k + 1) * 3 + (tcs (L.drop k)).length ≤ cur.size ∧ (∀ j v, (tcs (L.drop k))[j]? = some v → Z.cell? ((⟨g, k * 3, none⟩ : Addr).add j) = some v) ∧
      ∀ W : World, W.heap[g]? = some (.cells (cur.toList.take ((k + 1) * 3) ++ tcs (L.drop k) ++ cur.toList.drop ((k + 1) * 3 + (tcs (L.drop k)).length)).toArray e (0, 0)) → ∃ X, X.length = 3 ∧ W.ownsRow base e 3 (.slice (some ⟨g, 0, none⟩) (L.length + 1) cap) (L.length + 1) (tcs (L.take k) ++ X ++ tcs (L.drop k)) := by
  have hx := o4
  rcases hx.2 with ⟨h, _⟩ | ⟨g', cap', cur, h, hb, hh, hle, hmax, hsz, htk⟩
  · cases h
  · injection h with h _ h3
    injection h with h
    injection h with h
    subst h
    subst h3
    have hl1 : (tcs (L.take k)).length = k * 3 := by rw [tcs_len, List.length_take, Nat.min_eq_left hk]
    have hl2 : (tcs (L.drop k)).length = (L.length - k) * 3 := by rw [tcs_len, List.length_drop]
    refine ⟨cur, hh, by rw [hl2, hsz]; omega, fun j v hj => ?_, fun W hW => ?_⟩
    · have hjl : j < (tcs (L.drop k)).length := (List.getElem?_eq_some_iff.1 hj).1
      have hadd : (⟨g, k * 3, none⟩ : Addr).add j = ⟨g, k * 3 + j, none⟩ := by unfold Addr.add; split <;> simp_all
      rw [hadd, o4.cellAt _ (by omega), List.getElem?_append_left (by rw [tcs_len]; omega), tcs_split L k, List.getElem?_append_right (by omega), hl1, show k * 3 + j - k * 3 = j by omega, hj]
    · refine ⟨(cur.toList.take ((k + 1) * 3)).drop (k * 3), ?_, ?_, .inr ⟨g, cap, _, rfl, hb, hW, hle, hmax, ?_, ?_⟩⟩
      · simp; omega
      · simp; omega
      · simp; omega
      · have htk2 : cur.toList.take (k * 3) = tcs (L.take k) := by
          have h1 := congrArg (List.take (k * 3)) htk
          rw [List.take_take, Nat.min_eq_left (by omega), List.take_append_of_le_length (by rw [tcs_len]; omega), tcs_split L k, List.take_append_of_le_length (by omega), List.take_of_length_le (l := tcs (L.take k)) (by omega)] at h1
          exact h1
        have hsp : cur.toList.take ((k + 1) * 3) = tcs (L.take k) ++ (cur.toList.take ((k + 1) * 3)).drop (k * 3) := by
          have h2 := List.take_append_drop (k * 3) (cur.toList.take ((k + 1) * 3))
          rw [List.take_take, Nat.min_eq_left (by omega), htk2] at h2
          exact h2.symm
        rw [List.toList_toArray, List.take_append_of_le_length (by simp; omega), List.take_of_length_le (by simp; omega)]
        exact congrArg (· ++ tcs (L.drop k)) hsp
end Go.Proofs.YtejoabaanclcbaaGreat


