/- Texts of this proof. -/
import Derived.Test.YtejoabaanclcbaaGreatLks
import Derived.Test.YtejoabaanclcbaaGreatQan
import Derived.Laws.CopyRow
import Derived.Laws.CopyOwn
namespace Go.Proofs.YtejoabaanclcbaaGreat
open Go.RowKit Go.Maps Go.Shelf

/-- Block g says of the numbers below m which have been seen. -/
def Bs (w : World) (g m : Nat) (S : Nat → Bool) : Prop := ∃ cs, Row w g 4 cs ∧ cs.size = m ∧ ∀ i, i < m → cs[i]? = some (.bool (S i))
theorem Bs.at_ {w : World} {g m : Nat} {S : Nat → Bool} (h : Bs w g m S) {i : Nat} (hi : i < m) : w.cell? ⟨g, i, none⟩ = some (.bool (S i)) ∧ w.frozen? ⟨g, i, none⟩ = false := by
  obtain ⟨cs, h1, h2, h3⟩ := h
  exact ⟨(h1.cell i).trans (h3 i hi), h1.thaw i⟩
theorem Bs.set {w : World} {g m : Nat} {S : Nat → Bool} (h : Bs w g m S) {i : Nat} (hi : i < m) : Bs (w.setCell ⟨g, i, none⟩ (.bool true)) g m (fun x => S x || decide (x = i)) := by
  obtain ⟨cs, h1, h2, h3⟩ := h
  refine ⟨_, h1.put i _, by simpa using h2, fun j hj => ?_⟩
  by_cases e : j = i
  · subst e
    rw [Array.getElem?_setIfInBounds, if_pos rfl, if_pos (by omega)]
    simp
  · rw [Array.getElem?_setIfInBounds, if_neg (fun e' => e e'.symm), h3 j hj]
    simp [e]
theorem Bs.same {w : World} {g m : Nat} {S S' : Nat → Bool} (h : Bs w g m S) (e : ∀ x, S x = S' x) : Bs w g m S' := by
  rw [← show S = S' from funext e]; exact h
theorem Bs.under {w w' : World} {g m : Nat} {S : Nat → Bool} (h : Bs w g m S) (hb : Below w.heap.size w w') : Bs w' g m S := by
  obtain ⟨cs, h1, h2, h3⟩ := h
  exact ⟨cs, h1.under hb, h2, h3⟩
theorem Bs.lt {w : World} {g m : Nat} {S : Nat → Bool} (h : Bs w g m S) : g < w.heap.size := by
  obtain ⟨cs, h1, h2, h3⟩ := h
  exact h1.lt
/-- A list of numbers as a value, apart from the block x. -/
def NmI (w : World) (x : Nat) (v : Value) (l : List Nat) : Prop := ∃ A cap, v = .slice A l.length cap ∧ l.length ≤ cap ∧ cap ≤ 9223372036854775807 ∧ ∀ i (h : i < l.length), ∃ b, A = some ⟨b, 0, none⟩ ∧ b ≠ x ∧ b < w.heap.size ∧ w.cell? ⟨b, i, none⟩ = some (.int .i64 (l[i] : Int))
theorem NmI.grown {w w' : World} {x : Nat} {v : Value} {l : List Nat} (h : NmI w x v l) (hg : w.grownBy w' (some x)) : NmI w' x v l := by
  obtain ⟨A, cap, h1, h2, h3, h4⟩ := h
  refine ⟨A, cap, h1, h2, h3, fun i hi => ?_⟩
  obtain ⟨b, e1, e2, e3, e4⟩ := h4 i hi
  exact ⟨b, e1, e2, Nat.lt_of_lt_of_le e3 hg.size, (hg.cell_far ⟨b, i, none⟩ e3 (fun e => e2 (Option.some.inj e))).trans e4⟩
theorem nmi_own {w : World} {x base : Nat} {v : Value} {l : List Nat} (h : w.ownsRow base 3 1 v l.length (zc l)) (hx : ∀ b, v.ownBlock = some b → b ≠ x) : NmI w x v l := by
  rcases h.2 with ⟨rfl, h0⟩ | ⟨g, cap, cur, rfl, hb, hh, hle, hmax, _⟩
  · exact ⟨none, 0, by rw [h0], by omega, by omega, fun i hi => by omega⟩
  · exact ⟨some ⟨g, 0, none⟩, cap, rfl, hle, by unfold maxLen at hmax; omega, fun i hi => ⟨g, rfl, hx g rfl, (Array.getElem?_eq_some_iff.1 hh).1, by rw [h.cellAt i (by omega)]; exact zc_at l i hi⟩⟩
/-- What is known while a ring is gone through: w was the world, wl that behind links. -/
structure Sp (wl w : World) (gs m : Nat) (S : Nat → Bool) (F : List Nat) (v : Value) (w' : World) : Prop where
  gr : w.grownBy w' (some gs)
  bs : Bs w' gs m (fun x => S x || F.contains x)
  own : w'.ownsRow w.heap.size 3 1 v F.length (zc F)
theorem Sp.below {wl w w' : World} {gs m : Nat} {S : Nat → Bool} {F : List Nat} {v : Value} (h : Sp wl w gs m S F v w') (hb : Below wl.heap.size wl w) (hgs : wl.heap.size ≤ gs) : Below wl.heap.size wl w' := below_by hb hb.size hgs h.gr
theorem Sp.more {wl w w1 w' : World} {gs m x : Nat} {S : Nat → Bool} {F : List Nat} {v v' : Value} (h : Sp wl w gs m S F v w1) (hx : x < m) (hs : w.heap.size ≤ w1.heap.size) (hgs : gs < w.heap.size)
    (ho : w'.ownsRow w.heap.size 3 1 v' (F.length + 1) (zc F ++ [.int .i64 (x : Int)])) (hg : ((w1.setCell ⟨gs, x, none⟩ (.bool true)).alloc (.cells #[.int .i64 (x : Int)] 3)).grownBy w' v.ownBlock) : Sp wl w gs m S (F ++ [x]) v' w' := by
  have hb : Bs (w1.setCell ⟨gs, x, none⟩ (.bool true)) gs m (fun y => S y || (F ++ [x]).contains y) := (h.bs.set hx).same (fun y => by
    rw [List.contains_append, ← Bool.or_assoc]
    congr 1
    simp)
  have g1 := grown_one w1 gs x (.bool true)
  have o1 : (w1.setCell ⟨gs, x, none⟩ (.bool true)).ownsRow w.heap.size 3 1 v F.length (zc F) := h.own.kept g1 (by
    cases hv : v.ownBlock with
    | none => exact .inl rfl
    | some b => exact .inr (fun e => by have := (h.own.lt b hv).1; have := Option.some.inj e; omega))
  have o2 := o1.alloc (.cells #[.int .i64 (x : Int)] 3)
  have b2 := hb.under ((Below.refl _ _).alloc (Nat.le_refl _) (.cells #[.int .i64 (x : Int)] 3))
  obtain ⟨cs, c1, c2, c3⟩ := b2
  refine ⟨?_, ⟨cs, c1.grown hg (own_ne o2 c1 (by decide)), c2, c3⟩, by rw [zc_snoc, List.length_append]; exact ho⟩
  have g0 := h.gr
  refine ⟨?_, ?_, ?_, ?_, fun i hi hne => ?_⟩
  · exact hg.os.trans (g1.os.trans g0.os)
  · exact hg.tape.trans (g1.tape.trans g0.tape)
  · exact hg.output.trans (g1.output.trans g0.output)
  · refine Nat.le_trans (Nat.le_trans hs ?_) hg.size
    simp [World.setCell]
  · have hi1 : i < w1.heap.size := Nat.lt_of_lt_of_le hi g0.size
    refine (hg.block i (by simp [World.setCell]; omega) (fun e => by have := (o1.lt i e.symm).1; omega)).trans ?_
    refine (Below.heap_alloc _ _ i (by simpa [World.setCell] using hi1)).trans ?_
    exact (g1.block i hi1 hne).trans (g0.block i hi hne)
theorem Sp.own2 {wl w w1 : World} {gs m x : Nat} {S : Nat → Bool} {F : List Nat} {v : Value} (h : Sp wl w gs m S F v w1) (hgs : gs < w.heap.size) (o : Obj) : ((w1.setCell ⟨gs, x, none⟩ (.bool true)).alloc o).ownsRow w.heap.size 3 1 v F.length (zc F) :=
  (h.own.kept (grown_one w1 gs x (.bool true)) (by
    cases hv : v.ownBlock with
    | none => exact .inl rfl
    | some b => exact .inr (fun e => by have := (h.own.lt b hv).1; have := Option.some.inj e; omega))).alloc o
def SpreadR (wl w : World) (gs m : Nat) (S : Nat → Bool) (F : List Nat) (e : Ending) (w' : World) : Prop := ∃ v, e = .returned v ∧ Sp wl w gs m S F v w'
set_option maxRecDepth 100000 in
set_option maxHeartbeats 8000000 in
theorem spread_any (wl : World) (n g cg gs cs : Nat) (S : Nat → Bool) (R : List Nat) (vr : Value) (w : World) (hn : Lat.frq n) (hb : Below wl.heap.size wl w) (hnb : Nb wl g n) (hgs : wl.heap.size ≤ gs) (hS : Bs w gs (cn n) S) (hR : NmI w gs vr R) (hlt : ∀ x ∈ R, x < cn n)
    (hlen : R.length ≤ 642) (_hcg : cn n ≤ cg) (_hcg2 : cg ≤ 9223372036854775807) (_hcs : cn n ≤ cs) (_hcs2 : cs ≤ 9223372036854775807) :
    Calls Tryz.prog 87 #[vr, .slice (some ⟨g, 0, none⟩) (cn n) cg, .slice (some ⟨gs, 0, none⟩) (cn n) cs] w (SpreadR wl w gs (cn n) S (Lat.fnd S (R.flatMap (Lat.nbs n)))) := by
  have hc := cn_le hn
  obtain ⟨i0, hi, hz0, hz1, hz2⟩ := info_parts infoInt0
  obtain ⟨A, cap, rfl, hr1, hr2, hr3⟩ := hR
  have HR := Lib.hid hr3; clear hr3
  have HN := Lib.hid hn; clear hn
  have HB := Lib.hid hb; clear hb
  have HNB := Lib.hid hnb; clear hnb
  have HGS := Lib.hid hgs; clear hgs
  have HGL := Lib.hid hS.lt
  have HLT := Lib.hid hlt; clear hlt
  have H0 : Hid (Sp wl w gs (cn n) S (Lat.fnd S ((R.take 0).flatMap (Lat.nbs n))) (.slice none 0 0) w) := Lib.hid ⟨grown_refl _ _, hS.same (fun x => by simp [Lat.fnd_nil]), by simpa [Lat.fnd_nil, zc] using World.ownsRow_nil w w.heap.size 3 1⟩
  clear hS
  go_enter Tryz.func87, Tryz.ntmps87
  go_wp2_with fail
  go_loopw [7, 14] (fun v t wr => ∃ i : Nat, i ≤ R.length ∧ t = .int .i64 i ∧ Sp wl w gs (cn n) S (Lat.fnd S ((R.take i).flatMap (Lat.nbs n))) v wr) (fun _ t _ => R.length - (intOf t).toNat)
  case atStart => exact ⟨0, by omega, rfl, H0.out⟩
  case round =>
    clear H0
    obtain ⟨i, hi', rfl, M⟩ := hrel
    by_cases hlt : i < R.length
    · have k0 : (0 : Int) ≤ (i : Int) := by omega
      have k1 : (i : Int) < (R.length : Int) := by omega
      obtain ⟨b, rfl, hbx, hbl, hcell⟩ := HR.out i hlt
      have p0 : wr.cell? ⟨b, i, none⟩ = some (.int .i64 (R[i] : Int)) := (M.gr.cell_far ⟨b, i, none⟩ hbl (fun e => hbx (Option.some.inj e))).trans hcell
      have hri := HLT.out R[i] (List.getElem_mem hlt)
      have HNX := Lib.hid (Lat.flat_next (n := n) hlt)
      have HFS := Lib.hid (fun j (hj : j < (Lat.nbs n R[i]).length) => Lat.flat_snoc (n := n) hlt hj)
      generalize R[i] = r at *
      have r0 : (0 : Int) ≤ (r : Int) := by omega
      have r1 : (r : Int) < (cn n : Int) := by omega
      have HRI := Lib.hid hri; clear hri
      obtain ⟨vn, q0w, bn, cn', rfl, hn1, hn2, hn3⟩ := HNB.out.at_ r HRI.out
      have q0 := ((M.below HB.out HGS.out).cell (p := ⟨g, r, none⟩) HNB.out.lt).trans q0w
      have hl6 := Lat.nbs_len HN.out HRI.out
      have HIN := Lib.hid (fun b (h : b ∈ Lat.nbs n r) => (Lat.nbs_in HN.out HRI.out h).1)
      have HN3 := Lib.hid hn3
      clear hn3 hcell q0w
      generalize hx : (R.take i).flatMap (Lat.nbs n) = X at *
      have HX := Lib.hid hx; clear hx
      have HM : Hid (Sp wl w gs (cn n) S (Lat.fnd S (X ++ (Lat.nbs n r).take 0)) «u7» wr) := Lib.hid (by simpa using M)
      clear M
      have HALL := Lib.hid (fun y (hy : y ∈ X ++ Lat.nbs n r) => (show y < cn n from by
        rcases List.mem_append.1 hy with hy | hy
        · rw [← HX.out, List.mem_flatMap] at hy
          obtain ⟨q, hq, hy⟩ := hy
          exact (Lat.nbs_in HN.out (HLT.out q (List.mem_of_mem_take hq)) hy).1
        · exact HIN.out y hy))
      have HSUB := Lib.hid (fun (j : Nat) (y : Nat) (hy : y ∈ X ++ (Lat.nbs n r).take j) => (show y ∈ X ++ Lat.nbs n r from by
        rcases List.mem_append.1 hy with hy | hy
        · exact List.mem_append_left _ hy
        · exact List.mem_append_right _ (List.mem_of_mem_take hy)))
      generalize hL : Lat.nbs n r = L at *
      have HL := Lib.hid hL; clear hL
      go_wp2_with fail
      clear p0 q0
      go_loopw [7, 23] (fun v t wr => ∃ j : Nat, j ≤ L.length ∧ t = .int .i64 j ∧ Sp wl w gs (cn n) S (Lat.fnd S (X ++ L.take j)) v wr) (fun _ t _ => L.length - (intOf t).toNat)
      case atStart => exact ⟨0, by omega, rfl, HM.out⟩
      case round =>
        clear HM
        obtain ⟨j, hj, rfl, M⟩ := hrel
        by_cases hlj : j < L.length
        · have j0 : (0 : Int) ≤ (j : Int) := by omega
          have j1 : (j : Int) < (L.length : Int) := by omega
          have p1 := (HN3.out.under (M.below HB.out HGS.out)).at_ j hlj
          have hxin := HIN.out _ (List.getElem_mem hlj)
          have HF := Lib.hid (HFS.out j hlj)
          generalize L[j] = x at *
          have x0 : (0 : Int) ≤ (x : Int) := by omega
          have x1 : (x : Int) < (cn n : Int) := by unfold cn; omega
          have HXI := Lib.hid (show x < cn n from hxin); clear hxin
          have HFN := Lib.hid (Lat.fnd_snoc S (X ++ L.take j) x)
          rw [← HF.out] at HFN
          obtain ⟨q1, q2⟩ := M.bs.at_ HXI.out
          have HFL := Lib.hid (show (Lat.fnd S (X ++ L.take j)).length ≤ 642 from Nat.le_trans (Lat.len_lt (m := cn n) (Lat.fnd_spec S _).1 (fun y hy => HALL.out y (HSUB.out j y ((Lat.fnd_spec S _).2 y |>.1 hy).2))) hc)
          generalize Lat.fnd S (X ++ L.take j) = F at *
          cases hs : (S x || F.contains x)
          · rw [hs] at q1
            have HS := Lib.hid hs; clear hs
            have HM := Lib.hid M; clear M
            have HO := Lib.hid (HM.out.own2 (x := x) HGL.out (.cells #[.int .i64 (x : Int)] 3))
            go_wp2_with (at_builtin; refine wpList_append_lies _ rfl (.tmp 35) (.tmp 37) 23 rfl w.heap.size 3 i0 _ 1 8 Tryz.underlying23 hi hz0 hz1 hz2 rfl (by decide) «u7» F.length (zc F) rfl HO.out ⟨wr.heap.size, 0, none⟩ 1 1 [.int .i64 (x : Int)] rfl rfl (World.news_of_block (cs := #[.int .i64 (x : Int)]) (t := 3) (fr := (0, 0)) (by have := heap_alloc_new (wr.setCell ⟨gs, x, none⟩ (.bool true)) (.cells #[.int .i64 (x : Int)] 3); simpa [World.setCell] using this)) (by simp [Value.oneCell']) (by omega) (by have := HFL.out; unfold maxLen; omega) (by have := HFL.out; omega) (by have := HM.out.gr.size; simp [World.setCell]; omega) _ rfl ?_; intro g' cap' w6 hown6 hgrow6 hat6 hlt6; have H6 := Lib.hid (HM.out.more HXI.out HM.out.gr.size HGL.out hown6 hgrow6); clear hown6 hgrow6 hat6 hlt6 HO HM q1 q2 p1)
            go_wp2_with fail
            go_roundw
            case rel => exact ⟨j + 1, by omega, by go_num, by rw [HFN.out, HS.out]; exact H6.out⟩
            case measure => simp [intOf]; omega
          · rw [hs] at q1
            have HS := Lib.hid hs; clear hs
            have HM := Lib.hid M; clear M
            go_wp2_with fail
            go_roundw
            case rel => exact ⟨j + 1, by omega, by go_num, by rw [HFN.out, HS.out]; exact HM.out⟩
            case measure => simp [intOf]; omega
        · have j1 : ¬ ((j : Int) < (L.length : Int)) := by omega
          have hje : j = L.length := by omega
          have HM := Lib.hid M; clear M
          have HJE := Lib.hid hje; clear hje
          go_wp2_with fail
          go_roundw
          case rel => exact ⟨i + 1, by omega, by go_num, by have := HM.out; rw [HJE.out, List.take_length] at this; rw [HNX.out]; exact this⟩
          case measure => simp [intOf]; omega
    · have k1 : ¬ ((i : Int) < (R.length : Int)) := by omega
      have hie : i = R.length := by omega
      have HM := Lib.hid M; clear M
      have HIE := Lib.hid hie; clear hie
      go_wp2_with fail
      go_ret
      exact ⟨_, rfl, by have := HM.out; rw [HIE.out, List.take_length] at this; exact this⟩
end Go.Proofs.YtejoabaanclcbaaGreat



namespace Go.Proofs.YtejoabaanclcbaaGreat
open Go.RowKit Go.Maps Go.Shelf

/-- The grid of a frequency has this node. -/
def okB (n x : Int) : Bool := decide (1 ≤ n ∧ n ≤ 8 ∧ 0 ≤ x ∧ x < 10 * (n.toNat : Int) * (n.toNat : Int) + 2)
theorem okB_of {m y : Nat} (h : Lat.frq m) (hy : y < cn m) : okB m y = true := by
  unfold okB
  rw [decide_eq_true_eq]
  have e : ((10 * m * m + 2 : Nat) : Int) = 10 * (m : Int) * (m : Int) + 2 := rfl
  unfold Lat.frq at h
  unfold cn at hy
  refine ⟨by omega, by omega, by omega, ?_⟩
  rw [Int.toNat_natCast]
  omega
theorem okB_no {m : Nat} {x : Int} (hx : ¬ x < (cn m : Int)) : okB m x = false := by
  unfold okB
  rw [decide_eq_false_iff_not]
  rintro ⟨_, _, _, h⟩
  rw [Int.toNat_natCast] at h
  have e : ((10 * m * m + 2 : Nat) : Int) = 10 * (m : Int) * (m : Int) + 2 := rfl
  unfold cn at hx
  omega
set_option maxHeartbeats 1000000 in
theorem isNode_any (n x : Int) (w : World) : Calls Tryz.prog 85 #[.int .i64 n, .int .i64 x] w fun e w' => e = .returned (.bool (okB n x)) ∧ w = w' := by
  by_cases h0 : 0 ≤ x
  · by_cases hn : 1 ≤ n ∧ n ≤ 8
    · obtain ⟨m, rfl⟩ := Int.eq_ofNat_of_zero_le (show 0 ≤ n by omega)
      have hm : Lat.frq m := ⟨by omega, by omega⟩
      by_cases hx : x < (cn m : Int)
      · obtain ⟨y, rfl⟩ := Int.eq_ofNat_of_zero_le h0
        have HO := Lib.hid (okB_of hm (show y < cn m by omega))
        have HM := Lib.hid hm; clear hm hn
        go_enter Tryz.func85, Tryz.ntmps85
        go_wp2_with fail
        refine (count_yes _ _ HM.out).mono ?_
        rintro e w1 ⟨rfl, rfl⟩
        go_wp2_with fail
        go_ret
        exact ⟨by rw [HO.out]; first | rfl | (simp; done) | (simp; omega), rfl⟩
      · have HO := Lib.hid (okB_no hx)
        have HM := Lib.hid hm; clear hm hn
        go_enter Tryz.func85, Tryz.ntmps85
        go_wp2_with fail
        refine (count_yes _ _ HM.out).mono ?_
        rintro e w1 ⟨rfl, rfl⟩
        go_wp2_with fail
        go_ret
        exact ⟨by rw [HO.out]; first | rfl | (simp; done) | (simp; omega), rfl⟩
    · have HO : Hid (okB n x = false) := Lib.hid (by unfold okB; rw [decide_eq_false_iff_not]; exact fun h => hn ⟨h.1, h.2.1⟩)
      have hx : ¬ x < 0 := by omega
      have HN := Lib.hid hn; clear hn
      go_enter Tryz.func85, Tryz.ntmps85
      go_wp2_with fail
      refine (count_no _ _ HN.out).mono ?_
      rintro e w1 ⟨rfl, rfl⟩
      go_wp2_with fail
      go_ret
      exact ⟨by rw [HO.out]; first | rfl | (simp; done) | (simp; omega), rfl⟩
  · have HO : Hid (okB n x = false) := Lib.hid (by unfold okB; rw [decide_eq_false_iff_not]; exact fun h => h0 h.2.2.1)
    go_enter Tryz.func85, Tryz.ntmps85
    go_wp2_with fail
    go_ret
    exact ⟨by rw [HO.out]; first | rfl | (simp; done) | (simp; omega), rfl⟩
/-- What Neighbours leaves. -/
def NeiR (W : World) (n a : Nat) (e : Ending) (w : World) : Prop := ∃ v, e = .returned (.tuple #[v, .int .i64 0]) ∧ Below W.heap.size W w ∧ NmL w v (Lat.nbs n a)
theorem infoBool : (Tryz.prog.info? 4).map (fun i => (i.zero, i.size, i.bytes)) = some (some (.bool false), 1, 1) := by kernel_rfl
theorem bs_made (w : World) (m : Nat) : Bs (w.alloc (.cells (madeCells #[.bool false] m) 4)) w.heap.size m (fun _ => false) :=
  ⟨_, Row.new _ _ _, size_madeCells _ _, fun i hi => by simp [madeCells, hi, Nat.mod_one]⟩
theorem bs_made_set (w : World) (m a : Nat) (ha : a < m) : Bs (w.alloc (.cells ((madeCells #[.bool false] m).setIfInBounds a (.bool true)) 4)) w.heap.size m (fun x => false || decide (x = a)) :=
  ⟨_, Row.new _ _ _, by simp [size_madeCells], fun i hi => by
    by_cases e : i = a
    · subst e
      rw [Array.getElem?_setIfInBounds, if_pos rfl, if_pos (by rw [size_madeCells]; exact hi)]
      simp
    · rw [Array.getElem?_setIfInBounds, if_neg (fun e' => e e'.symm)]
      simp [madeCells, hi, Nat.mod_one, e]⟩
/-- What is known while the rings are gone through. -/
structure Hp (wl : World) (n a gs k D : Nat) (vr : Value) (w : World) : Prop where
  le : k ≤ D
  below : Below wl.heap.size wl w
  ex : ∃ S R, Lat.Rg n a k R ∧ Lat.Sn n a k S ∧ Bs w gs (cn n) S ∧ NmI w gs vr R
theorem Hp.start {wl w : World} {n a gs D : Nat} (hb : Below wl.heap.size wl w) (_ha : a < cn n) (hs : Bs w gs (cn n) (fun x => false || decide (x = a))) (hg : gs < w.heap.size) : Hp wl n a gs 0 D (.slice (some ⟨w.heap.size, 0, none⟩) 1 1) (w.alloc (.cells #[.int .i64 (a : Int)] 3)) := by
  refine ⟨Nat.zero_le _, hb.alloc hb.size _, fun x => decide (x = a), [a], Lat.rg_start n a, Lat.sn_start n a, (hs.same (fun x => Bool.false_or _)).under ((Below.refl _ _).alloc (Nat.le_refl _) _), some ⟨w.heap.size, 0, none⟩, 1, rfl, by simp, by omega, fun i hi => ⟨w.heap.size, rfl, by omega, by simp, ?_⟩⟩
  have : i = 0 := by simpa using hi
  subst this
  exact (Row.new w #[.int .i64 (a : Int)] 3).cell 0
def HopR (W : World) (D : Nat) (e : Ending) (w : World) : Prop := e = .returned (.tuple #[.int .i64 D, .int .i64 0]) ∧ Below W.heap.size W w
set_option maxRecDepth 100000 in
set_option maxHeartbeats 4000000 in
theorem hops_yes (n a b D : Nat) (w : World) (hn : Lat.frq n) (ha : a < cn n) (hb : b < cn n) (hD : Lat.Dist n a b D) (hD2 : D ≤ 100000) : Calls Tryz.prog 62 #[.int .i64 n, .int .i64 a, .int .i64 b] w (HopR w D) := by
  have HO := Lib.hid (okB_of hn ha)
  have HP := Lib.hid (okB_of hn hb)
  have hc := cn_le hn
  have a0 : (0 : Int) ≤ (a : Int) := by omega
  have a1 : (a : Int) < (cn n : Int) := by omega
  have b0 : (0 : Int) ≤ (b : Int) := by omega
  have b1 : (b : Int) < (cn n : Int) := by omega
  have hmk := run_make_row' (P := Tryz.prog) 44 4 (.bool false) 1 Tryz.underlying44 infoBool rfl .i64 .i64 (cn n) (by omega) (by omega)
  have HN := Lib.hid hn; clear hn
  have HA := Lib.hid ha; clear ha
  have HB := Lib.hid hb; clear hb
  have HD := Lib.hid hD; clear hD
  go_enter Tryz.func62, Tryz.ntmps62
  go_upto_region 3 with (first | (go_at_call 85; refine (isNode_any _ _ _).mono ?_; rintro e w1 ⟨rfl, rfl⟩; first | rw [HO.out] | rw [HP.out]))
  go_wp2_with fail
  refine (links_any _ _ HN.out).mono ?_
  rintro e wl ⟨g, cg, rfl, h1, h2, hb, hg, hnb, -⟩
  have hs0 := bs_made wl (cn n)
  obtain ⟨q0, q1⟩ := hs0.at_ HA.out
  have HS0 := Lib.hid hs0; clear hs0
  have HNB := Lib.hid hnb; clear hnb
  have HBL := Lib.hid hb; clear hb
  go_upto_region 6 with fail
  refine forget (fun Y => Below wl.heap.size wl Y ∧ Bs Y wl.heap.size (cn n) (fun x => false || decide (x = a)) ∧ wl.heap.size < Y.heap.size) ⟨(Below.refl _ _).alloc (Nat.le_refl _) _, bs_made_set _ _ _ HA.out, by simp⟩ ?_
  clear q0 q1 HS0 hmk
  have HGS := Lib.hid (Nat.le_refl wl.heap.size)
  generalize hgs : wl.heap.size = gs at *
  have hgs2 : wl.heap.size ≤ gs := by omega
  clear HGS
  have HGS := Lib.hid hgs2
  have HGE := Lib.hid hgs
  clear hgs hgs2
  rintro Y ⟨y1, y2, y3⟩
  have HY := Lib.hid (And.intro y1 (And.intro y2 y3)); clear y1 y2 y3
  go_upto_region 8 with fail
  have hp0 := Hp.start (D := D) (gs := gs) (by rw [HGE.out]; exact HY.out.1) HA.out HY.out.2.1 HY.out.2.2
  refine forget (fun Z => Hp wl n a gs 0 D (.slice (some ⟨Y.heap.size, 0, none⟩) 1 1) Z) hp0 ?_
  clear hp0 HY
  generalize Y.heap.size = gy at *
  rintro Z hZ
  have HZ := Lib.hid hZ; clear hZ
  go_wp2_with fail
  go_loopw [10, 11] (fun t v wr => ∃ k : Nat, t = .int .i64 k ∧ Hp wl n a gs k D v wr) (fun t _ _ => D - (intOf t).toNat)
  case atStart => exact ⟨0, rfl, HZ.out⟩
  case round =>
    clear HZ
    obtain ⟨k, rfl, M⟩ := hrel
    obtain ⟨S, R, hR, hS, hB, hV⟩ := M.ex
    obtain ⟨q0, q1⟩ := hB.at_ HB.out
    cases hs : S b
    · rw [hs] at q0
      have hkD : k + 1 ≤ D := by
        rcases Nat.lt_or_ge k D with h | h
        · exact h
        · have := (hS b HB.out).2 ⟨D, h, HD.out⟩
          rw [hs] at this
          cases this
      have HR := Lib.hid hR
      have HSN := Lib.hid hS
      have HBS := Lib.hid hB
      have HV := Lib.hid hV
      have HM := Lib.hid M
      clear hR hS hB hV M hs
      go_wp2_with fail
      refine (spread_any wl n g cg gs (cn n) S R _ _ HN.out HM.out.below HNB.out HGS.out HBS.out HV.out (fun x hx => Lat.dist_lt HN.out HA.out ((HR.out.2 x).1 hx)) (Nat.le_trans (Lat.rg_len HN.out HA.out HR.out) hc) h1 h2 (Nat.le_refl _) (by omega)).mono ?_
      rintro e w5 ⟨v5, rfl, hsp⟩
      obtain ⟨n1, n2⟩ := Lat.ring_next HN.out HA.out HSN.out HR.out rfl
      have H5 : Hid (Hp wl n a gs (k + 1) D v5 w5) := Lib.hid ⟨hkD, hsp.below HM.out.below HGS.out, _, _, n1, n2, hsp.bs, nmi_own hsp.own (fun bb hbb => by have := (hsp.own.lt bb hbb).1; have := HBS.out.lt; omega)⟩
      clear n1 n2 hsp HM HV HBS HSN HR q0 q1
      go_wp2_with fail
      go_roundw
      case rel => exact ⟨k + 1, by go_num, H5.out⟩
      case measure => simp [intOf]; omega
    · rw [hs] at q0
      obtain rfl : k = D := by
        obtain ⟨j, hj, hd⟩ := (hS b HB.out).1 hs
        have := Lat.dist_one hd HD.out
        have := M.le
        omega
      have HF := Lib.hid (HBL.out.trans (M.below.mono HBL.out.size))
      clear hR hS hB hV M hs
      go_wp2_with fail
      go_ret2
      exact ⟨rfl, HF.out⟩
end Go.Proofs.YtejoabaanclcbaaGreat



namespace Go.Proofs.YtejoabaanclcbaaGreat
open Go.RowKit Go.Maps Go.Shelf

theorem agg3 {x y z x' y' z' : Int} (h : x = x') (h1 : y = y') (h2 : z = z') : Ending.returned (.agg #[.int .i64 x, .int .i64 y, .int .i64 z]) = Ending.returned (.agg #[.int .i64 x', .int .i64 y', .int .i64 z']) := by rw [h, h1, h2]
set_option maxRecDepth 100000 in
set_option maxHeartbeats 4000000 in
theorem refCell_any (a b c : Nat) (w : World) (ha : a ≤ 1000) (hb : b ≤ 1000) (hc : c ≤ 1000) : Calls Tryz.prog 114 #[.int .i64 (a : Int), .int .i64 (b : Int), .int .i64 (c : Int)] w fun e w' => e = .returned (.agg #[.int .i64 ((Lat.scell (a, b, c)).1 : Int), .int .i64 ((Lat.scell (a, b, c)).2.1 : Int), .int .i64 ((Lat.scell (a, b, c)).2.2 : Int)]) ∧ Below w.heap.size w w' := by
  have HS : Hid (((Lat.scell (a, b, c)).1 : Int) = min (a : Int) (min b c) ∧ ((Lat.scell (a, b, c)).2.1 : Int) = a + b + c - min (a : Int) (min b c) - max (a : Int) (max b c) ∧ ((Lat.scell (a, b, c)).2.2 : Int) = max (a : Int) (max b c)) := Lib.hid (by
    unfold Lat.scell
    simp only
    omega)
  go_enter Tryz.func114, Tryz.ntmps114
  go_wp2_with fail
  all_goals refine bodyPost_ret (results_cell_row Tryz.results114 _ _ w.heap.size 126 _ (0, 0) _ rfl (Row.new _ _ _) Tryz.underlying126 rfl (by kernel_rfl)) rfl ⟨agg3 ?_ ?_ ?_, (Below.refl _ _).alloc (Nat.le_refl _) _⟩
  all_goals (obtain ⟨h1, h2, h3⟩ := HS.out)
  all_goals (first | rw [h1] | rw [h2] | rw [h3])
  all_goals (clear h1 h2 h3 HS)
  all_goals (repeat (split at *))
  all_goals omega
end Go.Proofs.YtejoabaanclcbaaGreat



namespace Go.Proofs.YtejoabaanclcbaaGreat
open Go.RowKit Go.Maps Go.Shelf

/-- copy, where an element has s cells. -/
theorem run_copy_wide {P : Program} (w : World) (dT sT ty elem : TypeId) (g o dLen dCap : Nat) (a : Addr) (sLen sCap s : Nat) (cur : Array Value) (t : TypeId) (cs : List Value)
    (hu : P.underlying dT = some (.slice elem)) (hs : (P.info? elem).map (·.size) = some s)
    (hg : w.heap[g]? = some (.cells cur t (0, 0))) (hn : cs.length = Nat.min sLen dLen * s)
    (hsrc : ∀ j v, cs[j]? = some v → w.cell? (a.add j) = some v) (hfit : o + cs.length ≤ cur.size) (h1 : ∀ v ∈ cs, v.oneCell' = true) :
    (Builtin.copy_ #[dT, sT] ty #[.slice (some ⟨g, o, none⟩) dLen dCap, .slice (some a) sLen sCap]).run P w =
      .ok (goInt (Nat.min sLen dLen)) (w.setRow g (cur.toList.take o ++ cs ++ cur.toList.drop (o + cs.length)).toArray) := by
  have hl := run_loadCells_list (P := P) w a cs hsrc
  have hst := run_storeCells_at P g o t cs 0 cur w hg (by simpa using hfit) h1
  cases hq : P.info? elem with
  | none => simp [hq] at hs
  | some i =>
    have hi : i.size = s := by simpa [hq] using hs
    rw [hn] at hl hst
    simp [Builtin.copy_, run_underlying hu, Builtin.lenOf, Builtin.firstCells, sizeOf, typeInfo, hq, hi, hl, hst, hn]
theorem wpList_copy_wide {P : Program} {w : World} {ops : Array Oper} {rest : List Oper} {o : Oper} {a : Act} {Q : Exit → Act → World → Prop} (hgd : o.guard = none) (d s : Operand) (dT sT : TypeId)
    (ho : o.op = .call { callee := .builtin .copy, args := #[d, s], argTypes := #[dT, sT] }) (elem : TypeId) (size : Nat) (hu : P.underlying dT = some (.slice elem)) (hsz : (P.info? elem).map (·.size) = some size)
    (g off dLen dCap : Nat) (ad : Addr) (sLen sCap : Nat) (hd : a.eval d = .slice (some ⟨g, off, none⟩) dLen dCap) (hs : a.eval s = .slice (some ad) sLen sCap)
    (cur : Array Value) (t : TypeId) (hg : w.heap[g]? = some (.cells cur t (0, 0))) (cs : List Value) (hn : cs.length = Nat.min sLen dLen * size)
    (hsrc : ∀ j v, cs[j]? = some v → w.cell? (ad.add j) = some v) (hfit : off + cs.length ≤ cur.size) (h1 : ∀ v ∈ cs, v.oneCell' = true)
    (h : wpList P ops Q rest (a.put o.dst (goInt (Nat.min sLen dLen))) (w.setRow g (cur.toList.take off ++ cs ++ cur.toList.drop (off + cs.length)).toArray)) : wpList P ops Q (o :: rest) a w := by
  refine wpList_plain hgd fun K hK => ?_
  have hrun := run_copy_wide (P := P) w dT sT o.type elem g off dLen dCap ad sLen sCap size cur t cs hu hsz hg hn hsrc hfit h1
  unfold Oper.wp
  simp only [execOp, ho, resolve, invoke, builtin]
  simp [hd, hs, hrun, Result.andThen]
  exact hK _ _ (by simpa using h)
end Go.Proofs.YtejoabaanclcbaaGreat



namespace Go.Proofs.YtejoabaanclcbaaGreat
open Go.RowKit Go.Maps Go.Shelf

theorem tcs_app (L M : List Lat.Tr) : tcs (L ++ M) = tcs L ++ tcs M := by simp [tcs]
theorem tcs_split (L : List Lat.Tr) (k : Nat) : tcs L = tcs (L.take k) ++ tcs (L.drop k) := by rw [← tcs_app, List.take_append_drop]
theorem copied {Z : World} {base g cap k : Nat} {L : List Lat.Tr} {e : TypeId} {Y : List Value} (_hY : Y.length = 3) (o4 : Z.ownsRow base e 3 (.slice (some ⟨g, 0, none⟩) (L.length + 1) cap) (L.length + 1) (tcs L ++ Y)) (hk : k ≤ L.length) :
    ∃ cur, Z.heap[g]? = some (.cells cur e (0, 0)) ∧ (k + 1) * 3 + (tcs (L.drop k)).length ≤ cur.size ∧ (∀ j v, (tcs (L.drop k))[j]? = some v → Z.cell? ((⟨g, k * 3, none⟩ : Addr).add j) = some v) ∧
      ∀ W : World, W.heap[g]? = some (.cells (cur.toList.take ((k + 1) * 3) ++ tcs (L.drop k) ++ cur.toList.drop ((k + 1) * 3 + (tcs (L.drop k)).length)).toArray e (0, 0)) → ∃ X, X.length = 3 ∧ W.ownsRow base e 3 (.slice (some ⟨g, 0, none⟩) (L.length + 1) cap) (L.length + 1) (tcs (L.take k) ++ X ++ tcs (L.drop k)) := by
  have hx := o4
  rcases hx.2 with ⟨h, _⟩ | ⟨g', cap', cur, h, hb, hh, hle, hmax, hsz, htk⟩
  · cases h
  · injection h with h _ h3
    injection h with h
    injection h with h
    subst h
    subst h3
    have hl1 : (tcs (L.take k)).length = k * 3 := by rw [tcs_len, List.length_take, Nat.min_eq_left hk]
    have hl2 : (tcs (L.drop k)).length = (L.length - k) * 3 := by rw [tcs_len, List.length_drop]
    refine ⟨cur, hh, by rw [hl2, hsz]; omega, fun j v hj => ?_, fun W hW => ?_⟩
    · have hjl : j < (tcs (L.drop k)).length := (List.getElem?_eq_some_iff.1 hj).1
      have hadd : (⟨g, k * 3, none⟩ : Addr).add j = ⟨g, k * 3 + j, none⟩ := by unfold Addr.add; split <;> simp_all
      rw [hadd, o4.cellAt _ (by omega), List.getElem?_append_left (by rw [tcs_len]; omega), tcs_split L k, List.getElem?_append_right (by omega), hl1, show k * 3 + j - k * 3 = j by omega, hj]
    · refine ⟨(cur.toList.take ((k + 1) * 3)).drop (k * 3), ?_, ?_, .inr ⟨g, cap, _, rfl, hb, hW, hle, hmax, ?_, ?_⟩⟩
      · simp; omega
      · simp; omega
      · simp; omega
      · have htk2 : cur.toList.take (k * 3) = tcs (L.take k) := by
          have h1 := congrArg (List.take (k * 3)) htk
          rw [List.take_take, Nat.min_eq_left (by omega), List.take_append_of_le_length (by rw [tcs_len]; omega), tcs_split L k, List.take_append_of_le_length (by omega), List.take_of_length_le (l := tcs (L.take k)) (by omega)] at h1
          exact h1
        have hsp : cur.toList.take ((k + 1) * 3) = tcs (L.take k) ++ (cur.toList.take ((k + 1) * 3)).drop (k * 3) := by
          have h2 := List.take_append_drop (k * 3) (cur.toList.take ((k + 1) * 3))
          rw [List.take_take, Nat.min_eq_left (by omega), htk2] at h2
          exact h2.symm
        rw [List.toList_toArray, List.take_append_of_le_length (by simp; omega), List.take_of_length_le (by simp; omega)]
        exact congrArg (· ++ tcs (L.drop k)) hsp
end Go.Proofs.YtejoabaanclcbaaGreat


