/- The contract of spread: the neighbours of a ring that have not been seen. -/
import Derived.Test.YtejoabaanclcbaaGreatLks
namespace Go.Proofs.YtejoabaanclcbaaGreat
open Go.RowKit Go.Maps Go.Shelf

/-- Block g says of the numbers below m which have been seen. -/
def Bs (w : World) (g m : Nat) (S : Nat → Bool) : Prop := ∃ cs, Row w g 4 cs ∧ cs.size = m ∧ ∀ i, i < m → cs[i]? = some (.bool (S i))
theorem Bs.at_ {w : World} {g m : Nat} {S : Nat → Bool} (h : Bs w g m S) {i : Nat} (hi : i < m) : w.cell? ⟨g, i, none⟩ = some (.bool (S i)) ∧ w.frozen? ⟨g, i, none⟩ = false := by
  obtain ⟨cs, h1, h2, h3⟩ := h
  exact ⟨(h1.cell i).trans (h3 i hi), h1.thaw i⟩
theorem Bs.set {w : World} {g m : Nat} {S : Nat → Bool} (h : Bs w g m S) {i : Nat} (hi : i < m) : Bs (w.setCell ⟨g, i, none⟩ (.bool true)) g m (fun x => S x || decide (x = i)) := by
  obtain ⟨cs, h1, h2, h3⟩ := h
  refine ⟨_, h1.put i _, by simpa using h2, fun j hj => ?_⟩
  by_cases e : j = i
  · subst e
    rw [Array.getElem?_setIfInBounds, if_pos rfl, if_pos (by omega)]
    simp
  · rw [Array.getElem?_setIfInBounds, if_neg (fun e' => e e'.symm), h3 j hj]
    simp [e]
theorem Bs.same {w : World} {g m : Nat} {S S' : Nat → Bool} (h : Bs w g m S) (e : ∀ x, S x = S' x) : Bs w g m S' := by
  rw [← show S = S' from funext e]; exact h
theorem Bs.under {w w' : World} {g m : Nat} {S : Nat → Bool} (h : Bs w g m S) (hb : Below w.heap.size w w') : Bs w' g m S := by
  obtain ⟨cs, h1, h2, h3⟩ := h
  exact ⟨cs, h1.under hb, h2, h3⟩
theorem Bs.lt {w : World} {g m : Nat} {S : Nat → Bool} (h : Bs w g m S) : g < w.heap.size := by
  obtain ⟨cs, h1, h2, h3⟩ := h
  exact h1.lt
/-- A list of numbers as a value, apart from the block x. -/
def NmI (w : World) (x : Nat) (v : Value) (l : List Nat) : Prop := ∃ A cap, v = .slice A l.length cap ∧ l.length ≤ cap ∧ cap ≤ 9223372036854775807 ∧ ∀ i (h : i < l.length), ∃ b, A = some ⟨b, 0, none⟩ ∧ b ≠ x ∧ b < w.heap.size ∧ w.cell? ⟨b, i, none⟩ = some (.int .i64 (l[i] : Int))
theorem NmI.grown {w w' : World} {x : Nat} {v : Value} {l : List Nat} (h : NmI w x v l) (hg : w.grownBy w' (some x)) : NmI w' x v l := by
  obtain ⟨A, cap, h1, h2, h3, h4⟩ := h
  refine ⟨A, cap, h1, h2, h3, fun i hi => ?_⟩
  obtain ⟨b, e1, e2, e3, e4⟩ := h4 i hi
  exact ⟨b, e1, e2, Nat.lt_of_lt_of_le e3 hg.size, (hg.cell_far ⟨b, i, none⟩ e3 (fun e => e2 (Option.some.inj e))).trans e4⟩
theorem nmi_own {w : World} {x base : Nat} {v : Value} {l : List Nat} (h : w.ownsRow base 3 1 v l.length (zc l)) (hx : ∀ b, v.ownBlock = some b → b ≠ x) : NmI w x v l := by
  rcases h.2 with ⟨rfl, h0⟩ | ⟨g, cap, cur, rfl, hb, hh, hle, hmax, _⟩
  · exact ⟨none, 0, by rw [h0], by omega, by omega, fun i hi => by omega⟩
  · exact ⟨some ⟨g, 0, none⟩, cap, rfl, hle, by unfold maxLen at hmax; omega, fun i hi => ⟨g, rfl, hx g rfl, (Array.getElem?_eq_some_iff.1 hh).1, by rw [h.cellAt i (by omega)]; exact zc_at l i hi⟩⟩
/-- What is known while a ring is gone through: w was the world, wl that behind links. -/
structure Sp (wl w : World) (gs m : Nat) (S : Nat → Bool) (F : List Nat) (v : Value) (w' : World) : Prop where
  gr : w.grownBy w' (some gs)
  bs : Bs w' gs m (fun x => S x || F.contains x)
  own : w'.ownsRow w.heap.size 3 1 v F.length (zc F)
theorem Sp.below {wl w w' : World} {gs m : Nat} {S : Nat → Bool} {F : List Nat} {v : Value} (h : Sp wl w gs m S F v w') (hb : Below wl.heap.size wl w) (hgs : wl.heap.size ≤ gs) : Below wl.heap.size wl w' := below_by hb hb.size hgs h.gr
theorem Sp.more {wl w w1 w' : World} {gs m x : Nat} {S : Nat → Bool} {F : List Nat} {v v' : Value} (h : Sp wl w gs m S F v w1) (hx : x < m) (hs : w.heap.size ≤ w1.heap.size) (hgs : gs < w.heap.size)
    (ho : w'.ownsRow w.heap.size 3 1 v' (F.length + 1) (zc F ++ [.int .i64 (x : Int)])) (hg : ((w1.setCell ⟨gs, x, none⟩ (.bool true)).alloc (.cells #[.int .i64 (x : Int)] 3)).grownBy w' v.ownBlock) : Sp wl w gs m S (F ++ [x]) v' w' := by
  have hb : Bs (w1.setCell ⟨gs, x, none⟩ (.bool true)) gs m (fun y => S y || (F ++ [x]).contains y) := (h.bs.set hx).same (fun y => by
    rw [List.contains_append, ← Bool.or_assoc]
    congr 1
    simp)
  have g1 := grown_one w1 gs x (.bool true)
  have o1 : (w1.setCell ⟨gs, x, none⟩ (.bool true)).ownsRow w.heap.size 3 1 v F.length (zc F) := h.own.kept g1 (by
    cases hv : v.ownBlock with
    | none => exact .inl rfl
    | some b => exact .inr (fun e => by have := (h.own.lt b hv).1; have := Option.some.inj e; omega))
  have o2 := o1.alloc (.cells #[.int .i64 (x : Int)] 3)
  have b2 := hb.under ((Below.refl _ _).alloc (Nat.le_refl _) (.cells #[.int .i64 (x : Int)] 3))
  obtain ⟨cs, c1, c2, c3⟩ := b2
  refine ⟨?_, ⟨cs, c1.grown hg (own_ne o2 c1 (by decide)), c2, c3⟩, by rw [zc_snoc, List.length_append]; exact ho⟩
  have g0 := h.gr
  refine ⟨?_, ?_, ?_, ?_, fun i hi hne => ?_⟩
  · exact hg.os.trans (g1.os.trans g0.os)
  · exact hg.tape.trans (g1.tape.trans g0.tape)
  · exact hg.output.trans (g1.output.trans g0.output)
  · refine Nat.le_trans (Nat.le_trans hs ?_) hg.size
    simp [World.setCell]
  · have hi1 : i < w1.heap.size := Nat.lt_of_lt_of_le hi g0.size
    refine (hg.block i (by simp [World.setCell]; omega) (fun e => by have := (o1.lt i e.symm).1; omega)).trans ?_
    refine (Below.heap_alloc _ _ i (by simpa [World.setCell] using hi1)).trans ?_
    exact (g1.block i hi1 hne).trans (g0.block i hi hne)
theorem Sp.own2 {wl w w1 : World} {gs m x : Nat} {S : Nat → Bool} {F : List Nat} {v : Value} (h : Sp wl w gs m S F v w1) (hgs : gs < w.heap.size) (o : Obj) : ((w1.setCell ⟨gs, x, none⟩ (.bool true)).alloc o).ownsRow w.heap.size 3 1 v F.length (zc F) :=
  (h.own.kept (grown_one w1 gs x (.bool true)) (by
    cases hv : v.ownBlock with
    | none => exact .inl rfl
    | some b => exact .inr (fun e => by have := (h.own.lt b hv).1; have := Option.some.inj e; omega))).alloc o
def SpreadR (wl w : World) (gs m : Nat) (S : Nat → Bool) (F : List Nat) (e : Ending) (w' : World) : Prop := ∃ v, e = .returned v ∧ Sp wl w gs m S F v w'
set_option maxRecDepth 100000 in
set_option maxHeartbeats 8000000 in
theorem spread_any (wl : World) (n g cg gs cs : Nat) (S : Nat → Bool) (R : List Nat) (vr : Value) (w : World) (hn : Lat.frq n) (hb : Below wl.heap.size wl w) (hnb : Nb wl g n) (hgs : wl.heap.size ≤ gs) (hS : Bs w gs (cn n) S) (hR : NmI w gs vr R) (hlt : ∀ x ∈ R, x < cn n)
    (hlen : R.length ≤ 642) (hcg : cn n ≤ cg) (hcg2 : cg ≤ 9223372036854775807) (hcs : cn n ≤ cs) (hcs2 : cs ≤ 9223372036854775807) :
    Calls Tryz.prog 87 #[vr, .slice (some ⟨g, 0, none⟩) (cn n) cg, .slice (some ⟨gs, 0, none⟩) (cn n) cs] w (SpreadR wl w gs (cn n) S (Lat.fnd S (R.flatMap (Lat.nbs n)))) := by
  have hc := cn_le hn
  obtain ⟨i0, hi, hz0, hz1, hz2⟩ := info_parts infoInt0
  obtain ⟨A, cap, rfl, hr1, hr2, hr3⟩ := hR
  have HR := Lib.hid hr3; clear hr3
  have HN := Lib.hid hn; clear hn
  have HB := Lib.hid hb; clear hb
  have HNB := Lib.hid hnb; clear hnb
  have HGS := Lib.hid hgs; clear hgs
  have HGL := Lib.hid hS.lt
  have HLT := Lib.hid hlt; clear hlt
  have H0 : Hid (Sp wl w gs (cn n) S (Lat.fnd S ((R.take 0).flatMap (Lat.nbs n))) (.slice none 0 0) w) := Lib.hid ⟨grown_refl _ _, hS.same (fun x => by simp [Lat.fnd_nil]), by simpa [Lat.fnd_nil, zc] using World.ownsRow_nil w w.heap.size 3 1⟩
  clear hS
  go_enter Tryz.func87, Tryz.ntmps87
  go_wp2_with fail
  go_loopw [7, 14] (fun v t wr => ∃ i : Nat, i ≤ R.length ∧ t = .int .i64 i ∧ Sp wl w gs (cn n) S (Lat.fnd S ((R.take i).flatMap (Lat.nbs n))) v wr) (fun _ t _ => R.length - (intOf t).toNat)
  case atStart => exact ⟨0, by omega, rfl, H0.out⟩
  case round =>
    clear H0
    obtain ⟨i, hi', rfl, M⟩ := hrel
    by_cases hlt : i < R.length
    · have k0 : (0 : Int) ≤ (i : Int) := by omega
      have k1 : (i : Int) < (R.length : Int) := by omega
      obtain ⟨b, rfl, hbx, hbl, hcell⟩ := HR.out i hlt
      have p0 : wr.cell? ⟨b, i, none⟩ = some (.int .i64 (R[i] : Int)) := (M.gr.cell_far ⟨b, i, none⟩ hbl (fun e => hbx (Option.some.inj e))).trans hcell
      have hri := HLT.out R[i] (List.getElem_mem hlt)
      have HNX := Lib.hid (Lat.flat_next (n := n) hlt)
      have HFS := Lib.hid (fun j (hj : j < (Lat.nbs n R[i]).length) => Lat.flat_snoc (n := n) hlt hj)
      generalize R[i] = r at *
      have r0 : (0 : Int) ≤ (r : Int) := by omega
      have r1 : (r : Int) < (cn n : Int) := by omega
      have HRI := Lib.hid hri; clear hri
      obtain ⟨vn, q0w, bn, cn', rfl, hn1, hn2, hn3⟩ := HNB.out.at_ r HRI.out
      have q0 := ((M.below HB.out HGS.out).cell (p := ⟨g, r, none⟩) HNB.out.lt).trans q0w
      have hl6 := Lat.nbs_len HN.out HRI.out
      have HIN := Lib.hid (fun b (h : b ∈ Lat.nbs n r) => (Lat.nbs_in HN.out HRI.out h).1)
      have HN3 := Lib.hid hn3
      clear hn3 hcell q0w
      generalize hx : (R.take i).flatMap (Lat.nbs n) = X at *
      have HX := Lib.hid hx; clear hx
      have HM : Hid (Sp wl w gs (cn n) S (Lat.fnd S (X ++ (Lat.nbs n r).take 0)) «u7» wr) := Lib.hid (by simpa using M)
      clear M
      have HALL := Lib.hid (fun y (hy : y ∈ X ++ Lat.nbs n r) => (show y < cn n from by
        rcases List.mem_append.1 hy with hy | hy
        · rw [← HX.out, List.mem_flatMap] at hy
          obtain ⟨q, hq, hy⟩ := hy
          exact (Lat.nbs_in HN.out (HLT.out q (List.mem_of_mem_take hq)) hy).1
        · exact HIN.out y hy))
      have HSUB := Lib.hid (fun (j : Nat) (y : Nat) (hy : y ∈ X ++ (Lat.nbs n r).take j) => (show y ∈ X ++ Lat.nbs n r from by
        rcases List.mem_append.1 hy with hy | hy
        · exact List.mem_append_left _ hy
        · exact List.mem_append_right _ (List.mem_of_mem_take hy)))
      generalize hL : Lat.nbs n r = L at *
      have HL := Lib.hid hL; clear hL
      go_wp2_with fail
      clear p0 q0
      go_loopw [7, 23] (fun v t wr => ∃ j : Nat, j ≤ L.length ∧ t = .int .i64 j ∧ Sp wl w gs (cn n) S (Lat.fnd S (X ++ L.take j)) v wr) (fun _ t _ => L.length - (intOf t).toNat)
      case atStart => exact ⟨0, by omega, rfl, HM.out⟩
      case round =>
        clear HM
        obtain ⟨j, hj, rfl, M⟩ := hrel
        by_cases hlj : j < L.length
        · have j0 : (0 : Int) ≤ (j : Int) := by omega
          have j1 : (j : Int) < (L.length : Int) := by omega
          have p1 := (HN3.out.under (M.below HB.out HGS.out)).at_ j hlj
          have hxin := HIN.out _ (List.getElem_mem hlj)
          have HF := Lib.hid (HFS.out j hlj)
          generalize L[j] = x at *
          have x0 : (0 : Int) ≤ (x : Int) := by omega
          have x1 : (x : Int) < (cn n : Int) := by unfold cn; omega
          have HXI := Lib.hid (show x < cn n from hxin); clear hxin
          have HFN := Lib.hid (Lat.fnd_snoc S (X ++ L.take j) x)
          rw [← HF.out] at HFN
          obtain ⟨q1, q2⟩ := M.bs.at_ HXI.out
          have HFL := Lib.hid (show (Lat.fnd S (X ++ L.take j)).length ≤ 642 from Nat.le_trans (Lat.len_lt (m := cn n) (Lat.fnd_spec S _).1 (fun y hy => HALL.out y (HSUB.out j y ((Lat.fnd_spec S _).2 y |>.1 hy).2))) hc)
          generalize Lat.fnd S (X ++ L.take j) = F at *
          cases hs : (S x || F.contains x)
          · rw [hs] at q1
            have HS := Lib.hid hs; clear hs
            have HM := Lib.hid M; clear M
            have HO := Lib.hid (HM.out.own2 (x := x) HGL.out (.cells #[.int .i64 (x : Int)] 3))
            go_wp2_with (at_builtin; refine wpList_append_lies _ rfl (.tmp 35) (.tmp 37) 23 rfl w.heap.size 3 i0 _ 1 8 Tryz.underlying23 hi hz0 hz1 hz2 rfl (by decide) «u7» F.length (zc F) rfl HO.out ⟨wr.heap.size, 0, none⟩ 1 1 [.int .i64 (x : Int)] rfl rfl (World.news_of_block (cs := #[.int .i64 (x : Int)]) (t := 3) (fr := (0, 0)) (by have := heap_alloc_new (wr.setCell ⟨gs, x, none⟩ (.bool true)) (.cells #[.int .i64 (x : Int)] 3); simpa [World.setCell] using this)) (by simp [Value.oneCell']) (by omega) (by have := HFL.out; unfold maxLen; omega) (by have := HFL.out; omega) (by have := HM.out.gr.size; simp [World.setCell]; omega) _ rfl ?_; intro g' cap' w6 hown6 hgrow6 hat6 hlt6; have H6 := Lib.hid (HM.out.more HXI.out HM.out.gr.size HGL.out hown6 hgrow6); clear hown6 hgrow6 hat6 hlt6 HO HM q1 q2 p1)
            go_wp2_with fail
            go_roundw
            case rel => exact ⟨j + 1, by omega, by go_num, by rw [HFN.out, HS.out]; exact H6.out⟩
            case measure => simp [intOf]; omega
          · rw [hs] at q1
            have HS := Lib.hid hs; clear hs
            have HM := Lib.hid M; clear M
            go_wp2_with fail
            go_roundw
            case rel => exact ⟨j + 1, by omega, by go_num, by rw [HFN.out, HS.out]; exact HM.out⟩
            case measure => simp [intOf]; omega
        · have j1 : ¬ ((j : Int) < (L.length : Int)) := by omega
          have hje : j = L.length := by omega
          have HM := Lib.hid M; clear M
          have HJE := Lib.hid hje; clear hje
          go_wp2_with fail
          go_roundw
          case rel => exact ⟨i + 1, by omega, by go_num, by have := HM.out; rw [HJE.out, List.take_length] at this; rw [HNX.out]; exact this⟩
          case measure => simp [intOf]; omega
    · have k1 : ¬ ((i : Int) < (R.length : Int)) := by omega
      have hie : i = R.length := by omega
      have HM := Lib.hid M; clear M
      have HIE := Lib.hid hie; clear hie
      go_wp2_with fail
      go_ret
      exact ⟨_, rfl, by have := HM.out; rw [HIE.out, List.take_length] at this; exact this⟩
end Go.Proofs.YtejoabaanclcbaaGreat


