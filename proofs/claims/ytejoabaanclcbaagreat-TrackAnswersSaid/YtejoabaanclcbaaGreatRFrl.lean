/- The contract of the reference's FromList: how far each node is from one, by a queue. -/
import Derived.Test.YtejoabaanclcbaaGreatQao
import Derived.Test.YtejoabaanclcbaaGreatQan
namespace Go.Proofs.YtejoabaanclcbaaGreat
open Go.RowKit Go.Maps Go.Shelf

/-- Block g holds m numbers. -/
def Ns (w : World) (g m : Nat) (X : Nat → Int) : Prop := ∃ cs, Row w g 3 cs ∧ cs.size = m ∧ ∀ i, i < m → cs[i]? = some (.int .i64 (X i))
section
variable {w w' : World} {g m : Nat} {X X' : Nat → Int}
theorem Ns.at_ (h : Ns w g m X) {i : Nat} (hi : i < m) : w.cell? ⟨g, i, none⟩ = some (.int .i64 (X i)) ∧ w.frozen? ⟨g, i, none⟩ = false := by
  obtain ⟨cs, h1, h2, h3⟩ := h
  exact ⟨(h1.cell i).trans (h3 i hi), h1.thaw i⟩
theorem Ns.set (h : Ns w g m X) {i : Nat} (hi : i < m) (y : Int) : Ns (w.setCell ⟨g, i, none⟩ (.int .i64 y)) g m (fun x => if x = i then y else X x) := by
  obtain ⟨cs, h1, h2, h3⟩ := h
  refine ⟨_, h1.put i _, by simpa using h2, fun j hj => ?_⟩
  by_cases e : j = i
  · subst e
    rw [Array.getElem?_setIfInBounds, if_pos rfl, if_pos (by omega)]
    simp
  · rw [Array.getElem?_setIfInBounds, if_neg (fun e' => e e'.symm), h3 j hj]
    simp [e]
theorem Ns.same (h : Ns w g m X) (e : ∀ x, x < m → X x = X' x) : Ns w g m X' := by
  obtain ⟨cs, h1, h2, h3⟩ := h
  exact ⟨cs, h1, h2, fun i hi => by rw [h3 i hi, e i hi]⟩
theorem Ns.grown {r : Option Nat} (h : Ns w g m X) (hg : w.grownBy w' r) (hr : some g ≠ r) : Ns w' g m X := by
  obtain ⟨cs, h1, h2, h3⟩ := h
  exact ⟨cs, h1.grown hg hr, h2, h3⟩
theorem Ns.under (h : Ns w g m X) (hb : Below w.heap.size w w') : Ns w' g m X := by
  obtain ⟨cs, h1, h2, h3⟩ := h
  exact ⟨cs, h1.under hb, h2, h3⟩
theorem Ns.lt (h : Ns w g m X) : g < w.heap.size := by
  obtain ⟨cs, h1, -⟩ := h
  exact h1.lt
end
theorem ns_made (w : World) (m : Nat) : Ns (w.alloc (.cells (madeCells #[.int .i64 0] m) 3)) w.heap.size m (fun _ => 0) :=
  ⟨_, Row.new _ _ _, size_madeCells _ _, fun i hi => by simp [madeCells, hi, Nat.mod_one]⟩
/-- What is known while the queue is gone through. -/
structure Fl (W : World) (n go : Nat) (D : Nat → Nat) (Q : List Nat) (v : Value) (w : World) : Prop where
  below : Below W.heap.size W w
  ns : Ns w go (cn n) (fun x => if x ∈ Q then (D x : Int) else -1)
  own : w.ownsRow (go + 1) 3 1 v Q.length (zc Q)
  far : W.heap.size ≤ go
section
variable {W w w' : World} {n go : Nat} {D : Nat → Nat} {Q : List Nat} {v v' : Value}
theorem Fl.own2 (h : Fl W n go D Q v w) (x : Nat) (y : Int) (o : Obj) : ((w.setCell ⟨go, x, none⟩ (.int .i64 y)).alloc o).ownsRow (go + 1) 3 1 v Q.length (zc Q) :=
  (h.own.kept (grown_one w go x _) (by
    cases hv : v.ownBlock with
    | none => exact .inl rfl
    | some b => exact .inr (fun e => by have := (h.own.lt b hv).1; have := Option.some.inj e; omega))).alloc o
theorem Fl.more {x : Nat} {y : Int} (h : Fl W n go D Q v w) (hx : x < cn n) (hy : y = (D x : Int)) (ho : w'.ownsRow (go + 1) 3 1 v' (Q.length + 1) (zc Q ++ [.int .i64 (x : Int)])) (hg : ((w.setCell ⟨go, x, none⟩ (.int .i64 y)).alloc (.cells #[.int .i64 (x : Int)] 3)).grownBy w' v.ownBlock) : Fl W n go D (Q ++ [x]) v' w' := by
  have g1 := grown_one w go x (.int .i64 y)
  have o2 := h.own2 x y (.cells #[.int .i64 (x : Int)] 3)
  have b1 : Below W.heap.size W (w.setCell ⟨go, x, none⟩ (.int .i64 y)) := below_by h.below h.below.size h.far g1
  have b2 := b1.alloc b1.size (.cells #[.int .i64 (x : Int)] 3)
  have n1 : Ns (w.setCell ⟨go, x, none⟩ (.int .i64 y)) go (cn n) (fun z => if z ∈ Q ++ [x] then (D z : Int) else -1) := (h.ns.set hx y).same (fun z _ => by
    by_cases e : z = x
    · rw [if_pos e, if_pos (by simp [e]), hy, e]
    · simp [e])
  have n2 := n1.under ((Below.refl _ _).alloc (Nat.le_refl _) (.cells #[.int .i64 (x : Int)] 3))
  exact ⟨below_own b2 b2.size ⟨o2.1, o2.2.imp id (fun ⟨g, c, cur, e, hb, r⟩ => ⟨g, c, cur, e, by have := h.far; omega, r⟩)⟩ hg, n2.grown hg (fun e => by have := (o2.lt go e.symm).1; omega), by rw [zc_snoc, List.length_append]; exact ho, h.far⟩
theorem Fl.form (h : Fl W n go D Q v w) {i : Nat} (hi : i < Q.length) : ∃ b cap, v = .slice (some ⟨b, 0, none⟩) Q.length cap ∧ Q.length ≤ cap ∧ cap ≤ 9223372036854775807 ∧ b < w.heap.size ∧ w.cell? ⟨b, i, none⟩ = some (.int .i64 (Q[i] : Int)) := by
  obtain ⟨A, cap, rfl, h1, h2, h3⟩ := nmi_own (x := go) h.own (fun b hb => by have := (h.own.lt b hb).1; omega)
  obtain ⟨b, rfl, -, hb, hc⟩ := h3 i hi
  exact ⟨b, cap, rfl, h1, h2, hb, hc⟩
end
/-- What FromList leaves. -/
def FlR (W : World) (n : Nat) (D : Nat → Nat) (e : Ending) (w : World) : Prop := ∃ g, e = .returned (.slice (some ⟨g, 0, none⟩) (cn n) (cn n)) ∧ Below W.heap.size W w ∧ W.heap.size ≤ g ∧ Ns w g (cn n) (fun x => (D x : Int))
set_option maxRecDepth 100000 in
set_option maxHeartbeats 8000000 in
theorem fromList_any (n g cg a : Nat) (D : Nat → Nat) (w : World) (hn : Lat.frq n) (ha : a < cn n) (hnb : Nb w g n) (hD : Lat.Far n a D) (hDb : ∀ x, x < cn n → D x ≤ 100000) (_hcg : cn n ≤ cg) (_hcg2 : cg ≤ 9223372036854775807) :
    Calls Tryz.prog 63 #[.slice (some ⟨g, 0, none⟩) (cn n) cg, .int .i64 (a : Int)] w (FlR w n D) := by
  have hc := cn_le hn
  obtain ⟨i0, hi, hz0, hz1, hz2⟩ := info_parts infoInt0
  have a0 : (0 : Int) ≤ (a : Int) := by omega
  have a1 : (a : Int) < (cn n : Int) := by omega
  have hmk := run_make_row' (P := Tryz.prog) 23 3 (.int .i64 0) 8 Tryz.underlying23 infoInt0 rfl .i64 .i64 (cn n) (by omega) (by omega)
  have HN := Lib.hid hn; clear hn
  have HA := Lib.hid ha; clear ha
  have HNB := Lib.hid hnb; clear hnb
  have HD := Lib.hid hD; clear hD
  have HDB := Lib.hid hDb; clear hDb
  have hDa : D a = 0 := (Lat.dist_zero (HD.out a HA.out)).2 rfl
  have HDA := Lib.hid hDa; clear hDa
  go_enter Tryz.func63, Tryz.ntmps63
  go_upto_region 2 with fail
  refine forget (fun Y => Below w.heap.size w Y ∧ Ns Y w.heap.size (cn n) (fun x => if x < 0 then -1 else 0)) ⟨(Below.refl _ _).alloc (Nat.le_refl _) _, (ns_made _ _).same (fun x _ => by simp)⟩ ?_
  clear hmk
  rintro Y hY
  have HY := Lib.hid hY; clear hY
  go_wp2_with fail
  go_loopw [6] (fun t wr => ∃ k : Nat, k ≤ cn n ∧ t = .int .i64 k ∧ Below w.heap.size w wr ∧ Ns wr w.heap.size (cn n) (fun x => if x < k then -1 else 0)) (fun t _ => cn n - (intOf t).toNat)
  case atStart => exact ⟨0, by omega, rfl, HY.out⟩
  case round =>
    clear HY
    obtain ⟨k, hk, rfl, M, N⟩ := hrel
    by_cases hlt : k < cn n
    · have k0 : (0 : Int) ≤ (k : Int) := by omega
      have k1 : (k : Int) < (cn n : Int) := by omega
      obtain ⟨q0, q1⟩ := N.at_ hlt
      have H1 : Hid (Below w.heap.size w (wr.setCell ⟨w.heap.size, k, none⟩ (.int .i64 (-1))) ∧ Ns (wr.setCell ⟨w.heap.size, k, none⟩ (.int .i64 (-1))) w.heap.size (cn n) (fun x => if x < k + 1 then -1 else 0)) := Lib.hid ⟨below_by M M.size (Nat.le_refl _) (grown_one _ _ _ _), (N.set hlt (-1)).same (fun x _ => by
        by_cases e : x = k
        · subst e; simp
        · rw [if_neg e]
          by_cases e2 : x < k
          · rw [if_pos e2, if_pos (by omega)]
          · rw [if_neg e2, if_neg (by omega)])⟩
      clear M N
      go_wp2_with fail
      go_roundw
      case rel => exact ⟨k + 1, by omega, by go_num, H1.out⟩
      case measure => simp [intOf]; omega
    · have k1 : ¬ ((k : Int) < (cn n : Int)) := by omega
      have hke : k = cn n := by omega
      obtain ⟨q0, q1⟩ := N.at_ HA.out
      have H1 : Hid (Below w.heap.size w (wr.setCell ⟨w.heap.size, a, none⟩ (.int .i64 0)) ∧ Ns (wr.setCell ⟨w.heap.size, a, none⟩ (.int .i64 0)) w.heap.size (cn n) (fun x => if x ∈ [a] then (D x : Int) else -1)) := Lib.hid ⟨below_by M M.size (Nat.le_refl _) (grown_one _ _ _ _), (N.set HA.out 0).same (fun x hx => by
        by_cases e : x = a
        · subst e; simp [HDA.out]
        · rw [if_neg e, if_pos (by omega), if_neg (by simpa using e)])⟩
      clear M N hke
      go_upto_region 7 with fail
      refine forget (fun Y => Below w.heap.size w Y ∧ Ns Y w.heap.size (cn n) (fun x => if x ∈ [a] then (D x : Int) else -1)) H1.out ?_
      clear H1 q0 q1 k1 hk hlt
      rintro Y ⟨y1, y2⟩
      have hlY := y2.lt
      have HY := Lib.hid (And.intro y1 y2); clear y1 y2
      go_upto_region 8 with fail
      have hp0 : Fl w n w.heap.size D [a] (.slice (some ⟨Y.heap.size, 0, none⟩) 1 1) (Y.alloc (.cells #[.int .i64 (a : Int)] 3)) := ⟨HY.out.1.alloc HY.out.1.size _, HY.out.2.under ((Below.refl _ _).alloc (Nat.le_refl _) _), World.ownsRow_lit Y #[.int .i64 (a : Int)] 1 (by omega) (by decide) (by simp), Nat.le_refl _⟩
      refine forget (fun Z => Fl w n w.heap.size D [a] (.slice (some ⟨Y.heap.size, 0, none⟩) 1 1) Z) hp0 ?_
      clear hp0 HY hlY
      generalize Y.heap.size = gy at *
      rintro Z hZ
      have HZ := Lib.hid hZ; clear hZ
      go_wp2_with fail
      go_loopw [7, 8] (fun v t wr => ∃ (i : Nat) (Q : List Nat), i ≤ Q.length ∧ t = .int .i64 i ∧ Lat.Que n a D Q i ∧ Fl w n w.heap.size D Q v wr) (fun _ t _ => cn n - (intOf t).toNat)
      case atStart => exact ⟨0, [a], by simp, rfl, Lat.Que.start HA.out HD.out, HZ.out⟩
      case round =>
        clear HZ
        obtain ⟨i, Q, hi', rfl, hQ, M⟩ := hrel
        have hql : Q.length ≤ cn n := Lat.Que.len hQ
        by_cases hlt : i < Q.length
        · have i0' : (0 : Int) ≤ (i : Int) := by omega
          have i1 : (i : Int) < (Q.length : Int) := by omega
          obtain ⟨b, cap, rfl, b1, b2, b3, p0⟩ := M.form hlt
          have HRI := Lib.hid (show Q[i] < cn n from hQ.lt _ (List.getElem_mem hlt))
          have HQ : Hid (∃ h : i < Q.length, Q[i] = Q[i]) := Lib.hid ⟨hlt, rfl⟩
          generalize hr : Q[i] = r at p0 HRI
          have HQR : Hid (∃ h : i < Q.length, Q[i] = r) := Lib.hid ⟨hlt, hr⟩
          clear hr HQ
          have r0 : (0 : Int) ≤ (r : Int) := by omega
          have r1 : (r : Int) < (cn n : Int) := by have := HRI.out; omega
          obtain ⟨vn, q0w, bn, cn', rfl, hn1, hn2, hn3⟩ := HNB.out.at_ r HRI.out
          have q0 := (M.below.cell (p := ⟨g, r, none⟩) HNB.out.lt).trans q0w
          have hl6 := Lat.nbs_len HN.out HRI.out
          have HIN := Lib.hid (fun b (h : b ∈ Lat.nbs n r) => (Lat.nbs_in HN.out HRI.out h).1)
          have HN3 := Lib.hid hn3
          clear hn3 q0w
          generalize hL : Lat.nbs n r = L at *
          have HL := Lib.hid hL; clear hL
          have HQQ := Lib.hid hQ; clear hQ
          have HM := Lib.hid M; clear M
          go_wp2_with fail
          clear p0 q0 i1 b1 b2 b3
          go_loopw [7, 42] (fun v t wr => ∃ (j : Nat) (Q : List Nat), j ≤ L.length ∧ t = .int .i64 j ∧ Lat.Que n a D Q i ∧ (∃ h : i < Q.length, Q[i] = r) ∧ (∀ b ∈ L.take j, b ∈ Q) ∧ Fl w n w.heap.size D Q v wr) (fun _ t _ => L.length - (intOf t).toNat)
          case atStart => exact ⟨0, Q, by omega, rfl, HQQ.out, HQR.out, by simp, HM.out⟩
          case round =>
            clear HM HQQ HQR hi' hlt hql
            obtain ⟨j, Q, hj, rfl, hQ, hqr, hall, M⟩ := hrel
            by_cases hlj : j < L.length
            · have j0 : (0 : Int) ≤ (j : Int) := by omega
              have j1 : (j : Int) < (L.length : Int) := by omega
              have p1 := (HN3.out.under M.below).at_ j hlj
              have hxin := HIN.out _ (List.getElem_mem hlj)
              have hxn : L[j] ∈ Lat.nbs n r := by rw [HL.out]; exact List.getElem_mem hlj
              have HTK := Lib.hid (show L.take (j + 1) = L.take j ++ [L[j]] from List.take_succ_eq_append_getElem hlj)
              generalize L[j] = x at *
              have x0 : (0 : Int) ≤ (x : Int) := by omega
              have x1 : (x : Int) < (cn n : Int) := by unfold cn; omega
              have HXI := Lib.hid (show x < cn n from hxin); clear hxin
              obtain ⟨q1, q2⟩ := M.ns.at_ HXI.out
              by_cases hs : x ∈ Q
              · rw [if_pos hs] at q1
                have d0 : ¬ ((D x : Int) < 0) := by omega
                have HS := Lib.hid (And.intro hQ (And.intro hqr (And.intro hall (And.intro M hs)))); clear hQ hqr hall M hs hxn
                generalize D x = dx at *
                go_wp2_with fail
                go_roundw
                case rel => exact ⟨j + 1, Q, by omega, by go_num, HS.out.1, HS.out.2.1, fun b hb => by
                  rw [HTK.out, List.mem_append, List.mem_singleton] at hb
                  rcases hb with hb | rfl
                  · exact HS.out.2.2.1 b hb
                  · exact HS.out.2.2.2.2, HS.out.2.2.2.1⟩
                case measure => simp [intOf]; omega
              · rw [if_neg hs] at q1
                obtain ⟨hiQ, hri⟩ := hqr
                obtain ⟨b, cap, rfl, b1, b2, b3, p0⟩ := M.form hiQ
                rw [hri] at p0
                have hrQ : r ∈ Q := by rw [← hri]; exact List.getElem_mem hiQ
                have p2 := (M.ns.at_ HRI.out).1
                rw [if_pos hrQ] at p2
                have hnew : D x = D r + 1 := by have := Lat.Que.new HN.out HA.out HD.out hQ hiQ (b := x) (by rw [hri]; exact hxn) hs; rw [hri] at this; exact this
                have hdr := HDB.out r HRI.out
                have HQ2 := Lib.hid (Lat.Que.snoc HN.out HA.out HD.out hQ hiQ (b := x) (by rw [hri]; exact hxn) hs)
                have hq2 : (Q ++ [x]).length ≤ cn n := Lat.Que.len HQ2.out
                have hq3 : Q.length + 1 ≤ cn n := by simpa using hq2
                clear hq2
                have i1 : (i : Int) < (Q.length : Int) := by omega
                have HALL := Lib.hid hall
                have HRQ : Hid (∃ h : i < (Q ++ [x]).length, (Q ++ [x])[i] = r) := Lib.hid ⟨by rw [List.length_append]; omega, by rw [List.getElem_append_left hiQ]; exact hri⟩
                have HY : Hid ((D r : Int) + 1 = (D x : Int)) := Lib.hid (by omega)
                clear hQ hri hrQ hall hxn hs hnew
                generalize (D r) = dr at *
                have w1 : IntKind.i64.wrap ((dr : Int) + 1) = (dr : Int) + 1 := IntWalk.i64_in _ (by omega)
                have HM := Lib.hid M; clear M
                have hbW := HM.out.below.size
                have hlw := HM.out.ns.lt
                have HO := Lib.hid (HM.out.own2 x ((dr : Int) + 1) (.cells #[.int .i64 (x : Int)] 3))
                go_wp2_with (at_builtin; refine wpList_append_lies _ rfl (.tmp 62) (.tmp 64) 23 rfl (w.heap.size + 1) 3 i0 _ 1 8 Tryz.underlying23 hi hz0 hz1 hz2 rfl (by decide) (.slice (some ⟨b, 0, none⟩) Q.length cap) Q.length (zc Q) rfl HO.out ⟨wr.heap.size, 0, none⟩ 1 1 [.int .i64 (x : Int)] rfl rfl (World.news_of_block (cs := #[.int .i64 (x : Int)]) (t := 3) (fr := (0, 0)) (by have := heap_alloc_new (wr.setCell ⟨w.heap.size, x, none⟩ (.int .i64 ((dr : Int) + 1))) (.cells #[.int .i64 (x : Int)] 3); simpa [World.setCell] using this)) (by simp [Value.oneCell']) (by omega) (by unfold maxLen; omega) (by omega) (by simp [World.setCell]; omega) _ rfl ?_; intro g' cap' w6 hown6 hgrow6 hat6 hlt6; have H6 := Lib.hid (HM.out.more HXI.out HY.out hown6 hgrow6); clear hown6 hgrow6 hat6 hlt6 HO HM q1 q2 p1 p0 p2)
                go_wp2_with fail
                go_roundw
                case rel => exact ⟨j + 1, Q ++ [x], by omega, by go_num, HQ2.out, HRQ.out, fun b hb => by
                  rw [HTK.out, List.mem_append, List.mem_singleton] at hb
                  rcases hb with hb | rfl
                  · exact List.mem_append_left _ (HALL.out b hb)
                  · exact List.mem_append_right _ (List.mem_singleton.2 rfl), H6.out⟩
                case measure => simp [intOf]; omega
            · have j1 : ¬ ((j : Int) < (L.length : Int)) := by omega
              have hje : j = L.length := by omega
              rw [hje, List.take_length] at hall
              obtain ⟨hiQ, hri⟩ := hqr
              have HQ2 := Lib.hid (Lat.Que.next hQ hiQ (fun b hb => hall b (by rw [hri, HL.out] at hb; exact hb)))
              have hql : Q.length ≤ cn n := Lat.Que.len hQ
              have HM := Lib.hid M; clear M hje hQ hri hall
              go_wp2_with fail
              go_roundw
              case rel => exact ⟨i + 1, Q, by omega, by go_num, HQ2.out, HM.out⟩
              case measure => simp [intOf]; omega
        · have i1 : ¬ ((i : Int) < (Q.length : Int)) := by omega
          have hie : i = Q.length := by omega
          rw [hie] at hQ
          have HF := Lib.hid (M.ns.same (X' := fun x => (D x : Int)) (fun x hx => by rw [if_pos (Lat.Que.fin HN.out HA.out HD.out hQ _ x hx rfl)]))
          have HB := Lib.hid M.below
          obtain ⟨b, cap, rfl, b1, b2, b3, -⟩ := M.form (List.length_pos_of_mem hQ.st)
          clear M hQ hie
          go_wp2_with fail
          go_ret
          exact ⟨_, rfl, HB.out, Nat.le_refl _, HF.out⟩
end Go.Proofs.YtejoabaanclcbaaGreat


