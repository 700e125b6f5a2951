/- The contract of data.Table. -/
import Derived.Test.YtjaopjhfjijdaaaDoorDb
import Derived.Test.YtjaopjhfjijdaaaDoorRDesc
namespace Go.Proofs.YtjaopjhfjijdaaaDoor
open Go.RowKit

theorem EsP.snoc {es : List En} (h : EsP es) {k : Nat} (hk : es.length = k) (h11 : k < 11) {wd sc : Int} (h1 : 2 ≤ wd) (h2 : wd ≤ 24) (h3 : 1 ≤ sc) (h4 : sc ≤ 1000) : EsP (es ++ [(100 * ((k : Int) + 1), (k : Int) + 1, wd, sc, Elt.lo ((k : Int) + 1))]) := by
  intro i hi
  by_cases hlt : i < es.length
  · rw [List.getElem_append_left hlt]; exact h i hlt
  · have e : i = es.length := by simp at hi; omega
    subst e
    rw [List.getElem_append_right (Nat.le_refl _)]
    simp only [Nat.sub_self, List.getElem_cons_zero]
    have hx : Elt.Ex ((k : Int) + 1) := ⟨by omega, by omega⟩
    obtain ⟨⟨f1, f2, f3, -⟩, -⟩ := Elt.facts hx
    exact ⟨by omega, hx, knd_1.2 ⟨by omega, by omega⟩, h1, h2, h3, h4, by simp only; omega, by simp only; omega⟩
theorem LsP.snoc {L : List (Int × Value)} (h : LsP L) (hl : L.length < 3) (v : Value) : LsP (L ++ [(10000 + (L.length : Int), v)]) := by
  refine ⟨by simp; omega, fun i hi => ?_⟩
  by_cases hlt : i < L.length
  · rw [List.getElem_append_left hlt]; exact h.2 i hlt
  · have e : i = L.length := by simp at hi; omega
    subst e
    rw [List.getElem_append_right (Nat.le_refl _)]
    simp only [Nat.sub_self, List.getElem_cons_zero]
theorem src_lt {W w : World} {b : Nat} (h : Src W b w) : b < w.heap.size := by
  obtain ⟨_, _, _, _, _, _, h3, _⟩ := h.row
  exact (Array.getElem?_eq_some_iff.1 h3).1
/-- The boxes at the start. -/
theorem Dt.start {W w : World} {b : Nat} (h : Src W b w) (ver : Int) : Dt W w b w.heap.size (w.heap.size + 1) ver [] [] (fun _ _ => False) ((w.alloc (.cells #[.int .i64 0, .slice none 0 0, .slice none 0 0] 25)).alloc (.cells #[.int .i64 ver, .slice none 0 0, .slice none 0 0] 25)) := by
  have hb : Below w.heap.size w ((w.alloc (.cells #[.int .i64 0, .slice none 0 0, .slice none 0 0] 25)).alloc (.cells #[.int .i64 ver, .slice none 0 0, .slice none 0 0] 25)) := alloc_below ((Below.refl _ _).alloc (Nat.le_refl _) _) (by simp) _
  exact ⟨h.under hb, grown_below hb, src_lt h, Nat.le_refl _, by omega, by omega, (Row.new _ _ _).alloc _, ⟨_, _, Row.newAt (by simp), World.ownsRow_nil _ _ _ _, World.ownsRow_nil _ _ _ _⟩, fun j hj => absurd hj (Nat.not_lt_zero _)⟩
/-- The state while an entry is made, in its box g9. -/
def De (W w : World) (b g4 g5 : Nat) (ver : Int) (es : List En) (L : List (Int × Value)) (P : Nat → Nat → Prop) (g9 : Nat) (x : En) (Y : World) : Prop :=
  Dt W w b g4 g5 ver es L P Y ∧ Row Y g9 47 #[.int .i64 x.1, .int .i64 x.2.1, .int .i64 x.2.2.1, .int .i64 x.2.2.2.1, .int .i64 x.2.2.2.2] ∧ w.heap.size ≤ g9 ∧ g9 ≠ b ∧ ∃ v u, Row Y g5 25 #[.int .i64 ver, v, u] ∧ Y.ownsRow w.heap.size 47 5 v es.length (rowE es) ∧ Y.ownsRow w.heap.size 58 2 u L.length (rowS L) ∧ v.ownBlock ≠ some g9
theorem De.start {W w X : World} {b g4 g5 : Nat} {ver : Int} {es : List En} {L : List (Int × Value)} {P : Nat → Nat → Prop} (h : Dt W w b g4 g5 ver es L P X) (x : En) : De W w b g4 g5 ver es L P X.heap.size x (X.alloc (.cells #[.int .i64 x.1, .int .i64 x.2.1, .int .i64 x.2.2.1, .int .i64 x.2.2.2.1, .int .i64 x.2.2.2.2] 47)) := by
  have hb := (Below.refl X.heap.size X).alloc (Nat.le_refl _) (.cells #[.int .i64 x.1, .int .i64 x.2.1, .int .i64 x.2.2.1, .int .i64 x.2.2.2.1, .int .i64 x.2.2.2.2] 47)
  obtain ⟨v, u, r, o1, o2⟩ := h.row
  have h1 := h.bl
  have h2 := h.gro.size
  exact ⟨h.under hb, Row.new _ _ _, h2, by omega, v, u, r.under hb, own_under o1 hb, own_under o2 hb, fun q => by have := (o1.lt _ q).2; omega⟩
theorem De.step {W w Y Y' : World} {b g4 g5 g9 : Nat} {ver : Int} {es : List En} {L : List (Int × Value)} {P : Nat → Nat → Prop} {x : En} (h : De W w b g4 g5 ver es L P g9 x Y) (hs : Src W b Y') (hg : Y.grownBy Y' (some b)) : De W w b g4 g5 ver es L P g9 x Y' := by
  obtain ⟨d, r9, l9, nb, v, u, r, o1, o2, hn⟩ := h
  have l5 := d.l5
  have bl := d.bl
  have k1 : v.ownBlock ≠ some b := fun q => by have := (o1.lt b q).1; omega
  have k2 : u.ownBlock ≠ some b := fun q => by have := (o2.lt b q).1; omega
  exact ⟨d.step hs hg, r9.grown hg (fun q => by injection q with q; exact nb q), l9, nb, v, u, r.grown hg (fun q => by injection q; omega), o1.kept hg (.inr k1), o2.kept hg (.inr k2), hn⟩
theorem De.under {W w Y Y' : World} {b g4 g5 g9 : Nat} {ver : Int} {es : List En} {L : List (Int × Value)} {P : Nat → Nat → Prop} {x : En} (h : De W w b g4 g5 ver es L P g9 x Y) (hb : Below Y.heap.size Y Y') : De W w b g4 g5 ver es L P g9 x Y' := h.step (h.1.src.under hb) (grown_below hb)
theorem De.put {W w Y : World} {b g4 g5 g9 : Nat} {ver : Int} {es : List En} {L : List (Int × Value)} {P : Nat → Nat → Prop} {x y : En} (h : De W w b g4 g5 ver es L P g9 x Y) {j : Nat} {z : Int}
    (he : (#[.int .i64 x.1, .int .i64 x.2.1, .int .i64 x.2.2.1, .int .i64 x.2.2.2.1, .int .i64 x.2.2.2.2] : Array Value).setIfInBounds j (.int .i64 z) = #[.int .i64 y.1, .int .i64 y.2.1, .int .i64 y.2.2.1, .int .i64 y.2.2.2.1, .int .i64 y.2.2.2.2]) : De W w b g4 g5 ver es L P g9 y (Y.setCell ⟨g9, j, none⟩ (.int .i64 z)) := by
  obtain ⟨d, r9, l9, nb, v, u, r, o1, o2, hn⟩ := h
  have n4 := row_ne r9 d.r4 (by decide)
  have n5 := row_ne r9 r (by decide)
  have hW := d.src.base
  have bl := d.bl
  have hu := own_ne o2 r9 (by decide)
  have ku : u.ownBlock = none ∨ u.ownBlock ≠ some g9 := .inr (fun q => hu q.symm)
  have r9' := r9.put j (.int .i64 z)
  rw [he] at r9'
  refine ⟨⟨src_put d.src (by omega) nb, gro_set d.gro l9, bl, d.l4, d.l5, d.n45, d.r4.far (p := ⟨g9, j, none⟩) n4 _, ⟨v, u, r.far (p := ⟨g9, j, none⟩) n5 _, o1.kept grown_put (.inr hn), o2.kept grown_put ku⟩, fun j' hj' => (d.inn j' hj').step grown_put (fun g cur hg' hr' q => by injection q with q; exact row_ne hr' r9 (by decide) q)⟩, r9', l9, nb, v, u, r.far (p := ⟨g9, j, none⟩) n5 _, o1.kept grown_put (.inr hn), o2.kept grown_put ku, hn⟩
theorem sl_of {w : World} {base s n : Nat} {e : TypeId} {v : Value} {xs : List Value} (h : w.ownsRow base e s v n xs) : ∃ A c, v = .slice A n c := by
  rcases h.2 with ⟨rfl, h0⟩ | ⟨g, cap, cur, rfl, _⟩
  · exact ⟨none, 0, by rw [h0]⟩
  · exact ⟨_, cap, rfl⟩
def threeL : List Int := [2, 5, 10]
theorem threeL_ok : ∀ x ∈ threeL, 1 ≤ x ∧ x ≤ 1000 := by decide +kernel
/-- What Table gives. -/
def Tbd (W : World) (b : Nat) (w : World) (ver : Int) (e : Ending) (w' : World) : Prop := ∃ t es ss, e = .returned t ∧ TbO b w.heap.size w' t ver es ss ∧ (es.length = 11 ∧ EsP es) ∧ SsP ss ∧ Src W b w' ∧ w.grownBy w' (some b)
set_option maxRecDepth 100000 in
set_option maxHeartbeats 4000000 in
theorem table_any (W : World) (b : Nat) (w : World) (ver : Int) (h : Src W b w) :
    Calls Tryd.prog 11 #[.pointer (some ⟨b, 0, none⟩), .int .i64 ver] w (Tbd W b w ver) := by
  have D0 := Lib.hid (Dt.start h ver)
  have Z0 : (w.alloc (.cells #[.int .i64 0, .slice none 0 0, .slice none 0 0] 25)).heap.size = w.heap.size + 1 := by simp
  obtain ⟨i0, hi, hz0, hz1, hz2⟩ := info_parts infoEntry
  obtain ⟨j0, hj, hy0, hy1, hy2⟩ := info_parts infoInt
  obtain ⟨m0, hm, hx0, hx1, hx2⟩ := info_parts infoSeq
  clear h
  go_enter Tryd.func11, Tryd.ntmps11
  go_upto_region 2 with fail
  refine forget (fun Y => Hid (Dt W w b w.heap.size (w.heap.size + 1) ver [] [] (fun _ _ => False) Y)) D0 ?_
  clear D0 Z0
  obtain ⟨g4, e4⟩ : ∃ g4, w.heap.size = g4 := ⟨_, rfl⟩
  obtain ⟨g5, e5⟩ : ∃ g5, w.heap.size + 1 = g5 := ⟨_, rfl⟩
  rw [e5, e4]
  intro Y0 J0
  have E45 := Lib.hid e4
  clear e4 e5
  go_wp2_with fail
  go_loopw [6, 7, 8, 9] (fun c _ _ _ wr => ∃ (k : Nat) (es : List En), c = .int .i64 ((k : Int) + 1) ∧ k ≤ 11 ∧ es.length = k ∧ Hid (Dt W w b g4 g5 ver es [] (fun _ _ => False) wr ∧ EsP es)) (fun c _ _ _ _ => 12 - (intOf c).toNat)
  case atStart => exact ⟨0, [], rfl, by omega, rfl, Lib.hid ⟨J0.out, fun i hi => absurd hi (Nat.not_lt_zero _)⟩⟩
  case round =>
    obtain ⟨k, es, rfl, hk, hl0, J⟩ := hrel
    have hl := Lib.hid hl0; clear hl0
    by_cases hlt : k < 11
    · have hx : Elt.Ex ((k : Int) + 1) := ⟨by omega, by omega⟩
      have k1 : (k : Int) + 1 ≤ 11 := by omega
      have HD := Lib.hid (refDescribe_yes ((k : Int) + 1) wr hx)
      clear hx
      go_wp2_with fail
      refine HD.out.mono ?_
      rintro e w1 ⟨rfl, g1⟩
      have J1 := Lib.hid (J.out.1.under g1)
      have JP := Lib.hid J.out.2
      clear g1 J HD
      simp only [infoV]
      go_upto_region 7 with fail
      have hb1 := (Below.refl w1.heap.size w1).alloc (Nat.le_refl _) (.cells #[.string (S [Elt.lt ((k : Int) + 1)]), .int .i64 (Elt.lo ((k : Int) + 1)), .int .i64 (Elt.hi ((k : Int) + 1)), .int .i64 (Elt.dg ((k : Int) + 1))] 62)
      have E9 := De.start (J1.out.under hb1) (100 * ((k : Int) + 1), (k : Int) + 1, 13, 1, Elt.lo ((k : Int) + 1))
      have z9 : (w1.alloc (.cells #[.string (S [Elt.lt ((k : Int) + 1)]), .int .i64 (Elt.lo ((k : Int) + 1)), .int .i64 (Elt.hi ((k : Int) + 1)), .int .i64 (Elt.dg ((k : Int) + 1))] 62)).heap.size = w1.heap.size + 1 := by simp
      rw [z9] at E9
      refine forget (fun Y => Hid (De W w b g4 g5 ver es [] (fun _ _ => False) (w1.heap.size + 1) (100 * ((k : Int) + 1), (k : Int) + 1, 13, 1, Elt.lo ((k : Int) + 1)) Y)) (Lib.hid E9) ?_
      clear E9 z9 hb1
      generalize w1.heap.size + 1 = g9
      generalize w1.heap.size = g7
      intro Y1 E9
      clear J1
      go_wp2_with fail
      refine (n_any W b _ 4 E9.out.1.src (by omega) (by omega)).mono ?_
      rintro e w2 ⟨n4, ⟨n41, n42⟩, rfl, hs2, hg2⟩
      have E2 := Lib.hid (E9.out.step hs2 hg2)
      clear hs2 hg2 E9
      by_cases c0 : n4 = 0
      · subst c0
        have rr := Row.new w2 (threeL.map (Value.int .i64)).toArray 3
        have hb := (Below.refl w2.heap.size w2).alloc (Nat.le_refl _) (.cells (threeL.map (Value.int .i64)).toArray 3)
        have hbl := src_lt E2.out.1.src
        have E3 := Lib.hid (E2.out.under hb)
        have HP := Lib.hid (pick_any (fun x => 1 ≤ x ∧ x ≤ 1000) W b _ w2.heap.size 3 3 E3.out.1.src (by omega) (by omega) (by omega) rr.lt (fun i hi => by
          have hi' : i < threeL.length := hi
          exact ⟨threeL[i], by rw [rr.cell]; simp [hi'], threeL_ok _ (List.getElem_mem hi')⟩))
        clear rr hb hbl E2
        go_wp2_with fail
        refine HP.out.mono ?_
        rintro e w3 ⟨sc, ⟨s1, s2⟩, rfl, hs3, hg3⟩
        have E4 := Lib.hid (E3.out.step hs3 hg3)
        have f2 := E4.out.2.1.thaw 2
        have f3 := E4.out.2.1.thaw 3
        obtain ⟨q0, q1, q2, q3, q4⟩ := row5 E4.out.2.1
        have E5 := Lib.hid ((E4.out.put (y := (100 * ((k : Int) + 1), (k : Int) + 1, 13, sc, Elt.lo ((k : Int) + 1))) (j := 3) (z := sc) rfl).put (y := (100 * ((k : Int) + 1), (k : Int) + 1, 12, sc, Elt.lo ((k : Int) + 1))) (j := 2) (z := 12) rfl)
        clear hs3 hg3 E3 HP E4
        simp only at q0 q1 q2 q3 q4
        go_upto_region 12 with fail
        refine forget (fun Y => Hid (De W w b g4 g5 ver es [] (fun _ _ => False) g9 (100 * ((k : Int) + 1), (k : Int) + 1, 12, sc, Elt.lo ((k : Int) + 1)) Y)) E5 ?_
        intro Y8 J8
        clear E5 q0 q1 q2 q3 q4 f2 f3
        obtain ⟨v, u, rv, o1, o2, hnv⟩ := J8.out.2.2.2.2
        obtain ⟨A, cap, ev⟩ : ∃ A cap, v = .slice A es.length cap := by
          rcases o1.2 with ⟨rfl, h0⟩ | ⟨g, cap, cur, rfl, _, hh, hle, hmax, _, _⟩
          · exact ⟨none, 0, by rw [h0]⟩
          · exact ⟨_, cap, rfl⟩
        subst ev
        obtain ⟨-, p1, -⟩ := row3 rv
        obtain ⟨q0, q1, q2, q3, q4⟩ := row5 J8.out.2.1
        simp only at q0 q1 q2 q3 q4
        obtain ⟨xx, exx⟩ : ∃ xx : En, (100 * ((k : Int) + 1), (k : Int) + 1, 12, sc, Elt.lo ((k : Int) + 1)) = xx := ⟨_, rfl⟩
        have hb := (Below.refl Y8.heap.size Y8).alloc (Nat.le_refl _) (.cells #[.int .i64 xx.1, .int .i64 xx.2.1, .int .i64 xx.2.2.1, .int .i64 xx.2.2.2.1, .int .i64 xx.2.2.2.2] 47)
        have N1 := Lib.hid (At5.row (e := xx) (Row.new Y8 #[.int .i64 xx.1, .int .i64 xx.2.1, .int .i64 xx.2.2.1, .int .i64 xx.2.2.2.1, .int .i64 xx.2.2.2.2] 47))
        have J9 : Hid (Dt W w b g4 g5 ver es [] (fun _ _ => False) (Y8.alloc (.cells #[.int .i64 xx.1, .int .i64 xx.2.1, .int .i64 xx.2.2.1, .int .i64 xx.2.2.2.1, .int .i64 xx.2.2.2.2] 47)) ∧ Row (Y8.alloc (.cells #[.int .i64 xx.1, .int .i64 xx.2.1, .int .i64 xx.2.2.1, .int .i64 xx.2.2.2.1, .int .i64 xx.2.2.2.2] 47)) g5 25 #[.int .i64 ver, .slice A es.length cap, u] ∧ (Y8.alloc (.cells #[.int .i64 xx.1, .int .i64 xx.2.1, .int .i64 xx.2.2.1, .int .i64 xx.2.2.2.1, .int .i64 xx.2.2.2.2] 47)).ownsRow w.heap.size 47 5 (.slice A es.length cap) es.length (rowE es) ∧ (Y8.alloc (.cells #[.int .i64 xx.1, .int .i64 xx.2.1, .int .i64 xx.2.2.1, .int .i64 xx.2.2.2.1, .int .i64 xx.2.2.2.2] 47)).ownsRow w.heap.size 58 2 u ([] : List (Int × Value)).length (rowS [])) := Lib.hid ⟨J8.out.1.under hb, rv.under hb, own_under o1 hb, own_under o2 hb⟩
        have EX : Hid (EsP (es ++ [xx]) ∧ es.length ≤ 11) := Lib.hid ⟨exx ▸ JP.out.snoc hl.out hlt (wd := 12) (sc := sc) (by omega) (by omega) (by omega) (by omega), by have := hl.out; omega⟩
        subst exx
        clear hb J8 rv o1 o2 hnv
        simp only at J9 N1
        go_wp2_with (at_builtin; go_loud (refine wpList_append_own' rfl (.tmp 48) (.tmp 50) 22 rfl w.heap.size 47 i0 _ 5 40 Tryd.underlying22 hi hz0 hz1 hz2 rfl (by decide) (.slice A es.length cap) es.length (rowE es) rfl J9.out.2.2.1 ⟨Y8.heap.size, 0, none⟩ 1 1 (encE (100 * ((k : Int) + 1), (k : Int) + 1, 12, sc, Elt.lo ((k : Int) + 1))) rfl rfl (encE_at N1.out) (encE_one _) (by have := EX.out.2; unfold maxLen; omega) (by have := EX.out.2; omega) J9.out.1.gro.size ?_; intro v' w3 ho' hg3; (obtain ⟨A', cap', ev⟩ : ∃ A' cap', v' = .slice A' (es.length + 1) cap' := sl_of ho'); subst ev; have HA := Lib.hid (J9.out.1.appE (100 * ((k : Int) + 1), (k : Int) + 1, 12, sc, Elt.lo ((k : Int) + 1)) J9.out.2.1 J9.out.2.2.1 J9.out.2.2.2 ho' hg3 (own_apart J9.out.2.2.2 J9.out.2.2.1 (by decide))); clear ho' hg3; have F1 := HA.out.2.thaw 1; have P1 := (row3 HA.out.2).2.1))
        have HD := Lib.hid HA.out.1
        clear HA F1 P1 J9 N1 p1 q0 q1 q2 q3 q4
        go_roundw
        case rel => exact ⟨k + 1, _, by go_num, by omega, by have := hl.out; simp only [List.length_append, List.length_singleton]; omega, Lib.hid ⟨HD.out, EX.out.1⟩⟩
        case measure => simp [intOf]; omega
      have d0 : (n4 == 0) = false := by simpa using c0
      by_cases c1 : n4 = 1
      · subst c1
        go_wp2_with fail
        refine (range_any W b _ 8 20 E2.out.1.src (by omega) (by omega) (by omega) (by omega)).mono ?_
        rintro e w3 ⟨wd, ⟨s1, s2⟩, rfl, hs3, hg3⟩
        have E4 := Lib.hid (E2.out.step hs3 hg3)
        have f2 := E4.out.2.1.thaw 2
        obtain ⟨q0, q1, q2, q3, q4⟩ := row5 E4.out.2.1
        have E5 := Lib.hid (E4.out.put (y := (100 * ((k : Int) + 1), (k : Int) + 1, wd, 1, Elt.lo ((k : Int) + 1))) (j := 2) (z := wd) rfl)
        clear hs3 hg3 E2 E4
        simp only at q0 q1 q2 q3 q4
        go_upto_region 12 with fail
        refine forget (fun Y => Hid (De W w b g4 g5 ver es [] (fun _ _ => False) g9 (100 * ((k : Int) + 1), (k : Int) + 1, wd, 1, Elt.lo ((k : Int) + 1)) Y)) E5 ?_
        intro Y8 J8
        clear E5 q0 q1 q2 q3 q4 f2
        obtain ⟨v, u, rv, o1, o2, hnv⟩ := J8.out.2.2.2.2
        obtain ⟨A, cap, ev⟩ : ∃ A cap, v = .slice A es.length cap := by
          rcases o1.2 with ⟨rfl, h0⟩ | ⟨g, cap, cur, rfl, _, hh, hle, hmax, _, _⟩
          · exact ⟨none, 0, by rw [h0]⟩
          · exact ⟨_, cap, rfl⟩
        subst ev
        obtain ⟨-, p1, -⟩ := row3 rv
        obtain ⟨q0, q1, q2, q3, q4⟩ := row5 J8.out.2.1
        simp only at q0 q1 q2 q3 q4
        obtain ⟨xx, exx⟩ : ∃ xx : En, (100 * ((k : Int) + 1), (k : Int) + 1, wd, 1, Elt.lo ((k : Int) + 1)) = xx := ⟨_, rfl⟩
        have hb := (Below.refl Y8.heap.size Y8).alloc (Nat.le_refl _) (.cells #[.int .i64 xx.1, .int .i64 xx.2.1, .int .i64 xx.2.2.1, .int .i64 xx.2.2.2.1, .int .i64 xx.2.2.2.2] 47)
        have N1 := Lib.hid (At5.row (e := xx) (Row.new Y8 #[.int .i64 xx.1, .int .i64 xx.2.1, .int .i64 xx.2.2.1, .int .i64 xx.2.2.2.1, .int .i64 xx.2.2.2.2] 47))
        have J9 : Hid (Dt W w b g4 g5 ver es [] (fun _ _ => False) (Y8.alloc (.cells #[.int .i64 xx.1, .int .i64 xx.2.1, .int .i64 xx.2.2.1, .int .i64 xx.2.2.2.1, .int .i64 xx.2.2.2.2] 47)) ∧ Row (Y8.alloc (.cells #[.int .i64 xx.1, .int .i64 xx.2.1, .int .i64 xx.2.2.1, .int .i64 xx.2.2.2.1, .int .i64 xx.2.2.2.2] 47)) g5 25 #[.int .i64 ver, .slice A es.length cap, u] ∧ (Y8.alloc (.cells #[.int .i64 xx.1, .int .i64 xx.2.1, .int .i64 xx.2.2.1, .int .i64 xx.2.2.2.1, .int .i64 xx.2.2.2.2] 47)).ownsRow w.heap.size 47 5 (.slice A es.length cap) es.length (rowE es) ∧ (Y8.alloc (.cells #[.int .i64 xx.1, .int .i64 xx.2.1, .int .i64 xx.2.2.1, .int .i64 xx.2.2.2.1, .int .i64 xx.2.2.2.2] 47)).ownsRow w.heap.size 58 2 u ([] : List (Int × Value)).length (rowS [])) := Lib.hid ⟨J8.out.1.under hb, rv.under hb, own_under o1 hb, own_under o2 hb⟩
        have EX : Hid (EsP (es ++ [xx]) ∧ es.length ≤ 11) := Lib.hid ⟨exx ▸ JP.out.snoc hl.out hlt (wd := wd) (sc := 1) (by omega) (by omega) (by omega) (by omega), by have := hl.out; omega⟩
        subst exx
        clear hb J8 rv o1 o2 hnv
        simp only at J9 N1
        go_wp2_with (at_builtin; go_loud (refine wpList_append_own' rfl (.tmp 48) (.tmp 50) 22 rfl w.heap.size 47 i0 _ 5 40 Tryd.underlying22 hi hz0 hz1 hz2 rfl (by decide) (.slice A es.length cap) es.length (rowE es) rfl J9.out.2.2.1 ⟨Y8.heap.size, 0, none⟩ 1 1 (encE (100 * ((k : Int) + 1), (k : Int) + 1, wd, 1, Elt.lo ((k : Int) + 1))) rfl rfl (encE_at N1.out) (encE_one _) (by have := EX.out.2; unfold maxLen; omega) (by have := EX.out.2; omega) J9.out.1.gro.size ?_; intro v' w3 ho' hg3; (obtain ⟨A', cap', ev⟩ : ∃ A' cap', v' = .slice A' (es.length + 1) cap' := sl_of ho'); subst ev; have HA := Lib.hid (J9.out.1.appE (100 * ((k : Int) + 1), (k : Int) + 1, wd, 1, Elt.lo ((k : Int) + 1)) J9.out.2.1 J9.out.2.2.1 J9.out.2.2.2 ho' hg3 (own_apart J9.out.2.2.2 J9.out.2.2.1 (by decide))); clear ho' hg3; have F1 := HA.out.2.thaw 1; have P1 := (row3 HA.out.2).2.1))
        have HD := Lib.hid HA.out.1
        clear HA F1 P1 J9 N1 p1 q0 q1 q2 q3 q4
        go_roundw
        case rel => exact ⟨k + 1, _, by go_num, by omega, by have := hl.out; simp only [List.length_append, List.length_singleton]; omega, Lib.hid ⟨HD.out, EX.out.1⟩⟩
        case measure => simp [intOf]; omega
      have d1 : (n4 == 1) = false := by simpa using c1
      go_upto_region 12 with fail
      refine forget (fun Y => Hid (De W w b g4 g5 ver es [] (fun _ _ => False) g9 (100 * ((k : Int) + 1), (k : Int) + 1, 13, 1, Elt.lo ((k : Int) + 1)) Y)) E2 ?_
      intro Y8 J8
      clear E2
      obtain ⟨v, u, rv, o1, o2, hnv⟩ := J8.out.2.2.2.2
      obtain ⟨A, cap, ev⟩ : ∃ A cap, v = .slice A es.length cap := by
        rcases o1.2 with ⟨rfl, h0⟩ | ⟨g, cap, cur, rfl, _, hh, hle, hmax, _, _⟩
        · exact ⟨none, 0, by rw [h0]⟩
        · exact ⟨_, cap, rfl⟩
      subst ev
      obtain ⟨-, p1, -⟩ := row3 rv
      obtain ⟨q0, q1, q2, q3, q4⟩ := row5 J8.out.2.1
      simp only at q0 q1 q2 q3 q4
      obtain ⟨xx, exx⟩ : ∃ xx : En, (100 * ((k : Int) + 1), (k : Int) + 1, 13, 1, Elt.lo ((k : Int) + 1)) = xx := ⟨_, rfl⟩
      have hb := (Below.refl Y8.heap.size Y8).alloc (Nat.le_refl _) (.cells #[.int .i64 xx.1, .int .i64 xx.2.1, .int .i64 xx.2.2.1, .int .i64 xx.2.2.2.1, .int .i64 xx.2.2.2.2] 47)
      have N1 := Lib.hid (At5.row (e := xx) (Row.new Y8 #[.int .i64 xx.1, .int .i64 xx.2.1, .int .i64 xx.2.2.1, .int .i64 xx.2.2.2.1, .int .i64 xx.2.2.2.2] 47))
      have J9 : Hid (Dt W w b g4 g5 ver es [] (fun _ _ => False) (Y8.alloc (.cells #[.int .i64 xx.1, .int .i64 xx.2.1, .int .i64 xx.2.2.1, .int .i64 xx.2.2.2.1, .int .i64 xx.2.2.2.2] 47)) ∧ Row (Y8.alloc (.cells #[.int .i64 xx.1, .int .i64 xx.2.1, .int .i64 xx.2.2.1, .int .i64 xx.2.2.2.1, .int .i64 xx.2.2.2.2] 47)) g5 25 #[.int .i64 ver, .slice A es.length cap, u] ∧ (Y8.alloc (.cells #[.int .i64 xx.1, .int .i64 xx.2.1, .int .i64 xx.2.2.1, .int .i64 xx.2.2.2.1, .int .i64 xx.2.2.2.2] 47)).ownsRow w.heap.size 47 5 (.slice A es.length cap) es.length (rowE es) ∧ (Y8.alloc (.cells #[.int .i64 xx.1, .int .i64 xx.2.1, .int .i64 xx.2.2.1, .int .i64 xx.2.2.2.1, .int .i64 xx.2.2.2.2] 47)).ownsRow w.heap.size 58 2 u ([] : List (Int × Value)).length (rowS [])) := Lib.hid ⟨J8.out.1.under hb, rv.under hb, own_under o1 hb, own_under o2 hb⟩
      have EX : Hid (EsP (es ++ [xx]) ∧ es.length ≤ 11) := Lib.hid ⟨exx ▸ JP.out.snoc hl.out hlt (wd := 13) (sc := 1) (by omega) (by omega) (by omega) (by omega), by have := hl.out; omega⟩
      subst exx
      clear hb J8 rv o1 o2 hnv
      simp only at J9 N1
      go_wp2_with (at_builtin; go_loud (refine wpList_append_own' rfl (.tmp 48) (.tmp 50) 22 rfl w.heap.size 47 i0 _ 5 40 Tryd.underlying22 hi hz0 hz1 hz2 rfl (by decide) (.slice A es.length cap) es.length (rowE es) rfl J9.out.2.2.1 ⟨Y8.heap.size, 0, none⟩ 1 1 (encE (100 * ((k : Int) + 1), (k : Int) + 1, 13, 1, Elt.lo ((k : Int) + 1))) rfl rfl (encE_at N1.out) (encE_one _) (by have := EX.out.2; unfold maxLen; omega) (by have := EX.out.2; omega) J9.out.1.gro.size ?_; intro v' w3 ho' hg3; (obtain ⟨A', cap', ev⟩ : ∃ A' cap', v' = .slice A' (es.length + 1) cap' := sl_of ho'); subst ev; have HA := Lib.hid (J9.out.1.appE (100 * ((k : Int) + 1), (k : Int) + 1, 13, 1, Elt.lo ((k : Int) + 1)) J9.out.2.1 J9.out.2.2.1 J9.out.2.2.2 ho' hg3 (own_apart J9.out.2.2.2 J9.out.2.2.1 (by decide))); clear ho' hg3; have F1 := HA.out.2.thaw 1; have P1 := (row3 HA.out.2).2.1))
      have HD := Lib.hid HA.out.1
      clear HA F1 P1 J9 N1 p1 q0 q1 q2 q3 q4
      go_roundw
      case rel => exact ⟨k + 1, _, by go_num, by omega, by have := hl.out; simp only [List.length_append, List.length_singleton]; omega, Lib.hid ⟨HD.out, EX.out.1⟩⟩
      case measure => simp [intOf]; omega
    · have HE : Hid (es.length = 11 ∧ EsP es) := Lib.hid ⟨by have := hl.out; omega, J.out.2⟩
      have J1 := Lib.hid J.out.1
      have k1 : ¬ (k : Int) + 1 ≤ 11 := by omega
      clear J hl
      go_wp2_with fail
      refine (n_any W b _ 4 J1.out.src (by omega) (by omega)).mono ?_
      rintro e w2 ⟨x4, ⟨x41, x42⟩, rfl, hs2, hg2⟩
      have J2 := Lib.hid (J1.out.step hs2 hg2)
      clear hs2 hg2 J1 k1
      go_wp2_with fail
      go_loopw [10, 11, 12] (fun t _ _ wr => ∃ (m : Nat) (L : List (Int × Value)), t = .int .i64 m ∧ L.length + m ≤ 3 ∧ Hid (Dt W w b g4 g5 ver es L (fun _ _ => False) wr ∧ LsP L)) (fun t _ _ _ => (intOf t).toNat)
      case atStart => exact ⟨x4.toNat, [], by rw [Int.toNat_of_nonneg x41], by simp only [List.length_nil]; omega, Lib.hid ⟨J2.out, by decide, fun i hi => absurd hi (Nat.not_lt_zero _)⟩⟩
      case round =>
        clear J2
        obtain ⟨m, L, rfl, hm3, J⟩ := hrel
        have HM := Lib.hid hm3; clear hm3
        by_cases hm0 : 0 < m
        · have k1 : (0 : Int) < (m : Int) := by omega
          have k9 : (m : Int) ≤ 3 := by have := HM.out; omega
          obtain ⟨v, u, rv, o1, o2⟩ := J.out.1.row
          obtain ⟨Au, cu, eu⟩ := sl_of o2
          subst eu
          obtain ⟨-, -, p2⟩ := row3 rv
          have kl : (L.length : Int) ≤ 3 := by have := HM.out; omega
          clear rv o1 o2
          have Q0 := Lib.hid (Dq.start J.out.1.src (10000 + (L.length : Int)))
          go_upto_region 17 with fail
          refine forget (fun Y => Hid (Dq W b wr wr.heap.size (10000 + (L.length : Int)) [] (.slice none 0 0) Y)) Q0 ?_
          clear Q0 p2
          obtain ⟨gq, egq⟩ : ∃ gq, wr.heap.size = gq := ⟨_, rfl⟩
          rw [egq]
          clear egq
          obtain ⟨cq, ecq⟩ : ∃ cq, 10000 + (L.length : Int) = cq := ⟨_, rfl⟩
          rw [ecq]
          have HCQ := Lib.hid ecq
          clear ecq
          obtain ⟨Y0, eY0⟩ : ∃ Y0 : World, Y0 = wr := ⟨_, rfl⟩
          rw [← eY0] at J ⊢
          clear eY0
          intro Y1 Q1
          go_wp2_with fail
          refine (n_any W b _ 4 Q1.out.1 (by omega) (by omega)).mono ?_
          rintro e w3 ⟨x5, ⟨x51, x52⟩, rfl, hs3, hg3⟩
          have Q2 := Lib.hid (Q1.out.step hs3 hg3)
          clear hs3 hg3 Q1
          go_wp2_with fail
          go_loopw [12] (fun t wq => ∃ (j : Nat) (C : List Int) (vq : Value), t = .int .i64 j ∧ C.length + j ≤ 3 ∧ Hid (Dq W b Y0 gq cq C vq wq)) (fun t _ => (intOf t).toNat)
          case atStart => exact ⟨x5.toNat, [], _, by rw [Int.toNat_of_nonneg x51], by simp only [List.length_nil]; omega, Q2⟩
          case round =>
            clear Q2
            obtain ⟨j, C, vq, rfl, hj3, QJ⟩ := hrel
            have hCl := Lib.hid hj3; clear hj3
            obtain ⟨A, cap, ev⟩ := sl_of QJ.out.2.2.2.2.2.2
            subst ev
            by_cases hj0 : 0 < j
            · have k2 : (0 : Int) < (j : Int) := by omega
              have k3 : (j : Int) ≤ 3 := by have := hCl.out; omega
              go_upto_region 20 with fail
              refine wp_region_held_drew (S := fun _ : World => True) (by kernel_rfl) trivial (fun hHeld => ?_)
              refine wpAnyH_take (i := 0) (oi := ⟨some 70, _, _, _, _, none⟩) (v := ?_) rfl (by kernel_rfl) (by kernel_rfl) (by kernel_rfl) (fun _ _ _ h => h) (Or.inl ⟨by rfl, ?_⟩) (by assumption) ?_
              case refine_2 => (intro wx hSx; (try dsimp only at hSx); go_simp; first | done | with_reducible rfl)
              ((try simp only [Act.put]); (try simp only [List.setIfInBounds_toArray]); (try simp only [List.set_cons_succ]); (try simp only [List.set_cons_zero]))
              refine wpAnyH_take (i := 2) (oi := ⟨some 72, _, _, _, _, none⟩) (v := ?_) rfl (by kernel_rfl) (by kernel_rfl) (by kernel_rfl) (fun _ _ _ h => h) (Or.inl ⟨by rfl, ?_⟩) (by assumption) ?_
              case refine_2 => (intro wx hSx; (try dsimp only at hSx); go_simp; first | done | with_reducible rfl)
              ((try simp only [Act.put]); (try simp only [List.setIfInBounds_toArray]); (try simp only [List.set_cons_succ]); (try simp only [List.set_cons_zero]))
              refine genH (fun X => Hid (Dq W b Y0 gq cq C (.slice A C.length cap) X)) (Lib.hid (QJ.out.under ⟨rfl, rfl, rfl, Nat.le_refl _, fun _ _ => rfl⟩)) (fun X0 K0 => ?_)
              clear QJ
              refine wpAnyH_ready (rs := [1, 3]) (by kernel_rfl) (by simp) ?_
              refine AllReadyH.cons (o := ⟨some 71, _, _, _, _, none⟩) rfl (fun K hK => ?_) (AllReadyH.cons (o := ⟨some 73, _, _, _, _, none⟩) rfl (fun K hK => ?_) (AllReadyH.nil))
              · have P1 := (row2 K0.out.2.2.2.2.2.1).2
                go_simp
                refine hK.out _ _ trivial (fun hHeld2 => ?_)
                clear hK K P1
                ((try simp only [Act.put]); (try simp only [List.setIfInBounds_toArray]); (try simp only [List.set_cons_succ]); (try simp only [List.set_cons_zero]))
                refine wpAnyH_ready (rs := [3]) (by kernel_rfl) (by simp) ?_
                refine AllReadyH.cons (o := ⟨some 73, _, _, _, _, none⟩) rfl (fun K hK => ?_) (AllReadyH.nil)
                · go_simp
                  refine (code_any W b _ K0.out.1).mono ?_
                  rintro e w22 ⟨y, hy, rfl, hs9, hg9⟩
                  have K2 : Hid (Dq W b Y0 gq cq C (.slice A C.length cap) w22 ∧ cdP y) := Lib.hid ⟨K0.out.step hs9 hg9, hy⟩
                  clear hs9 hg9 hy K0
                  go_wp2_with fail
                  refine hK.out _ _ trivial (fun hHeld2 => ?_)
                  clear hK K
                  ((try simp only [Act.put]); (try simp only [List.setIfInBounds_toArray]); (try simp only [List.set_cons_succ]); (try simp only [List.set_cons_zero]))
                  refine wpAnyH_ready (rs := [4]) (by kernel_rfl) (by simp) ?_
                  refine AllReadyH.cons (o := ⟨some 74, _, _, _, _, none⟩) rfl (fun K hK => ?_) (AllReadyH.nil)
                  · go_simp
                    have K3 : Hid (Dq W b Y0 gq cq C (.slice A C.length cap) (w22.alloc (.cells #[.int .i64 y] 3)) ∧ Row (w22.alloc (.cells #[.int .i64 y] 3)) w22.heap.size 3 #[.int .i64 y] ∧ cdP y) := Lib.hid ⟨K2.out.1.under ((Below.refl _ _).alloc (Nat.le_refl _) _), Row.new _ _ _, K2.out.2⟩
                    refine hK.out _ _ trivial (fun hHeld2 => ?_)
                    clear hK K
                    ((try simp only [Act.put]); (try simp only [List.setIfInBounds_toArray]); (try simp only [List.set_cons_succ]); (try simp only [List.set_cons_zero]))
                    generalize w22.heap.size = g6 at K3 ⊢
                    refine genH (fun X => Hid (Dq W b Y0 gq cq C (.slice A C.length cap) X ∧ Row X g6 3 #[.int .i64 y] ∧ cdP y)) K3 (fun X3 K3b => ?_)
                    clear K3 K2
                    refine wpAnyH_ready (rs := [5]) (by kernel_rfl) (by simp) ?_
                    refine AllReadyH.cons (o := ⟨some 75, _, _, _, _, none⟩) rfl (fun K hK => ?_) AllReadyH.nil
                    refine step_append_own rfl (.tmp 71) (.tmp 74) 26 rfl Y0.heap.size 3 j0 _ 1 8 Tryd.underlying26 hj hy0 hy1 hy2 rfl (by decide) (.slice A C.length cap) C.length (C.map (Value.int .i64)) rfl K3b.out.1.2.2.2.2.2.2 ⟨g6, 0, none⟩ 1 1 ([y].map (Value.int .i64)) rfl rfl (one_at K3b.out.2.1) (ints_one _) (by have := hCl.out; unfold maxLen; omega) (by have := hCl.out; omega) K3b.out.1.2.1.size ?_
                    intro v' w9 ho' hg9
                    obtain ⟨A', cap', ev⟩ := sl_of ho'
                    subst ev
                    have HA := Lib.hid (K3b.out.1.app K3b.out.2.2 ho' hg9)
                    refine hK.out _ _ trivial (fun hHeld2 => ?_)
                    clear hK K hg9 ho' K3b
                    ((try simp only [Act.put]); (try simp only [List.setIfInBounds_toArray]); (try simp only [List.set_cons_succ]); (try simp only [List.set_cons_zero]))
                    refine wpAnyH_take (i := 6) (oi := ⟨some 76, _, _, _, _, none⟩) (v := ?_) rfl (by kernel_rfl) (by kernel_rfl) (by kernel_rfl) (fun _ _ _ h => h) (Or.inl ⟨by rfl, ?_⟩) (by assumption) ?_
                    case refine_2 => (intro wx hSx; (try dsimp only at hSx); go_simp; first | done | with_reducible rfl)
                    ((try simp only [Act.put]); (try simp only [List.setIfInBounds_toArray]); (try simp only [List.set_cons_succ]); (try simp only [List.set_cons_zero]))
                    have F1 := HA.out.2.thaw 1
                    have P1 := (row2 HA.out.2).2
                    refine wpAnyH_ready (rs := [7]) (by kernel_rfl) (by simp) ?_
                    refine AllReadyH.cons (o := ⟨none, _, _, _, _, none⟩) rfl (fun K hK => ?_) AllReadyH.nil
                    go_simp
                    refine hK.out _ _ trivial (fun hHeld3 => ?_)
                    clear hK K F1 P1
                    ((try simp only [Act.put]); (try simp only [List.setIfInBounds_toArray]); (try simp only [List.set_cons_succ]); (try simp only [List.set_cons_zero]))
                    refine wpAnyH_done (by kernel_rfl) ?_ _
                    have HF := Lib.hid HA.out.1
                    clear HA hHeld hHeld2 hHeld3
                    go_wp2_with fail
                    go_roundw
                    case rel => exact ⟨j - 1, C ++ [y], _, by go_num, by have := hCl.out; simp only [List.length_append, List.length_singleton]; omega, HF⟩
                    case measure => simp [intOf]; omega
              · go_simp
                refine (code_any W b _ K0.out.1).mono ?_
                rintro e w24 ⟨y, hy, rfl, hs9, hg9⟩
                have K4 : Hid (Dq W b Y0 gq cq C (.slice A C.length cap) w24 ∧ cdP y) := Lib.hid ⟨K0.out.step hs9 hg9, hy⟩
                clear hs9 hg9 hy K0
                go_wp2_with fail
                refine hK.out _ _ trivial (fun hHeld2 => ?_)
                clear hK K
                ((try simp only [Act.put]); (try simp only [List.setIfInBounds_toArray]); (try simp only [List.set_cons_succ]); (try simp only [List.set_cons_zero]))
                refine wpAnyH_ready (rs := [1, 4]) (by kernel_rfl) (by simp) ?_
                refine AllReadyH.cons (o := ⟨some 71, _, _, _, _, none⟩) rfl (fun K hK => ?_) (AllReadyH.cons (o := ⟨some 74, _, _, _, _, none⟩) rfl (fun K hK => ?_) (AllReadyH.nil))
                · have P1 := (row2 K4.out.1.2.2.2.2.2.1).2
                  go_simp
                  refine hK.out _ _ trivial (fun hHeld2 => ?_)
                  clear hK K P1
                  ((try simp only [Act.put]); (try simp only [List.setIfInBounds_toArray]); (try simp only [List.set_cons_succ]); (try simp only [List.set_cons_zero]))
                  refine wpAnyH_ready (rs := [4]) (by kernel_rfl) (by simp) ?_
                  refine AllReadyH.cons (o := ⟨some 74, _, _, _, _, none⟩) rfl (fun K hK => ?_) (AllReadyH.nil)
                  · go_simp
                    have K6 : Hid (Dq W b Y0 gq cq C (.slice A C.length cap) (w24.alloc (.cells #[.int .i64 y] 3)) ∧ Row (w24.alloc (.cells #[.int .i64 y] 3)) w24.heap.size 3 #[.int .i64 y] ∧ cdP y) := Lib.hid ⟨K4.out.1.under ((Below.refl _ _).alloc (Nat.le_refl _) _), Row.new _ _ _, K4.out.2⟩
                    refine hK.out _ _ trivial (fun hHeld2 => ?_)
                    clear hK K
                    ((try simp only [Act.put]); (try simp only [List.setIfInBounds_toArray]); (try simp only [List.set_cons_succ]); (try simp only [List.set_cons_zero]))
                    generalize w24.heap.size = g6 at K6 ⊢
                    refine genH (fun X => Hid (Dq W b Y0 gq cq C (.slice A C.length cap) X ∧ Row X g6 3 #[.int .i64 y] ∧ cdP y)) K6 (fun X6 K6b => ?_)
                    clear K6 K4
                    refine wpAnyH_ready (rs := [5]) (by kernel_rfl) (by simp) ?_
                    refine AllReadyH.cons (o := ⟨some 75, _, _, _, _, none⟩) rfl (fun K hK => ?_) AllReadyH.nil
                    refine step_append_own rfl (.tmp 71) (.tmp 74) 26 rfl Y0.heap.size 3 j0 _ 1 8 Tryd.underlying26 hj hy0 hy1 hy2 rfl (by decide) (.slice A C.length cap) C.length (C.map (Value.int .i64)) rfl K6b.out.1.2.2.2.2.2.2 ⟨g6, 0, none⟩ 1 1 ([y].map (Value.int .i64)) rfl rfl (one_at K6b.out.2.1) (ints_one _) (by have := hCl.out; unfold maxLen; omega) (by have := hCl.out; omega) K6b.out.1.2.1.size ?_
                    intro v' w9 ho' hg9
                    obtain ⟨A', cap', ev⟩ := sl_of ho'
                    subst ev
                    have HA := Lib.hid (K6b.out.1.app K6b.out.2.2 ho' hg9)
                    refine hK.out _ _ trivial (fun hHeld2 => ?_)
                    clear hK K hg9 ho' K6b
                    ((try simp only [Act.put]); (try simp only [List.setIfInBounds_toArray]); (try simp only [List.set_cons_succ]); (try simp only [List.set_cons_zero]))
                    refine wpAnyH_take (i := 6) (oi := ⟨some 76, _, _, _, _, none⟩) (v := ?_) rfl (by kernel_rfl) (by kernel_rfl) (by kernel_rfl) (fun _ _ _ h => h) (Or.inl ⟨by rfl, ?_⟩) (by assumption) ?_
                    case refine_2 => (intro wx hSx; (try dsimp only at hSx); go_simp; first | done | with_reducible rfl)
                    ((try simp only [Act.put]); (try simp only [List.setIfInBounds_toArray]); (try simp only [List.set_cons_succ]); (try simp only [List.set_cons_zero]))
                    have F1 := HA.out.2.thaw 1
                    have P1 := (row2 HA.out.2).2
                    refine wpAnyH_ready (rs := [7]) (by kernel_rfl) (by simp) ?_
                    refine AllReadyH.cons (o := ⟨none, _, _, _, _, none⟩) rfl (fun K hK => ?_) AllReadyH.nil
                    go_simp
                    refine hK.out _ _ trivial (fun hHeld3 => ?_)
                    clear hK K F1 P1
                    ((try simp only [Act.put]); (try simp only [List.setIfInBounds_toArray]); (try simp only [List.set_cons_succ]); (try simp only [List.set_cons_zero]))
                    refine wpAnyH_done (by kernel_rfl) ?_ _
                    have HF := Lib.hid HA.out.1
                    clear HA hHeld hHeld2 hHeld3
                    go_wp2_with fail
                    go_roundw
                    case rel => exact ⟨j - 1, C ++ [y], _, by go_num, by have := hCl.out; simp only [List.length_append, List.length_singleton]; omega, HF⟩
                    case measure => simp [intOf]; omega
                · go_simp
                  have K7 : Hid (Dq W b Y0 gq cq C (.slice A C.length cap) (w24.alloc (.cells #[.int .i64 y] 3)) ∧ Row (w24.alloc (.cells #[.int .i64 y] 3)) w24.heap.size 3 #[.int .i64 y] ∧ cdP y) := Lib.hid ⟨K4.out.1.under ((Below.refl _ _).alloc (Nat.le_refl _) _), Row.new _ _ _, K4.out.2⟩
                  refine hK.out _ _ trivial (fun hHeld2 => ?_)
                  clear hK K
                  ((try simp only [Act.put]); (try simp only [List.setIfInBounds_toArray]); (try simp only [List.set_cons_succ]); (try simp only [List.set_cons_zero]))
                  generalize w24.heap.size = g6 at K7 ⊢
                  refine genH (fun X => Hid (Dq W b Y0 gq cq C (.slice A C.length cap) X ∧ Row X g6 3 #[.int .i64 y] ∧ cdP y)) K7 (fun X7 K7b => ?_)
                  clear K7 K4
                  refine wpAnyH_ready (rs := [1]) (by kernel_rfl) (by simp) ?_
                  refine AllReadyH.cons (o := ⟨some 71, _, _, _, _, none⟩) rfl (fun K hK => ?_) (AllReadyH.nil)
                  · have P1 := (row2 K7b.out.1.2.2.2.2.2.1).2
                    go_simp
                    refine hK.out _ _ trivial (fun hHeld2 => ?_)
                    clear hK K P1
                    ((try simp only [Act.put]); (try simp only [List.setIfInBounds_toArray]); (try simp only [List.set_cons_succ]); (try simp only [List.set_cons_zero]))
                    refine wpAnyH_ready (rs := [5]) (by kernel_rfl) (by simp) ?_
                    refine AllReadyH.cons (o := ⟨some 75, _, _, _, _, none⟩) rfl (fun K hK => ?_) AllReadyH.nil
                    refine step_append_own rfl (.tmp 71) (.tmp 74) 26 rfl Y0.heap.size 3 j0 _ 1 8 Tryd.underlying26 hj hy0 hy1 hy2 rfl (by decide) (.slice A C.length cap) C.length (C.map (Value.int .i64)) rfl K7b.out.1.2.2.2.2.2.2 ⟨g6, 0, none⟩ 1 1 ([y].map (Value.int .i64)) rfl rfl (one_at K7b.out.2.1) (ints_one _) (by have := hCl.out; unfold maxLen; omega) (by have := hCl.out; omega) K7b.out.1.2.1.size ?_
                    intro v' w9 ho' hg9
                    obtain ⟨A', cap', ev⟩ := sl_of ho'
                    subst ev
                    have HA := Lib.hid (K7b.out.1.app K7b.out.2.2 ho' hg9)
                    refine hK.out _ _ trivial (fun hHeld2 => ?_)
                    clear hK K hg9 ho' K7b
                    ((try simp only [Act.put]); (try simp only [List.setIfInBounds_toArray]); (try simp only [List.set_cons_succ]); (try simp only [List.set_cons_zero]))
                    refine wpAnyH_take (i := 6) (oi := ⟨some 76, _, _, _, _, none⟩) (v := ?_) rfl (by kernel_rfl) (by kernel_rfl) (by kernel_rfl) (fun _ _ _ h => h) (Or.inl ⟨by rfl, ?_⟩) (by assumption) ?_
                    case refine_2 => (intro wx hSx; (try dsimp only at hSx); go_simp; first | done | with_reducible rfl)
                    ((try simp only [Act.put]); (try simp only [List.setIfInBounds_toArray]); (try simp only [List.set_cons_succ]); (try simp only [List.set_cons_zero]))
                    have F1 := HA.out.2.thaw 1
                    have P1 := (row2 HA.out.2).2
                    refine wpAnyH_ready (rs := [7]) (by kernel_rfl) (by simp) ?_
                    refine AllReadyH.cons (o := ⟨none, _, _, _, _, none⟩) rfl (fun K hK => ?_) AllReadyH.nil
                    go_simp
                    refine hK.out _ _ trivial (fun hHeld3 => ?_)
                    clear hK K F1 P1
                    ((try simp only [Act.put]); (try simp only [List.setIfInBounds_toArray]); (try simp only [List.set_cons_succ]); (try simp only [List.set_cons_zero]))
                    refine wpAnyH_done (by kernel_rfl) ?_ _
                    have HF := Lib.hid HA.out.1
                    clear HA hHeld hHeld2 hHeld3
                    go_wp2_with fail
                    go_roundw
                    case rel => exact ⟨j - 1, C ++ [y], _, by go_num, by have := hCl.out; simp only [List.length_append, List.length_singleton]; omega, HF⟩
                    case measure => simp [intOf]; omega
            · have k2 : ¬ (0 : Int) < (j : Int) := by omega
              have JD := Lib.hid (J.out.1.step QJ.out.1 QJ.out.2.1)
              have JL := Lib.hid J.out.2
              obtain ⟨v, u, rv, o1, o2⟩ := JD.out.row
              obtain ⟨Au, cu, eu⟩ := sl_of o2
              subst eu
              obtain ⟨-, -, p2⟩ := row3 rv
              obtain ⟨q0, q1⟩ := row2 QJ.out.2.2.2.2.2.1
              have HI : Hid (Inn w wr (.slice A C.length cap) (fun _ => False)) := Lib.hid (QJ.out.inn (by have := hCl.out; omega) J.out.1.gro.size)
              have hb := (Below.refl wr.heap.size wr).alloc (Nat.le_refl _) (.cells #[.int .i64 cq, .slice A C.length cap] 58)
              have N1 := Lib.hid (two_at (Row.new wr #[.int .i64 cq, .slice A C.length cap] 58))
              have J9 : Hid (Dt W w b g4 g5 ver es L (fun _ _ => False) (wr.alloc (.cells #[.int .i64 cq, .slice A C.length cap] 58)) ∧ Row (wr.alloc (.cells #[.int .i64 cq, .slice A C.length cap] 58)) g5 25 #[.int .i64 ver, v, .slice Au L.length cu] ∧ (wr.alloc (.cells #[.int .i64 cq, .slice A C.length cap] 58)).ownsRow w.heap.size 47 5 v es.length (rowE es) ∧ (wr.alloc (.cells #[.int .i64 cq, .slice A C.length cap] 58)).ownsRow w.heap.size 58 2 (.slice Au L.length cu) L.length (rowS L) ∧ Inn w (wr.alloc (.cells #[.int .i64 cq, .slice A C.length cap] 58)) (.slice A C.length cap) (fun _ => False)) := Lib.hid ⟨JD.out.under hb, rv.under hb, own_under o1 hb, own_under o2 hb, HI.out.step (r := none) (grown_below hb) (fun g cur _ _ q => by cases q)⟩
              clear hb rv o1 o2 HI JD QJ
              go_wp2_with (at_builtin; refine wpList_append_own' rfl (.tmp 78) (.tmp 80) 23 rfl w.heap.size 58 m0 _ 2 32 Tryd.underlying23 hm hx0 hx1 hx2 rfl (by decide) (.slice Au L.length cu) L.length (rowS L) rfl J9.out.2.2.2.1 ⟨wr.heap.size, 0, none⟩ 1 1 [.int .i64 cq, .slice A C.length cap] rfl rfl N1.out (fun z hz => by simp only [List.mem_cons, List.not_mem_nil, or_false] at hz; rcases hz with rfl | rfl <;> rfl) (by have := HM.out; unfold maxLen; omega) (by have := HM.out; omega) J9.out.1.gro.size ?_; intro v' w3 ho' hg3; (obtain ⟨A', cap', ev⟩ : ∃ A' cap', v' = .slice A' (L.length + 1) cap' := sl_of ho'); subst ev; have HA := Lib.hid (J9.out.1.appS cq _ J9.out.2.1 J9.out.2.2.1 J9.out.2.2.2.1 J9.out.2.2.2.2 ho' hg3 (own_apart J9.out.2.2.1 J9.out.2.2.2.1 (by decide))); clear ho' hg3; have F2 := HA.out.2.thaw 2; have P2 := (row3 HA.out.2).2.2)
              have HD : Hid (Dt W w b g4 g5 ver es (L ++ [(cq, .slice A C.length cap)]) (fun _ _ => False) _ ∧ LsP (L ++ [(cq, .slice A C.length cap)])) := Lib.hid ⟨HA.out.1, by rw [← HCQ.out]; exact JL.out.snoc (by have := HM.out; omega) _⟩
              clear HA F2 P2 J9 N1 p2 q0 q1
              go_roundw
              case rel => exact ⟨m - 1, _, by go_num, by have := HM.out; simp only [List.length_append, List.length_singleton]; omega, HD⟩
              case measure => simp [intOf]; omega
        · have k1 : ¬ (0 : Int) < (m : Int) := by omega
          have HLs : Hid (LsP L) := Lib.hid J.out.2
          have JW : Hid (Dt W w b g4 g5 ver es L (fun j _ => j < 0) wr) := Lib.hid (J.out.1.weak (fun j _ _ q => absurd q (Nat.not_lt_zero _)))
          obtain ⟨v0, u0, rv, o1, o2⟩ := J.out.1.row
          obtain ⟨Au, cu, eu⟩ := sl_of o2
          subst eu
          obtain ⟨-, -, p2⟩ := row3 rv
          have kl : (L.length : Int) ≤ 3 := by have := HM.out; omega
          clear rv o1 o2 J
          go_upto_region 23 with fail
          clear p2
          go_loopw [13, 14, 15, 86] (fun _ _ _ t wr => ∃ i : Nat, i ≤ L.length ∧ t = .int .i64 i ∧ Hid (Dt W w b g4 g5 ver es L (fun j _ => j < i) wr)) (fun _ _ _ t _ => L.length - (intOf t).toNat)
          case atStart => exact ⟨0, Nat.zero_le _, rfl, JW⟩
          case round =>
            clear JW
            obtain ⟨i, hil, rfl, JF⟩ := hrel
            by_cases hi0 : i < L.length
            · have i1 : (0 : Int) ≤ (i : Int) := by omega
              have i2 : (i : Int) < (L.length : Int) := by omega
              have x9 : IntKind.i64.wrap (i : Int) = (i : Int) := IntWalk.i64_in _ (by omega)
              obtain ⟨q, hq⟩ : ∃ q, (L[i]).2 = q := ⟨_, rfl⟩
              have HQ : Hid (∀ h : i < L.length, (L[i]).2 = q) := Lib.hid (fun _ => hq)
              obtain ⟨A, n, cap, eq⟩ : ∃ A n cap, q = .slice A n cap ∧ n ≤ 3 := by
                obtain ⟨n, h3, h⟩ := JF.out.inn i hi0
                rw [hq] at h
                rcases h with ⟨h, h0⟩ | ⟨g, cap, cur, h, -⟩
                · exact ⟨none, 0, 0, h, by omega⟩
                · exact ⟨_, n, cap, h, h3⟩
              obtain ⟨eq, n3⟩ := eq
              subst eq
              clear hq
              obtain ⟨v, u, rv, o1, o2⟩ := JF.out.row
              obtain ⟨gs, cs, eu⟩ : ∃ gs cs, u = .slice (some ⟨gs, 0, none⟩) L.length cs := by
                rcases o2.2 with ⟨-, h0⟩ | ⟨g, cap, cur, h, -⟩
                · omega
                · exact ⟨_, _, h⟩
              subst eu
              obtain ⟨-, -, p2⟩ := row3 rv
              have r0 : wr.cell? ⟨gs, i * 2, none⟩ = some (.int .i64 (L[i]).1) := (o2.cellAt (i * 2) (by omega)).trans (rowS_at L i hi0).1
              have r1 : wr.cell? ⟨gs, i * 2 + 1, none⟩ = some (.slice A n cap) := ((o2.cellAt (i * 2 + 1) (by omega)).trans (rowS_at L i hi0).2).trans (by rw [HQ.out hi0])
              clear rv o1 o2
              go_upto_region 26 with fail
              clear p2 r0 r1
              have JK : Hid (Dt W w b g4 g5 ver es L (fun j m => j < i ∨ (j = i ∧ m < 0)) wr) := Lib.hid (JF.out.weak (fun j m _ q => by omega))
              have kn : (n : Int) ≤ 3 := by omega
              go_loopw [14, 15, 96] (fun _ _ t wr => ∃ kk : Nat, kk ≤ n ∧ t = .int .i64 kk ∧ Hid (Dt W w b g4 g5 ver es L (fun j m => j < i ∨ (j = i ∧ m < kk)) wr)) (fun _ _ t _ => n - (intOf t).toNat)
              case atStart => exact ⟨0, Nat.zero_le _, rfl, JK⟩
              case round =>
                clear JK JF
                obtain ⟨kk, hkn, rfl, JF⟩ := hrel
                by_cases hk0 : kk < n
                · have y1 : (0 : Int) ≤ (kk : Int) := by omega
                  have y2 : (kk : Int) < (n : Int) := by omega
                  have x8 : IntKind.i64.wrap (kk : Int) = (kk : Int) := IntWalk.i64_in _ (by omega)
                  obtain ⟨g, cur, x, rfl, hgw, hrc, hcx, hcd⟩ : ∃ g cur x, A = some ⟨g, 0, none⟩ ∧ w.heap.size ≤ g ∧ Row wr g 3 cur ∧ cur[kk]? = some (.int .i64 x) ∧ cdP x := by
                    obtain ⟨n', h3, h⟩ := JF.out.inn i hi0
                    rw [HQ.out hi0] at h
                    rcases h with ⟨h, h0⟩ | ⟨g, cap', cur, h, _, _, hg, hr, hf⟩
                    · injection h with _ h _
                      omega
                    · injection h with h1 h2 _
                      subst h1; subst h2
                      obtain ⟨x, hx, hc, -⟩ := hf kk hk0
                      exact ⟨g, cur, x, rfl, hg, hr, hx, hc⟩
                  have cx : wr.cell? ⟨g, kk, none⟩ = some (.int .i64 x) := (hrc.cell kk).trans hcx
                  have fx := hrc.thaw kk
                  have HR := Lib.hid hrc
                  have HCx := Lib.hid hcx
                  have HCd := Lib.hid hcd
                  have JP : Hid (Dt W w b g4 g5 ver es L (fun j m => j < i ∨ (j = i ∧ m < kk + 1)) (wr.setCell ⟨g, kk, none⟩ (.int .i64 100))) := Lib.hid ((JF.out.put hi0 (HQ.out hi0) hrc hgw (k := kk)).weak (fun j m _ q => by omega))
                  clear hrc hcx hcd
                  by_cases z1 : x < 1
                  case pos =>
                    clear HCd HCx
                    obtain ⟨v, u, rv, o1, o2⟩ := JF.out.row
                    obtain ⟨gs, cs, eu⟩ : ∃ gs cs, u = .slice (some ⟨gs, 0, none⟩) L.length cs := by
                      rcases o2.2 with ⟨-, h0⟩ | ⟨g, cap, cur, h, -⟩
                      · omega
                      · exact ⟨_, _, h⟩
                    subst eu
                    obtain ⟨-, -, p2⟩ := row3 rv
                    have r0 : wr.cell? ⟨gs, i * 2, none⟩ = some (.int .i64 (L[i]).1) := (o2.cellAt (i * 2) (by omega)).trans (rowS_at L i hi0).1
                    have r1 : wr.cell? ⟨gs, i * 2 + 1, none⟩ = some (.slice (some ⟨g, 0, none⟩) n cap) := ((o2.cellAt (i * 2 + 1) (by omega)).trans (rowS_at L i hi0).2).trans (by rw [HQ.out hi0])
                    clear rv o1 o2
                    go_wp2_with fail
                    clear p2 r0 r1 cx fx JF
                    go_roundw
                    case rel => exact ⟨kk + 1, by omega, by go_num, JP⟩
                    case measure => simp [intOf]; omega
                  by_cases z2 : 30000 ≤ x
                  case pos =>
                    clear HCd HCx
                    obtain ⟨v, u, rv, o1, o2⟩ := JF.out.row
                    obtain ⟨gs, cs, eu⟩ : ∃ gs cs, u = .slice (some ⟨gs, 0, none⟩) L.length cs := by
                      rcases o2.2 with ⟨-, h0⟩ | ⟨g, cap, cur, h, -⟩
                      · omega
                      · exact ⟨_, _, h⟩
                    subst eu
                    obtain ⟨-, -, p2⟩ := row3 rv
                    have r0 : wr.cell? ⟨gs, i * 2, none⟩ = some (.int .i64 (L[i]).1) := (o2.cellAt (i * 2) (by omega)).trans (rowS_at L i hi0).1
                    have r1 : wr.cell? ⟨gs, i * 2 + 1, none⟩ = some (.slice (some ⟨g, 0, none⟩) n cap) := ((o2.cellAt (i * 2 + 1) (by omega)).trans (rowS_at L i hi0).2).trans (by rw [HQ.out hi0])
                    clear rv o1 o2
                    go_wp2_with fail
                    clear p2 r0 r1 cx fx JF
                    go_roundw
                    case rel => exact ⟨kk + 1, by omega, by go_num, JP⟩
                    case measure => simp [intOf]; omega
                  by_cases z3 : x = 20000
                  case pos =>
                    have ez3 : (x == 20000) = true := by simpa using z3
                    clear HCd HCx
                    obtain ⟨v, u, rv, o1, o2⟩ := JF.out.row
                    obtain ⟨gs, cs, eu⟩ : ∃ gs cs, u = .slice (some ⟨gs, 0, none⟩) L.length cs := by
                      rcases o2.2 with ⟨-, h0⟩ | ⟨g, cap, cur, h, -⟩
                      · omega
                      · exact ⟨_, _, h⟩
                    subst eu
                    obtain ⟨-, -, p2⟩ := row3 rv
                    have r0 : wr.cell? ⟨gs, i * 2, none⟩ = some (.int .i64 (L[i]).1) := (o2.cellAt (i * 2) (by omega)).trans (rowS_at L i hi0).1
                    have r1 : wr.cell? ⟨gs, i * 2 + 1, none⟩ = some (.slice (some ⟨g, 0, none⟩) n cap) := ((o2.cellAt (i * 2 + 1) (by omega)).trans (rowS_at L i hi0).2).trans (by rw [HQ.out hi0])
                    clear rv o1 o2
                    go_wp2_with fail
                    clear p2 r0 r1 cx fx JF
                    go_roundw
                    case rel => exact ⟨kk + 1, by omega, by go_num, JP⟩
                    case measure => simp [intOf]; omega
                  have ez3 : (x == 20000) = false := by simpa using z3
                  by_cases z4 : x = 20100
                  case pos =>
                    have ez4 : (x == 20100) = true := by simpa using z4
                    clear HCd HCx
                    obtain ⟨v, u, rv, o1, o2⟩ := JF.out.row
                    obtain ⟨gs, cs, eu⟩ : ∃ gs cs, u = .slice (some ⟨gs, 0, none⟩) L.length cs := by
                      rcases o2.2 with ⟨-, h0⟩ | ⟨g, cap, cur, h, -⟩
                      · omega
                      · exact ⟨_, _, h⟩
                    subst eu
                    obtain ⟨-, -, p2⟩ := row3 rv
                    have r0 : wr.cell? ⟨gs, i * 2, none⟩ = some (.int .i64 (L[i]).1) := (o2.cellAt (i * 2) (by omega)).trans (rowS_at L i hi0).1
                    have r1 : wr.cell? ⟨gs, i * 2 + 1, none⟩ = some (.slice (some ⟨g, 0, none⟩) n cap) := ((o2.cellAt (i * 2 + 1) (by omega)).trans (rowS_at L i hi0).2).trans (by rw [HQ.out hi0])
                    clear rv o1 o2
                    go_wp2_with fail
                    clear p2 r0 r1 cx fx JF
                    go_roundw
                    case rel => exact ⟨kk + 1, by omega, by go_num, JP⟩
                    case measure => simp [intOf]; omega
                  have ez4 : (x == 20100) = false := by simpa using z4
                  by_cases z5 : x = 20021
                  case pos =>
                    have ez5 : (x == 20021) = true := by simpa using z5
                    clear HCd HCx
                    obtain ⟨v, u, rv, o1, o2⟩ := JF.out.row
                    obtain ⟨gs, cs, eu⟩ : ∃ gs cs, u = .slice (some ⟨gs, 0, none⟩) L.length cs := by
                      rcases o2.2 with ⟨-, h0⟩ | ⟨g, cap, cur, h, -⟩
                      · omega
                      · exact ⟨_, _, h⟩
                    subst eu
                    obtain ⟨-, -, p2⟩ := row3 rv
                    have r0 : wr.cell? ⟨gs, i * 2, none⟩ = some (.int .i64 (L[i]).1) := (o2.cellAt (i * 2) (by omega)).trans (rowS_at L i hi0).1
                    have r1 : wr.cell? ⟨gs, i * 2 + 1, none⟩ = some (.slice (some ⟨g, 0, none⟩) n cap) := ((o2.cellAt (i * 2 + 1) (by omega)).trans (rowS_at L i hi0).2).trans (by rw [HQ.out hi0])
                    clear rv o1 o2
                    go_wp2_with fail
                    clear p2 r0 r1 cx fx JF
                    go_roundw
                    case rel => exact ⟨kk + 1, by omega, by go_num, JP⟩
                    case measure => simp [intOf]; omega
                  have ez5 : (x == 20021) = false := by simpa using z5
                  by_cases z6 : x = 22121
                  case pos =>
                    have ez6 : (x == 22121) = true := by simpa using z6
                    clear HCd HCx
                    obtain ⟨v, u, rv, o1, o2⟩ := JF.out.row
                    obtain ⟨gs, cs, eu⟩ : ∃ gs cs, u = .slice (some ⟨gs, 0, none⟩) L.length cs := by
                      rcases o2.2 with ⟨-, h0⟩ | ⟨g, cap, cur, h, -⟩
                      · omega
                      · exact ⟨_, _, h⟩
                    subst eu
                    obtain ⟨-, -, p2⟩ := row3 rv
                    have r0 : wr.cell? ⟨gs, i * 2, none⟩ = some (.int .i64 (L[i]).1) := (o2.cellAt (i * 2) (by omega)).trans (rowS_at L i hi0).1
                    have r1 : wr.cell? ⟨gs, i * 2 + 1, none⟩ = some (.slice (some ⟨g, 0, none⟩) n cap) := ((o2.cellAt (i * 2 + 1) (by omega)).trans (rowS_at L i hi0).2).trans (by rw [HQ.out hi0])
                    clear rv o1 o2
                    go_wp2_with fail
                    clear p2 r0 r1 cx fx JF
                    go_roundw
                    case rel => exact ⟨kk + 1, by omega, by go_num, JP⟩
                    case measure => simp [intOf]; omega
                  have ez6 : (x == 22121) = false := by simpa using z6
                  have JM : Hid (Dt W w b g4 g5 ver es L (fun j m => j < i ∨ (j = i ∧ m < kk + 1)) wr) := Lib.hid ((JF.out.mark hi0 (HQ.out hi0) HR.out HCx.out (HCd.out.2 (fun q => by unfold bad at q; omega))).weak (fun j m _ q => by omega))
                  clear JP JF HR HCd HCx
                  go_wp2_with fail
                  go_roundw
                  case rel => exact ⟨kk + 1, by omega, by go_num, JM⟩
                  case measure => simp [intOf]; omega
                · have y2 : ¬ (kk : Int) < (n : Int) := by omega
                  have JN : Hid (Dt W w b g4 g5 ver es L (fun j _ => j < i + 1) wr) := Lib.hid (dt_done JF.out hi0 (HQ.out hi0) (by omega))
                  clear JF
                  go_wp2_with fail
                  go_roundw
                  case rel => exact ⟨i + 1, by omega, by go_num, JN⟩
                  case measure => simp [intOf]; omega
            · have i2 : ¬ (i : Int) < (L.length : Int) := by omega
              obtain rfl : i = L.length := by omega
              obtain ⟨v, u, rv, o1, o2⟩ := JF.out.row
              obtain ⟨Av, cv, ev⟩ := sl_of o1
              obtain ⟨Aw, cw, ew⟩ := sl_of o2
              subst ev; subst ew
              obtain ⟨p0, p1, p2⟩ := row3 rv
              obtain ⟨q0, q1, q2⟩ := row3 JF.out.r4
              have f0 := JF.out.r4.thaw 0
              have f1 := JF.out.r4.thaw 1
              have f2 := JF.out.r4.thaw 2
              have HF := Lib.hid (JF.out.final rv o1 o2 HE.out.2 HLs.out)
              clear rv o1 o2 JF i2 hi0
              go_wp2_with fail
              have RR := HF.out.1
              exact bodyPost_ret (v := .agg #[.int .i64 ver, .slice Av es.length cv, .slice Aw L.length cw]) (by obtain ⟨z0, z1, z2⟩ := row3 RR; simp [results, Tryd.results11, z0, z1, z2, go_sem]) rfl (by
                obtain ⟨ss, h1, h2, h3, h4⟩ := HF.out.2
                exact ⟨_, es, ss, rfl, h1, HE.out, h2, h3, h4⟩)
end Go.Proofs.YtjaopjhfjijdaaaDoor
