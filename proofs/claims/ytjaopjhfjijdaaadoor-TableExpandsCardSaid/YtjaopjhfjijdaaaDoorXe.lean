/- The walk of TableExpands. -/
import Derived.Test.YtjaopjhfjijdaaaDoorXs
import Derived.Test.YtjaopjhfjijdaaaDoorSl
import Derived.Test.YtjaopjhfjijdaaaDoorXf
import Derived.Test.YtjaopjhfjijdaaaDoorSt
import Derived.Test.YtjaopjhfjijdaaaDoorCo
import Derived.Test.YtjaopjhfjijdaaaDoorAw
namespace Go.Proofs.YtjaopjhfjijdaaaDoor
open Go.RowKit

set_option maxRecDepth 100000 in
set_option maxHeartbeats 4000000 in
theorem tableExpands_any (tv gv lv : Value) (v0 n0 : Int) (es0 : List En) (ss0 : List Sq) (C0 : List Int) (W0 : World) (hT : Tab W0) (hr : TbIn W0 tv v0 es0 ss0) (hg : NmIn W0 gv C0) (hl : ListIn W0 lv) (hn : I64 n0)
    (l1 : es0.length ≤ 281474976710656) (l2 : ss0.length ≤ 281474976710656) (l3 : ∀ s ∈ ss0, s.2.length ≤ 281474976710656) :
    Calls Tryd.prog 3 #[tv, gv, lv, .int .i64 n0] W0 fun e w' => e = .returned (.bool true) ∧ Below W0.heap.size W0 w' := by
  have HN := Lib.hid hn
  have HR := Lib.hid hr
  obtain ⟨a0, b0, rfl, -, -⟩ := hr
  obtain ⟨Ag, cg, rfl, hcg, hmg, -⟩ := id hg
  have hb4 : Below W0.heap.size W0 (W0.alloc (.cells #[.int .i64 v0, a0, b0] 25)) := (Below.refl _ _).alloc (Nat.le_refl _) _
  have HW : Hid (Row (W0.alloc (.cells #[.int .i64 v0, a0, b0] 25)) W0.heap.size 25 #[.int .i64 v0, a0, b0] ∧ TbIn (W0.alloc (.cells #[.int .i64 v0, a0, b0] 25)) (.agg #[.int .i64 v0, a0, b0]) v0 es0 ss0 ∧ NmIn (W0.alloc (.cells #[.int .i64 v0, a0, b0] 25)) (.slice Ag C0.length cg) C0 ∧ ListIn (W0.alloc (.cells #[.int .i64 v0, a0, b0] 25)) lv ∧ Tab (W0.alloc (.cells #[.int .i64 v0, a0, b0] 25)) ∧ Below W0.heap.size W0 (W0.alloc (.cells #[.int .i64 v0, a0, b0] 25))) := Lib.hid ⟨Row.new _ _ _, HR.out.under hb4, hg.under hb4, hl.under hb4, hT.under hb4, hb4⟩
  clear hb4 HR hg hl hT hn
  have HL3 := Lib.hid l3
  clear l3
  go_enter Tryd.func3, Tryd.ntmps3
  go_upto_region 1 with fail
  refine forget (fun V => Hid (Row V W0.heap.size 25 #[.int .i64 v0, a0, b0] ∧ TbIn V (.agg #[.int .i64 v0, a0, b0]) v0 es0 ss0 ∧ NmIn V (.slice Ag C0.length cg) C0 ∧ ListIn V lv ∧ Tab V ∧ Below W0.heap.size W0 V)) HW ?_
  clear HW
  obtain ⟨g4, e4⟩ : ∃ g4, W0.heap.size = g4 := ⟨_, rfl⟩
  have E4 := Lib.hid e4
  rw [e4]
  clear e4
  intro W HW
  obtain ⟨q0, q1, q2⟩ := row3 HW.out.1
  go_wp2_with fail
  refine (smallTable_any _ v0 es0 ss0 W HW.out.2.1 l1 l2 HL3.out).mono ?_
  rintro e w1 ⟨z, rfl, hz, hb⟩
  clear q0 q1 q2
  have HV : Hid (Row w1 g4 25 #[.int .i64 v0, a0, b0] ∧ TbIn w1 (.agg #[.int .i64 v0, a0, b0]) v0 es0 ss0 ∧ NmIn w1 (.slice Ag C0.length cg) C0 ∧ ListIn w1 lv ∧ Tab w1 ∧ Below W0.heap.size W0 w1) := Lib.hid ⟨HW.out.1.under hb, HW.out.2.1.under hb, HW.out.2.2.1.under hb, HW.out.2.2.2.1.under hb, HW.out.2.2.2.2.1.under hb, by have hB := HW.out.2.2.2.2.2; rw [← E4.out] at hB; exact hB.trans (hb.mono hB.size)⟩
  clear HW hb
  cases z with
  | false =>
    go_wp2_with fail
    refine (awake_from (w0 := W0) w1 HV.out.2.2.2.2.1 HV.out.2.2.2.2.2).mono ?_
    rintro e w9 ⟨rfl, hb⟩
    have HF := Lib.hid hb
    clear hb
    go_wp2_with fail
    go_ret
    exact ⟨rfl, HF.out⟩
  | true =>
    have HZ := Lib.hid (hz rfl)
    clear hz
    by_cases h60 : 60 < C0.length
    · have i60 : (60 : Int) < (C0.length : Int) := by omega
      go_wp2_with fail
      refine (awake_from (w0 := W0) w1 HV.out.2.2.2.2.1 HV.out.2.2.2.2.2).mono ?_
      rintro e w9 ⟨rfl, hb⟩
      have HF := Lib.hid hb
      clear hb
      go_wp2_with fail
      go_ret
      exact ⟨rfl, HF.out⟩
    · have i60 : ¬ (60 : Int) < (C0.length : Int) := by omega
      go_wp2_with fail
      refine (new_any w1 lv HV.out.2.2.2.1).mono ?_
      rintro e w2 ⟨rfl, hs, hb⟩
      obtain ⟨b, eb⟩ : ∃ b, w1.heap.size = b := ⟨_, rfl⟩
      rw [eb] at hs ⊢
      have H1 : Hid (Src w1 b w2 ∧ Row w2 g4 25 #[.int .i64 v0, a0, b0]) := Lib.hid ⟨hs, HV.out.1.under hb⟩
      clear hs hb
      go_wp2_with fail
      refine (range_any w1 b w2 1 3 H1.out.1 (by decide) (by decide) (by decide) (by decide)).mono ?_
      rintro e w3 ⟨x, ⟨x1, x2⟩, rfl, hs, hg⟩
      have H2 : Hid (Src w1 b w3 ∧ Row w3 g4 25 #[.int .i64 v0, a0, b0]) := Lib.hid ⟨hs, H1.out.2.keep H1.out.1 hg (by decide)⟩
      clear hs hg H1
      go_wp2_with fail
      refine (table_any w1 b w3 x H2.out.1).mono ?_
      rintro e w4 ⟨t, es, ss, rfl, htb, hes, hss, hs, hg⟩
      obtain ⟨va, vb, L, rfl, htl⟩ := htb
      obtain ⟨A1, c1, ev1⟩ := sl_of htl.2.2.1
      obtain ⟨A2, c2, ev2⟩ := sl_of htl.2.2.2.1
      subst ev1; subst ev2
      have H3 : Hid (Src w1 b w4 ∧ Row w4 g4 25 #[.int .i64 v0, a0, b0] ∧ TbL b w3.heap.size w4 (.slice A1 es.length c1) (.slice A2 L.length c2) es ss L) := Lib.hid ⟨hs, H2.out.2.keep H2.out.1 hg (by decide), htl⟩
      have HES := Lib.hid hes
      have HSS := Lib.hid hss
      clear hs hg H2 htl hes hss
      go_upto_region 5 with fail
      have hb5 : Below w4.heap.size w4 (w4.alloc (.cells #[.int .i64 x, .slice A1 es.length c1, .slice A2 L.length c2] 25)) := (Below.refl _ _).alloc (Nat.le_refl _) _
      have H4 : Hid (Src w1 b (w4.alloc (.cells #[.int .i64 x, .slice A1 es.length c1, .slice A2 L.length c2] 25)) ∧ Row (w4.alloc (.cells #[.int .i64 x, .slice A1 es.length c1, .slice A2 L.length c2] 25)) g4 25 #[.int .i64 v0, a0, b0] ∧ Row (w4.alloc (.cells #[.int .i64 x, .slice A1 es.length c1, .slice A2 L.length c2] 25)) w4.heap.size 25 #[.int .i64 x, .slice A1 es.length c1, .slice A2 L.length c2] ∧ TbL b w3.heap.size (w4.alloc (.cells #[.int .i64 x, .slice A1 es.length c1, .slice A2 L.length c2] 25)) (.slice A1 es.length c1) (.slice A2 L.length c2) es ss L) := Lib.hid ⟨H3.out.1.under hb5, H3.out.2.1.under hb5, Row.new _ _ _, H3.out.2.2.under hb5⟩
      clear hb5 H3
      refine forget (fun V => Hid (Src w1 b V ∧ Row V g4 25 #[.int .i64 v0, a0, b0] ∧ Row V w4.heap.size 25 #[.int .i64 x, .slice A1 es.length c1, .slice A2 L.length c2] ∧ TbL b w3.heap.size V (.slice A1 es.length c1) (.slice A2 L.length c2) es ss L)) H4 ?_
      clear H4
      generalize w4.heap.size = g10
      intro w5 H5
      obtain ⟨q0, q1, q2⟩ := row3 H5.out.2.2.1
      go_wp2_with fail
      refine (bent_any w1 b _ w5 x _ _ es ss L H5.out.1 H5.out.2.2.2 HES.out.1 HSS.out.1 (fun s hs => by obtain ⟨i, hi, rfl⟩ := List.getElem_of_mem hs; exact (HSS.out.2 i hi).2.1)).mono ?_
      rintro e w6 ⟨y, vc, vd, es2, ss2, L2, rfl, htl, m1, m2, m3, hs, hg⟩
      clear q0 q1 q2
      obtain ⟨A3, c3, ev1⟩ := sl_of htl.2.2.1
      obtain ⟨A4, c4, ev2⟩ := sl_of htl.2.2.2.1
      subst ev1; subst ev2
      have HM := Lib.hid m3
      clear m3
      have HM1 := Lib.hid m1
      have HM2b := Lib.hid m2
      clear m1 m2
      have H6 : Hid (Src w1 b w6 ∧ Row w6 g4 25 #[.int .i64 v0, a0, b0] ∧ Row w6 g10 25 #[.int .i64 x, .slice A1 es.length c1, .slice A2 L.length c2] ∧ Liv w1 b w6 (.agg #[.int .i64 x, .slice A1 es.length c1, .slice A2 L.length c2]) x es ss ∧ Liv w1 b w6 (.agg #[.int .i64 y, .slice A3 es2.length c3, .slice A4 L2.length c4]) y es2 ss2) := Lib.hid ⟨hs, H5.out.2.1.keep H5.out.1 hg (by decide), H5.out.2.2.1.keep H5.out.1 hg (by decide), (Liv.own H5.out.2.2.2).step hg, Liv.own htl⟩
      clear hs hg H5 htl
      go_upto_region 6 with fail
      have hb7 : Below w6.heap.size w6 (w6.alloc (.cells #[.int .i64 y, .slice A3 es2.length c3, .slice A4 L2.length c4] 25)) := (Below.refl _ _).alloc (Nat.le_refl _) _
      have H7 : Hid (Xs w1 b g4 g10 w6.heap.size (v0, a0, b0, es0, ss0) (x, .slice A1 es.length c1, .slice A2 L.length c2, es, ss) (y, .slice A3 es2.length c3, .slice A4 L2.length c4, es2, ss2) (w6.alloc (.cells #[.int .i64 y, .slice A3 es2.length c3, .slice A4 L2.length c4] 25))) := Lib.hid ⟨H6.out.1.under hb7, H6.out.2.1.under hb7, H6.out.2.2.1.under hb7, Row.new _ _ _, fun t ht => by
        simp only [List.mem_cons, List.not_mem_nil, or_false] at ht
        rcases ht with rfl | rfl | rfl
        · exact Liv.old HV.out.2.1
        · exact H6.out.2.2.2.1.under hb7
        · exact H6.out.2.2.2.2.under hb7⟩
      clear hb7 H6
      refine forget (fun V => Hid (Xs w1 b g4 g10 w6.heap.size (v0, a0, b0, es0, ss0) (x, .slice A1 es.length c1, .slice A2 L.length c2, es, ss) (y, .slice A3 es2.length c3, .slice A4 L2.length c4, es2, ss2) V)) H7 ?_
      clear H7
      generalize w6.heap.size = g11
      intro w7 H7
      obtain ⟨q0, q1, q2⟩ := row3 H7.out.2.1
      obtain ⟨p0, p1, p2⟩ := row3 H7.out.2.2.1
      obtain ⟨r0, r1, r2⟩ := row3 H7.out.2.2.2.1
      go_wp2_with fail
      clear q0 q1 q2 p0 p1 p2 r0 r1 r2
      have H8 : Hid (Xs w1 b g4 g10 g11 (v0, a0, b0, es0, ss0) (x, .slice A1 es.length c1, .slice A2 L.length c2, es, ss) (y, .slice A3 es2.length c3, .slice A4 L2.length c4, es2, ss2) (w7.alloc (.cells #[.int .i64 v0, a0, b0, .int .i64 x, .slice A1 es.length c1, .slice A2 L.length c2, .int .i64 y, .slice A3 es2.length c3, .slice A4 L2.length c4] 25)) ∧ Xt w7.heap.size (v0, a0, b0, es0, ss0) (x, .slice A1 es.length c1, .slice A2 L.length c2, es, ss) (y, .slice A3 es2.length c3, .slice A4 L2.length c4, es2, ss2) (w7.alloc (.cells #[.int .i64 v0, a0, b0, .int .i64 x, .slice A1 es.length c1, .slice A2 L.length c2, .int .i64 y, .slice A3 es2.length c3, .slice A4 L2.length c4] 25))) := Lib.hid ⟨H7.out.under ((Below.refl _ _).alloc (Nat.le_refl _) _), Row.new _ _ _⟩
      clear H7
      refine forget (fun V => Hid (Xs w1 b g4 g10 g11 (v0, a0, b0, es0, ss0) (x, .slice A1 es.length c1, .slice A2 L.length c2, es, ss) (y, .slice A3 es2.length c3, .slice A4 L2.length c4, es2, ss2) V ∧ Xt w7.heap.size (v0, a0, b0, es0, ss0) (x, .slice A1 es.length c1, .slice A2 L.length c2, es, ss) (y, .slice A3 es2.length c3, .slice A4 L2.length c4, es2, ss2) V)) H8 ?_
      clear H8
      generalize w7.heap.size = g47
      obtain ⟨p, hp⟩ : ∃ p : Tx, (v0, a0, b0, es0, ss0) = p := ⟨_, rfl⟩
      obtain ⟨q, hq⟩ : ∃ q : Tx, (x, .slice A1 es.length c1, .slice A2 L.length c2, es, ss) = q := ⟨_, rfl⟩
      obtain ⟨r, hr⟩ : ∃ r : Tx, (y, .slice A3 es2.length c3, .slice A4 L2.length c4, es2, ss2) = r := ⟨_, rfl⟩
      rw [hp, hq, hr]
      have HP := Lib.hid hp
      have HQ := Lib.hid hq
      have HR := Lib.hid hr
      clear hp hq hr
      intro w8 H8
      go_loopw [49] (fun t Y => ∃ k : Nat, k ≤ 3 ∧ t = .int .i64 k ∧ Hid (Xs w1 b g4 g10 g11 p q r Y ∧ Xt g47 p q r Y)) (fun t _ => 3 - (intOf t).toNat)
      case atStart => exact ⟨0, by decide, rfl, H8⟩
      case round =>
        clear H8
        obtain ⟨k, hk, rfl, M⟩ := hrel
        by_cases hlt : k < 3
        · have k1 : (k : Int) < 3 := by omega
          have k0 : (0 : Int) ≤ (k : Int) := by omega
          obtain ⟨t, ht, z0, z1, z2⟩ := M.out.2.pick hlt
          obtain ⟨⟨A5, c5, e5⟩, A6, c6, e6⟩ := M.out.1.forms ht
          have HTt := Lib.hid ht
          clear ht
          have h5 : Xs w1 b g4 g10 g11 p q r (wr.alloc (.cells #[.int .i64 t.1, t.2.1, t.2.2.1] 25)) ∧ Xt g47 p q r (wr.alloc (.cells #[.int .i64 t.1, t.2.1, t.2.2.1] 25)) ∧ Row (wr.alloc (.cells #[.int .i64 t.1, t.2.1, t.2.2.1] 25)) wr.heap.size 25 #[.int .i64 t.1, t.2.1, t.2.2.1] := ⟨M.out.1.under ((Below.refl _ _).alloc (Nat.le_refl _) _), Row.under M.out.2 ((Below.refl _ _).alloc (Nat.le_refl _) _), Row.new _ _ _⟩
          rw [e5, e6] at h5
          rw [e5] at z1
          rw [e6] at z2
          have H5 := Lib.hid h5
          clear h5
          have H6 := Lib.hid e5
          have H7 := Lib.hid e6
          clear e5 e6
          go_upto_region 9 with fail
          refine forget (fun V => Hid (Xs w1 b g4 g10 g11 p q r V ∧ Xt g47 p q r V ∧ Row V wr.heap.size 25 #[.int .i64 t.1, .slice A5 t.2.2.2.1.length c5, .slice A6 t.2.2.2.2.length c6])) H5 ?_
          clear H5 M z0 z1 z2
          generalize wr.heap.size = g13
          intro w9 M
          go_wp2_with fail
          refine (codes_any w1 b w9 8 M.out.1.1 (by decide)).mono ?_
          rintro e wA ⟨u1, D1, rfl, hn1, -, hs, hg⟩
          obtain ⟨U1, d1, eu, -⟩ := id hn1.1
          subst eu
          have MA : Hid ((Xs w1 b g4 g10 g11 p q r wA ∧ Xt g47 p q r wA ∧ Row wA g13 25 #[.int .i64 t.1, .slice A5 t.2.2.2.1.length c5, .slice A6 t.2.2.2.2.length c6]) ∧ LivC w1 b wA (.slice U1 D1.length d1) D1) := Lib.hid ⟨⟨M.out.1.step hs hg, Xt.step M.out.2.1 M.out.1.1 hg, M.out.2.2.keep M.out.1.1 hg (by decide)⟩, LivC.own hn1⟩
          clear hs hg M hn1
          go_wp2_with fail
          refine (codes_any w1 b wA 4 MA.out.1.1.1 (by decide)).mono ?_
          rintro e wB ⟨u2, D2, rfl, hn2, -, hs, hg⟩
          obtain ⟨U2, d2, eu, -⟩ := id hn2.1
          subst eu
          have MB : Hid ((Xs w1 b g4 g10 g11 p q r wB ∧ Xt g47 p q r wB ∧ Row wB g13 25 #[.int .i64 t.1, .slice A5 t.2.2.2.1.length c5, .slice A6 t.2.2.2.2.length c6]) ∧ LivC w1 b wB (.slice U1 D1.length d1) D1 ∧ LivC w1 b wB (.slice U2 D2.length d2) D2) := Lib.hid ⟨⟨MA.out.1.1.step hs hg, Xt.step MA.out.1.2.1 MA.out.1.1.1 hg, MA.out.1.2.2.keep MA.out.1.1.1 hg (by decide)⟩, MA.out.2.step hg, LivC.own hn2⟩
          clear hs hg MA hn2
          have hbl : b < wB.heap.size := by
            obtain ⟨_, _, _, _, _, _, h3, _⟩ := MB.out.1.1.1.row
            exact (Array.getElem?_eq_some_iff.1 h3).1
          have hnm : NmO b (wB.alloc (.cells #[.int .i64 15000] 3)) (.slice (some ⟨wB.heap.size, 0, none⟩) 1 1) [15000] := NmO.own (base := wB.heap.size) (fun y hy => by rw [List.mem_singleton.1 hy]; exact ⟨by omega, by omega⟩) (World.ownsRow_lit (e := 3) (base := wB.heap.size) (size := 1) wB #[.int .i64 15000] 1 (Nat.le_refl _) (by decide) rfl) hbl
          have hb1 : Below wB.heap.size wB (wB.alloc (.cells #[.int .i64 15000] 3)) := (Below.refl _ _).alloc (Nat.le_refl _) _
          have MC : Hid ((Xs w1 b g4 g10 g11 p q r (wB.alloc (.cells #[.int .i64 15000] 3)) ∧ Xt g47 p q r (wB.alloc (.cells #[.int .i64 15000] 3)) ∧ Row (wB.alloc (.cells #[.int .i64 15000] 3)) g13 25 #[.int .i64 t.1, .slice A5 t.2.2.2.1.length c5, .slice A6 t.2.2.2.2.length c6]) ∧ LivC w1 b (wB.alloc (.cells #[.int .i64 15000] 3)) (.slice U1 D1.length d1) D1 ∧ LivC w1 b (wB.alloc (.cells #[.int .i64 15000] 3)) (.slice U2 D2.length d2) D2 ∧ LivC w1 b (wB.alloc (.cells #[.int .i64 15000] 3)) (.slice (some ⟨wB.heap.size, 0, none⟩) 1 1) [15000]) := Lib.hid ⟨⟨MB.out.1.1.under hb1, Xt.under MB.out.1.2.1 hb1, MB.out.1.2.2.under hb1⟩, MB.out.2.1.under hb1, MB.out.2.2.under hb1, LivC.own hnm⟩
          clear hb1 hnm hbl MB
          have hb2 : Below (wB.alloc (.cells #[.int .i64 15000] 3)).heap.size (wB.alloc (.cells #[.int .i64 15000] 3)) ((wB.alloc (.cells #[.int .i64 15000] 3)).alloc (.cells #[.slice Ag C0.length cg, .slice U1 D1.length d1, .slice U2 D2.length d2, .slice (some ⟨wB.heap.size, 0, none⟩) 1 1] 26)) := (Below.refl _ _).alloc (Nat.le_refl _) _
          have hsz : (wB.alloc (.cells #[.int .i64 15000] 3)).heap.size = wB.heap.size + 1 := by simp
          have MD : Hid ((Xs w1 b g4 g10 g11 p q r ((wB.alloc (.cells #[.int .i64 15000] 3)).alloc (.cells #[.slice Ag C0.length cg, .slice U1 D1.length d1, .slice U2 D2.length d2, .slice (some ⟨wB.heap.size, 0, none⟩) 1 1] 26)) ∧ Xt g47 p q r ((wB.alloc (.cells #[.int .i64 15000] 3)).alloc (.cells #[.slice Ag C0.length cg, .slice U1 D1.length d1, .slice U2 D2.length d2, .slice (some ⟨wB.heap.size, 0, none⟩) 1 1] 26)) ∧ Row ((wB.alloc (.cells #[.int .i64 15000] 3)).alloc (.cells #[.slice Ag C0.length cg, .slice U1 D1.length d1, .slice U2 D2.length d2, .slice (some ⟨wB.heap.size, 0, none⟩) 1 1] 26)) g13 25 #[.int .i64 t.1, .slice A5 t.2.2.2.1.length c5, .slice A6 t.2.2.2.2.length c6]) ∧ Xc w1 b (wB.heap.size + 1) (.slice Ag C0.length cg, C0) (.slice U1 D1.length d1, D1) (.slice U2 D2.length d2, D2) (.slice (some ⟨wB.heap.size, 0, none⟩) 1 1, [15000]) ((wB.alloc (.cells #[.int .i64 15000] 3)).alloc (.cells #[.slice Ag C0.length cg, .slice U1 D1.length d1, .slice U2 D2.length d2, .slice (some ⟨wB.heap.size, 0, none⟩) 1 1] 26))) := Lib.hid ⟨⟨MC.out.1.1.under hb2, Xt.under MC.out.1.2.1 hb2, MC.out.1.2.2.under hb2⟩, Row.newAt hsz, fun c hc => by
            simp only [List.mem_cons, List.not_mem_nil, or_false] at hc
            rcases hc with rfl | rfl | rfl | rfl
            · exact LivC.old HV.out.2.2.1
            · exact MC.out.2.1.under hb2
            · exact MC.out.2.2.1.under hb2
            · exact MC.out.2.2.2.under hb2⟩
          clear hb2 hsz MC
          go_upto_region 10 with fail
          refine forget (fun V => Hid ((Xs w1 b g4 g10 g11 p q r V ∧ Xt g47 p q r V ∧ Row V g13 25 #[.int .i64 t.1, .slice A5 t.2.2.2.1.length c5, .slice A6 t.2.2.2.2.length c6]) ∧ Xc w1 b (wB.heap.size + 1) (.slice Ag C0.length cg, C0) (.slice U1 D1.length d1, D1) (.slice U2 D2.length d2, D2) (.slice (some ⟨wB.heap.size, 0, none⟩) 1 1, [15000]) V)) MD ?_
          clear MD
          generalize wB.heap.size + 1 = g59
          generalize wB.heap.size = g58
          obtain ⟨j0, hj0⟩ : ∃ j0 : Cx, (.slice Ag C0.length cg, C0) = j0 := ⟨_, rfl⟩
          obtain ⟨j1, hj1⟩ : ∃ j0 : Cx, (.slice U1 D1.length d1, D1) = j0 := ⟨_, rfl⟩
          obtain ⟨j2, hj2⟩ : ∃ j0 : Cx, (.slice U2 D2.length d2, D2) = j0 := ⟨_, rfl⟩
          obtain ⟨j3, hj3⟩ : ∃ j0 : Cx, (.slice (some ⟨g58, 0, none⟩) 1 1, [15000]) = j0 := ⟨_, rfl⟩
          rw [hj0, hj1, hj2, hj3]
          clear hj0 hj1 hj2 hj3
          intro wE M
          go_wp2_with fail
          go_loopw [61] (fun u Y => ∃ m : Nat, m ≤ 4 ∧ u = .int .i64 m ∧ Hid ((Xs w1 b g4 g10 g11 p q r Y ∧ Xt g47 p q r Y ∧ Row Y g13 25 #[.int .i64 t.1, .slice A5 t.2.2.2.1.length c5, .slice A6 t.2.2.2.2.length c6]) ∧ Xc w1 b g59 j0 j1 j2 j3 Y)) (fun u _ => 4 - (intOf u).toNat)
          case atStart => exact ⟨0, by decide, rfl, M⟩
          case round =>
            clear M
            obtain ⟨m, hm, rfl, M⟩ := hrel
            by_cases hlm : m < 4
            · have m1 : (m : Int) < 4 := by omega
              have m0 : (0 : Int) ≤ (m : Int) := by omega
              obtain ⟨c, hc, y0, Ac, dc, ec⟩ := M.out.2.pick M.out.1.1.1 hlm
              have HN := Lib.hid ((M.out.2.2 c hc).now M.out.1.1.1)
              rw [ec] at HN y0
              clear hc ec
              obtain ⟨q0, q1, q2⟩ := row3 M.out.1.2.2
              have HTb := Lib.hid (M.out.1.1.tbF HTt.out H6.out H7.out)
              go_wp2_with fail
              refine (expand_any _ _ t.1 t.2.2.2.1 t.2.2.2.2 c.2 wr HTb.out HN.out (HV.out.2.2.2.2.1.under M.out.1.1.1.below)).mono ?_
              clear y0 q0 q1 q2
              rintro e wF ⟨xa, La, va, hAa, rfl, hEa, hb⟩
              obtain ⟨Aa, ca, ev, -⟩ := id hEa
              subst ev
              have MF : Hid (((Xs w1 b g4 g10 g11 p q r wF ∧ Xt g47 p q r wF ∧ Row wF g13 25 #[.int .i64 t.1, .slice A5 t.2.2.2.1.length c5, .slice A6 t.2.2.2.2.length c6]) ∧ Xc w1 b g59 j0 j1 j2 j3 wF) ∧ EnIn wF (.slice Aa La.length ca) La ∧ NmIn wF (.slice Ac c.2.length dc) c.2 ∧ TbIn wF (.agg #[.int .i64 t.1, .slice A5 t.2.2.2.1.length c5, .slice A6 t.2.2.2.2.length c6]) t.1 t.2.2.2.1 t.2.2.2.2 ∧ Ans t.1 t.2.2.2.1 t.2.2.2.2 c.2 xa La) := Lib.hid ⟨⟨⟨M.out.1.1.under hb, Xt.under M.out.1.2.1 hb, M.out.1.2.2.under hb⟩, M.out.2.under hb⟩, hEa, HN.out.under hb, HTb.out.under hb, hAa⟩
              clear hEa hb M HN HTb hAa
              obtain ⟨q0, q1, q2⟩ := row3 MF.out.1.1.2.2
              go_wp2_with fail
              refine (refExpand_any _ _ t.1 t.2.2.2.1 t.2.2.2.2 c.2 wF MF.out.2.2.2.1 MF.out.2.2.1).mono ?_
              clear q0 q1 q2
              rintro e wG ⟨xb, Lb, vb, hAb, rfl, hEb, hb⟩
              obtain ⟨rfl, rfl⟩ := Ans.one hAb MF.out.2.2.2.2
              obtain ⟨Ab, cb, ev, -⟩ := id hEb
              subst ev
              have MG : Hid (((Xs w1 b g4 g10 g11 p q r wG ∧ Xt g47 p q r wG ∧ Row wG g13 25 #[.int .i64 t.1, .slice A5 t.2.2.2.1.length c5, .slice A6 t.2.2.2.2.length c6]) ∧ Xc w1 b g59 j0 j1 j2 j3 wG) ∧ EnIn wG (.slice Aa Lb.length ca) Lb ∧ EnIn wG (.slice Ab Lb.length cb) Lb) := Lib.hid ⟨⟨⟨MF.out.1.1.1.under hb, Xt.under MF.out.1.1.2.1 hb, MF.out.1.1.2.2.under hb⟩, MF.out.1.2.under hb⟩, MF.out.2.1.under hb, hEb⟩
              clear hEb hb MF hAb
              have HSE := same_any _ _ Lb Lb wG MG.out.2.1 MG.out.2.2
              rw [decide_eq_true rfl] at HSE
              have HSE := Lib.hid HSE
              go_wp2_with fail
              refine HSE.out.mono ?_
              clear HSE
              rintro e wH ⟨rfl, hb⟩
              have MH : Hid ((Xs w1 b g4 g10 g11 p q r wH ∧ Xt g47 p q r wH ∧ Row wH g13 25 #[.int .i64 t.1, .slice A5 t.2.2.2.1.length c5, .slice A6 t.2.2.2.2.length c6]) ∧ Xc w1 b g59 j0 j1 j2 j3 wH) := Lib.hid ⟨⟨MG.out.1.1.1.under hb, Xt.under MG.out.1.1.2.1 hb, MG.out.1.1.2.2.under hb⟩, MG.out.1.2.under hb⟩
              clear hb MG
              go_wp2_with fail
              go_roundw
              case rel => exact ⟨m + 1, by omega, by go_num, MH⟩
              case measure => simp [intOf]; omega
            · have m1 : ¬ (m : Int) < 4 := by omega
              have M9 : Hid (Xs w1 b g4 g10 g11 p q r wr ∧ Xt g47 p q r wr ∧ Row wr g13 25 #[.int .i64 t.1, .slice A5 t.2.2.2.1.length c5, .slice A6 t.2.2.2.2.length c6]) := Lib.hid M.out.1
              clear M
              have HTb := Lib.hid (M9.out.1.tbF HTt.out H6.out H7.out)
              go_upto_region 17 with fail
              obtain ⟨q0, q1, q2⟩ := row3 M9.out.2.2
              refine wp_region_held_drew (S := fun Y : World => Y.cell? ⟨g13, 0, none⟩ = some (.int .i64 t.1) ∧ Y.cell? ⟨g13, 1, none⟩ = some (.slice A5 t.2.2.2.1.length c5) ∧ Y.cell? ⟨g13, 2, none⟩ = some (.slice A6 t.2.2.2.2.length c6)) (by kernel_rfl) ⟨q0, q1, q2⟩ (fun hHeld => ?_)
              clear q0 q1 q2
              have hd : Below wr.heap.size wr wr.drew := below_drewN (Below.refl _ _) 1
              have MA : Hid ((Xs w1 b g4 g10 g11 p q r wr.drew ∧ Xt g47 p q r wr.drew ∧ Row wr.drew g13 25 #[.int .i64 t.1, .slice A5 t.2.2.2.1.length c5, .slice A6 t.2.2.2.2.length c6]) ∧ TbIn wr.drew (.agg #[.int .i64 t.1, .slice A5 t.2.2.2.1.length c5, .slice A6 t.2.2.2.2.length c6]) t.1 t.2.2.2.1 t.2.2.2.2) := Lib.hid ⟨⟨M9.out.1.under hd, Xt.under M9.out.2.1 hd, M9.out.2.2.under hd⟩, HTb.out.under hd⟩
              clear M9 hd HTb
              generalize wr.drew = X17 at MA hHeld ⊢
              obtain ⟨z, hz⟩ : ∃ z, tbl t.1 t.2.2.2.1 t.2.2.2.2 = z := ⟨_, rfl⟩
              have HVa := validate_any _ t.1 t.2.2.2.1 t.2.2.2.2 X17 MA.out.2 (HV.out.2.2.2.2.1.under MA.out.1.1.1.below)
              have HVr := fun Y (hY : Below X17.heap.size X17 Y) => refValidate_any _ t.1 t.2.2.2.1 t.2.2.2.2 Y (MA.out.2.under hY)
              rw [hz] at HVa HVr
              clear hz
              have HVa := Lib.hid HVa
              have HVr := Lib.hid HVr
              refine wpAnyH_take (i := 0) (oi := ⟨some 87, _, _, _, _, none⟩) (v := ?_) rfl (by kernel_rfl) (by kernel_rfl) (by kernel_rfl) (fun _ _ _ h => h) (Or.inl ⟨by rfl, ?_⟩) (by assumption) ?_
              case refine_2 => (intro wx hSx; (try dsimp only at hSx); go_simp; first | done | with_reducible rfl)
              ((try simp only [Act.put]); (try simp only [List.setIfInBounds_toArray]); (try simp only [List.set_cons_succ]); (try simp only [List.set_cons_zero]))
              refine wpAnyH_take (i := 2) (oi := ⟨some 89, _, _, _, _, none⟩) (v := ?_) rfl (by kernel_rfl) (by kernel_rfl) (by kernel_rfl) (fun _ _ _ h => h) (Or.inl ⟨by rfl, ?_⟩) (by assumption) ?_
              case refine_2 => (intro wx hSx; (try dsimp only at hSx); go_simp; first | done | with_reducible rfl)
              ((try simp only [Act.put]); (try simp only [List.setIfInBounds_toArray]); (try simp only [List.set_cons_succ]); (try simp only [List.set_cons_zero]))
              refine wpAnyH_ready (rs := [1]) (by kernel_rfl) (by simp) ?_
              refine AllReadyH.cons (o := ⟨some 88, _, _, _, _, none⟩) rfl (fun Kx hK => ?_) AllReadyH.nil
              go_simp
              refine HVa.out.mono ?_
              rintro e wH ⟨rfl, hb⟩
              have HCr := Lib.hid (HVr.out _ hb)
              have MB : Hid (Xs w1 b g4 g10 g11 p q r wH ∧ Xt g47 p q r wH ∧ Row wH g13 25 #[.int .i64 t.1, .slice A5 t.2.2.2.1.length c5, .slice A6 t.2.2.2.2.length c6]) := Lib.hid ⟨MA.out.1.1.under hb, Xt.under MA.out.1.2.1 hb, MA.out.1.2.2.under hb⟩
              clear hb MA HVa HVr hHeld
              go_simp
              refine hK.out _ _ (row3 MB.out.2.2) (fun hHeld => ?_)
              clear hK Kx
              ((try simp only [Act.put]); (try simp only [List.setIfInBounds_toArray]); (try simp only [List.set_cons_succ]); (try simp only [List.set_cons_zero]))
              refine wpAnyH_ready (rs := [3]) (by kernel_rfl) (by simp) ?_
              refine AllReadyH.cons (o := ⟨some 90, _, _, _, _, none⟩) rfl (fun Kx hK => ?_) AllReadyH.nil
              go_simp
              refine HCr.out.mono ?_
              rintro e wI ⟨rfl, hb⟩
              have MC : Hid (Xs w1 b g4 g10 g11 p q r wI ∧ Xt g47 p q r wI ∧ Row wI g13 25 #[.int .i64 t.1, .slice A5 t.2.2.2.1.length c5, .slice A6 t.2.2.2.2.length c6]) := Lib.hid ⟨MB.out.1.under hb, Xt.under MB.out.2.1 hb, MB.out.2.2.under hb⟩
              clear hb MB HCr hHeld
              go_simp
              refine hK.out _ _ (row3 MC.out.2.2) (fun hHeld => ?_)
              clear hK Kx
              ((try simp only [Act.put]); (try simp only [List.setIfInBounds_toArray]); (try simp only [List.set_cons_succ]); (try simp only [List.set_cons_zero]))
              refine wpAnyH_take (i := 4) (oi := ⟨some 91, _, _, _, _, none⟩) (v := ?_) rfl (by kernel_rfl) (by kernel_rfl) (by kernel_rfl) (fun _ _ _ h => h) (Or.inl ⟨by rfl, ?_⟩) (by assumption) ?_
              case refine_2 => (intro wx hSx; (try dsimp only at hSx); go_simp; first | done | with_reducible rfl)
              ((try simp only [Act.put]); (try simp only [List.setIfInBounds_toArray]); (try simp only [List.set_cons_succ]); (try simp only [List.set_cons_zero]))
              refine wpAnyH_done (by kernel_rfl) ?_ _
              clear hHeld
              go_wp2_with fail
              go_roundw
              case rel => exact ⟨k + 1, by omega, by go_num, Lib.hid ⟨MC.out.1, MC.out.2.1⟩⟩
              case measure => simp [intOf]; omega
        · have k1 : ¬ (k : Int) < 3 := by omega
          have M0 : Hid (Xs w1 b g4 g10 g11 p q r wr) := Lib.hid M.out.1
          clear M
          have HLen : ∀ u ∈ [tx p, tx q, tx r], u.2.1.length ≤ 1000 ∧ u.2.2.length ≤ 1000 ∧ ∀ s ∈ u.2.2, s.2.length ≤ 1000 := by
            rw [← HP.out, ← HQ.out, ← HR.out]
            intro u hu
            simp only [List.mem_cons, List.not_mem_nil, or_false] at hu
            rcases hu with rfl | rfl | rfl
            · exact ⟨Nat.le_trans HZ.out.1 (by omega), Nat.le_trans HZ.out.2.1 (by omega), fun s hs => Nat.le_trans (HZ.out.2.2 s hs) (by omega)⟩
            · refine ⟨by have := HES.out.1; simp only; omega, Nat.le_trans HSS.out.1 (by omega), fun s hs => ?_⟩
              obtain ⟨i, hi, rfl⟩ := List.getElem_of_mem hs
              exact Nat.le_trans (HSS.out.2 i hi).2.1 (by omega)
            · exact ⟨Nat.le_trans HM1.out (by omega), Nat.le_trans HM2b.out (by omega), fun s hs => Nat.le_trans (HM.out s hs) (by omega)⟩
          have HLen := Lib.hid HLen
          go_wp2_with fail
          refine (range_any w1 b wr 0 4 M0.out.1 (by decide) (by decide) (by decide) (by decide)).mono ?_
          rintro e wA ⟨yr, ⟨y1, y2⟩, rfl, hs, hg⟩
          have MA : Hid (Xs w1 b g4 g10 g11 p q r wA) := Lib.hid (M0.out.step hs hg)
          clear hs hg M0 y1 y2
          have hb2 : Below wA.heap.size wA (wA.alloc (.cells #[.int .i64 n0, .int .i64 yr] 3)) := (Below.refl _ _).alloc (Nat.le_refl _) _
          have MB : Hid (Xs w1 b g4 g10 g11 p q r (wA.alloc (.cells #[.int .i64 n0, .int .i64 yr] 3)) ∧ Row (wA.alloc (.cells #[.int .i64 n0, .int .i64 yr] 3)) wA.heap.size 3 #[.int .i64 n0, .int .i64 yr]) := Lib.hid ⟨MA.out.under hb2, Row.new _ _ _⟩
          clear hb2 MA
          go_upto_region 21 with fail
          refine forget (fun V => Hid (Xs w1 b g4 g10 g11 p q r V ∧ Row V wA.heap.size 3 #[.int .i64 n0, .int .i64 yr])) MB ?_
          clear MB
          generalize wA.heap.size = g96
          intro wB M
          go_wp2_with fail
          go_loopw [98] (fun u Y => ∃ m : Nat, m ≤ 2 ∧ u = .int .i64 m ∧ Hid (Xs w1 b g4 g10 g11 p q r Y ∧ Row Y g96 3 #[.int .i64 n0, .int .i64 yr])) (fun u _ => 2 - (intOf u).toNat)
          case atStart => exact ⟨0, by decide, rfl, M⟩
          case round =>
            clear M
            obtain ⟨m, hm, rfl, M⟩ := hrel
            by_cases hlm : m < 2
            · have m1 : (m : Int) < 2 := by omega
              have m0 : (0 : Int) ≤ (m : Int) := by omega
              obtain ⟨v, hv⟩ : ∃ v : Int, wr.cell? ⟨g96, m, none⟩ = some (.int .i64 v) := by
                rcases (by omega : m = 0 ∨ m = 1) with rfl | rfl
                · exact ⟨_, (row2 M.out.2).1⟩
                · exact ⟨_, (row2 M.out.2).2⟩
              obtain ⟨q0, q1, q2⟩ := row3 M.out.1.2.1
              obtain ⟨p0, p1, p2⟩ := row3 M.out.1.2.2.1
              obtain ⟨r0, r1, r2⟩ := row3 M.out.1.2.2.2.1
              have hb2 : Below wr.heap.size wr (wr.alloc (.cells #[.int .i64 p.1, p.2.1, p.2.2.1, .int .i64 q.1, q.2.1, q.2.2.1, .int .i64 r.1, r.2.1, r.2.2.1] 25)) := (Below.refl _ _).alloc (Nat.le_refl _) _
              have HX := Lib.hid (⟨M.out.1.under hb2, Row.new _ _ _⟩ : Xs w1 b g4 g10 g11 p q r (wr.alloc (.cells #[.int .i64 p.1, p.2.1, p.2.2.1, .int .i64 q.1, q.2.1, q.2.2.1, .int .i64 r.1, r.2.1, r.2.2.1] 25)) ∧ Row (wr.alloc (.cells #[.int .i64 p.1, p.2.1, p.2.2.1, .int .i64 q.1, q.2.1, q.2.2.1, .int .i64 r.1, r.2.1, r.2.2.1] 25)) wr.heap.size 25 #[.int .i64 p.1, p.2.1, p.2.2.1, .int .i64 q.1, q.2.1, q.2.2.1, .int .i64 r.1, r.2.1, r.2.2.1])
              have HTL := Lib.hid (HX.out.1.tl HX.out.2)
              have HM2 : Hid (Row (wr.alloc (.cells #[.int .i64 p.1, p.2.1, p.2.2.1, .int .i64 q.1, q.2.1, q.2.2.1, .int .i64 r.1, r.2.1, r.2.2.1] 25)) g96 3 #[.int .i64 n0, .int .i64 yr]) := Lib.hid (M.out.2.under hb2)
              clear hb2
              go_wp2_with fail
              refine (choose_any _ [tx p, tx q, tx r] v _ HTL.out HLen.out).mono ?_
              clear q0 q1 q2 p0 p1 p2 r0 r1 r2 hv M
              rintro e wC hR
              obtain ⟨x1, ⟨uv, ue, us⟩, A, B, c, d, rfl, hc, ht, hb⟩ := hR.toB
              have MC : Hid (Xs w1 b g4 g10 g11 p q r wC ∧ Row wC g96 3 #[.int .i64 n0, .int .i64 yr] ∧ TbIn wC (.agg #[.int .i64 uv, .slice A ue.length c, .slice B us.length d]) uv ue us ∧ ChA [tx p, tx q, tx r] v x1 (uv, ue, us)) := Lib.hid ⟨HX.out.1.under hb, HM2.out.under hb, ht, hc⟩
              clear hR hc ht hb HX HTL HM2
              have hb2 : Below wC.heap.size wC (wC.alloc (.cells #[.int .i64 uv, .slice A ue.length c, .slice B us.length d] 25)) := (Below.refl _ _).alloc (Nat.le_refl _) _
              have MD : Hid (Xs w1 b g4 g10 g11 p q r (wC.alloc (.cells #[.int .i64 uv, .slice A ue.length c, .slice B us.length d] 25)) ∧ Row (wC.alloc (.cells #[.int .i64 uv, .slice A ue.length c, .slice B us.length d] 25)) g96 3 #[.int .i64 n0, .int .i64 yr] ∧ TbIn (wC.alloc (.cells #[.int .i64 uv, .slice A ue.length c, .slice B us.length d] 25)) (.agg #[.int .i64 uv, .slice A ue.length c, .slice B us.length d]) uv ue us ∧ Row (wC.alloc (.cells #[.int .i64 uv, .slice A ue.length c, .slice B us.length d] 25)) wC.heap.size 25 #[.int .i64 uv, .slice A ue.length c, .slice B us.length d] ∧ ChA [tx p, tx q, tx r] v x1 (uv, ue, us)) := Lib.hid ⟨MC.out.1.under hb2, MC.out.2.1.under hb2, MC.out.2.2.1.under hb2, Row.new _ _ _, MC.out.2.2.2⟩
              clear hb2 MC
              go_upto_region 24 with fail
              refine forget (fun V => Hid (Xs w1 b g4 g10 g11 p q r V ∧ Row V g96 3 #[.int .i64 n0, .int .i64 yr] ∧ TbIn V (.agg #[.int .i64 uv, .slice A ue.length c, .slice B us.length d]) uv ue us ∧ Row V wC.heap.size 25 #[.int .i64 uv, .slice A ue.length c, .slice B us.length d] ∧ ChA [tx p, tx q, tx r] v x1 (uv, ue, us))) MD ?_
              clear MD
              generalize wC.heap.size = g22
              intro wD M
              obtain ⟨q0, q1, q2⟩ := row3 M.out.1.2.1
              obtain ⟨p0, p1, p2⟩ := row3 M.out.1.2.2.1
              obtain ⟨r0, r1, r2⟩ := row3 M.out.1.2.2.2.1
              have hb2 : Below wD.heap.size wD (wD.alloc (.cells #[.int .i64 p.1, p.2.1, p.2.2.1, .int .i64 q.1, q.2.1, q.2.2.1, .int .i64 r.1, r.2.1, r.2.2.1] 25)) := (Below.refl _ _).alloc (Nat.le_refl _) _
              have HX := Lib.hid (⟨M.out.1.under hb2, Row.new _ _ _⟩ : Xs w1 b g4 g10 g11 p q r (wD.alloc (.cells #[.int .i64 p.1, p.2.1, p.2.2.1, .int .i64 q.1, q.2.1, q.2.2.1, .int .i64 r.1, r.2.1, r.2.2.1] 25)) ∧ Row (wD.alloc (.cells #[.int .i64 p.1, p.2.1, p.2.2.1, .int .i64 q.1, q.2.1, q.2.2.1, .int .i64 r.1, r.2.1, r.2.2.1] 25)) wD.heap.size 25 #[.int .i64 p.1, p.2.1, p.2.2.1, .int .i64 q.1, q.2.1, q.2.2.1, .int .i64 r.1, r.2.1, r.2.2.1])
              have HTL := Lib.hid (HX.out.1.tl HX.out.2)
              have HM2 : Hid (Row (wD.alloc (.cells #[.int .i64 p.1, p.2.1, p.2.2.1, .int .i64 q.1, q.2.1, q.2.2.1, .int .i64 r.1, r.2.1, r.2.2.1] 25)) g96 3 #[.int .i64 n0, .int .i64 yr] ∧ TbIn (wD.alloc (.cells #[.int .i64 p.1, p.2.1, p.2.2.1, .int .i64 q.1, q.2.1, q.2.2.1, .int .i64 r.1, r.2.1, r.2.2.1] 25)) (.agg #[.int .i64 uv, .slice A ue.length c, .slice B us.length d]) uv ue us ∧ Row (wD.alloc (.cells #[.int .i64 p.1, p.2.1, p.2.2.1, .int .i64 q.1, q.2.1, q.2.2.1, .int .i64 r.1, r.2.1, r.2.2.1] 25)) g22 25 #[.int .i64 uv, .slice A ue.length c, .slice B us.length d] ∧ ChA [tx p, tx q, tx r] v x1 (uv, ue, us)) := Lib.hid ⟨M.out.2.1.under hb2, M.out.2.2.1.under hb2, M.out.2.2.2.1.under hb2, M.out.2.2.2.2⟩
              clear hb2
              go_wp2_with fail
              refine (refChoose_any _ [tx p, tx q, tx r] v _ HTL.out).mono ?_
              clear q0 q1 q2 p0 p1 p2 r0 r1 r2 M
              rintro e wE hR
              obtain ⟨x2, ⟨uv', ue', us'⟩, A', B', c', d', rfl, hc, ht, hb⟩ := hR.toB
              obtain ⟨ex, eu⟩ := HM2.out.2.2.2.one hc
              subst ex
              injection eu with eu1 eu2
              injection eu2 with eu2 eu3
              subst eu1; subst eu2; subst eu3
              have MC : Hid (Xs w1 b g4 g10 g11 p q r wE ∧ Row wE g96 3 #[.int .i64 n0, .int .i64 yr] ∧ TbIn wE (.agg #[.int .i64 uv, .slice A ue.length c, .slice B us.length d]) uv ue us ∧ Row wE g22 25 #[.int .i64 uv, .slice A ue.length c, .slice B us.length d] ∧ TbIn wE (.agg #[.int .i64 uv, .slice A' ue.length c', .slice B' us.length d']) uv ue us) := Lib.hid ⟨HX.out.1.under hb, HM2.out.1.under hb, HM2.out.2.1.under hb, HM2.out.2.2.1.under hb, ht⟩
              have HL := Lib.hid (hc.lens HLen.out)
              clear hR hc ht hb HX HTL HM2
              have hb2 : Below wE.heap.size wE (wE.alloc (.cells #[.int .i64 uv, .slice A' ue.length c', .slice B' us.length d'] 25)) := (Below.refl _ _).alloc (Nat.le_refl _) _
              have MD : Hid (Xs w1 b g4 g10 g11 p q r (wE.alloc (.cells #[.int .i64 uv, .slice A' ue.length c', .slice B' us.length d'] 25)) ∧ Row (wE.alloc (.cells #[.int .i64 uv, .slice A' ue.length c', .slice B' us.length d'] 25)) g96 3 #[.int .i64 n0, .int .i64 yr] ∧ TbIn (wE.alloc (.cells #[.int .i64 uv, .slice A' ue.length c', .slice B' us.length d'] 25)) (.agg #[.int .i64 uv, .slice A ue.length c, .slice B us.length d]) uv ue us ∧ Row (wE.alloc (.cells #[.int .i64 uv, .slice A' ue.length c', .slice B' us.length d'] 25)) g22 25 #[.int .i64 uv, .slice A ue.length c, .slice B us.length d] ∧ TbIn (wE.alloc (.cells #[.int .i64 uv, .slice A' ue.length c', .slice B' us.length d'] 25)) (.agg #[.int .i64 uv, .slice A' ue.length c', .slice B' us.length d']) uv ue us ∧ Row (wE.alloc (.cells #[.int .i64 uv, .slice A' ue.length c', .slice B' us.length d'] 25)) wE.heap.size 25 #[.int .i64 uv, .slice A' ue.length c', .slice B' us.length d']) := Lib.hid ⟨MC.out.1.under hb2, MC.out.2.1.under hb2, MC.out.2.2.1.under hb2, MC.out.2.2.2.1.under hb2, MC.out.2.2.2.2.under hb2, Row.new _ _ _⟩
              clear hb2 MC
              go_upto_region 25 with fail
              refine forget (fun V => Hid (Xs w1 b g4 g10 g11 p q r V ∧ Row V g96 3 #[.int .i64 n0, .int .i64 yr] ∧ TbIn V (.agg #[.int .i64 uv, .slice A ue.length c, .slice B us.length d]) uv ue us ∧ Row V g22 25 #[.int .i64 uv, .slice A ue.length c, .slice B us.length d] ∧ TbIn V (.agg #[.int .i64 uv, .slice A' ue.length c', .slice B' us.length d']) uv ue us ∧ Row V wE.heap.size 25 #[.int .i64 uv, .slice A' ue.length c', .slice B' us.length d'])) MD ?_
              clear MD
              generalize wE.heap.size = g24
              intro wF M
              obtain ⟨q0, q1, q2⟩ := row3 M.out.2.2.2.1
              obtain ⟨p0, p1, p2⟩ := row3 M.out.2.2.2.2.2
              go_wp2_with fail
              refine (sameTable_yes _ _ uv ue us _ M.out.2.2.1 M.out.2.2.2.2.1 HL.out.1 HL.out.2).mono ?_
              clear q0 q1 q2 p0 p1 p2
              rintro e wG ⟨rfl, hb⟩
              have MG : Hid (Xs w1 b g4 g10 g11 p q r wG ∧ Row wG g96 3 #[.int .i64 n0, .int .i64 yr]) := Lib.hid ⟨M.out.1.under hb, M.out.2.1.under hb⟩
              clear hb M
              go_wp2_with fail
              go_roundw
              case rel => exact ⟨m + 1, by omega, by go_num, MG⟩
              case measure => simp [intOf]; omega
            · have m1 : ¬ (m : Int) < 2 := by omega
              have HB0 := HV.out.2.2.2.2.2
              have hbr := M.out.1.1.below
              have HA := Lib.hid (⟨HV.out.2.2.2.2.1.under hbr, HB0.trans (hbr.mono HB0.size)⟩ : Tab wr ∧ Below W0.heap.size W0 wr)
              clear HB0 hbr
              go_wp2_with fail
              refine (awake_from (w0 := W0) wr HA.out.1 HA.out.2).mono ?_
              rintro e w9 ⟨rfl, hb⟩
              have HF := Lib.hid hb
              clear hb
              go_wp2_with fail
              go_ret
              exact ⟨rfl, HF.out⟩
end Go.Proofs.YtjaopjhfjijdaaaDoor
