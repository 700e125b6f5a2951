/- BitsJoin: the walk. -/
import Derived.Test.YtjabnicflpeopaaTri
namespace Go.Proofs.Ytjabnicflpeopaa
open Go.RowKit

set_option maxHeartbeats 8000000 in
set_option maxRecDepth 100000 in
theorem bitsJoin_any (v : Value) (w : World) (hv : ListIn w v) :
    Calls Try.prog 6 #[v] w fun e w' => e = .returned (.bool true) ∧ Below w.heap.size w w' := by
  go_enter Try.func6, Try.ntmps6
  go_wp2_with fail
  refine (new_any _ _ hv).mono ?_
  rintro e w1 ⟨rfl, hs, hb0⟩
  clear hb0
  have G4 : Hid (w1.heap.size ≠ w.heap.size ∧ w.heap.size ≤ w1.heap.size) := Lib.hid (by have := hs.lt; omega)
  have T0 : Hid (Tri w1.heap.size (w1.alloc (.cells #[.slice none 0 0, .int .i64 0, .slice none 0 0, .int .i64 0, .slice none 0 0, .int .i64 0] 49)) ∧ Src w w.heap.size (w1.alloc (.cells #[.slice none 0 0, .int .i64 0, .slice none 0 0, .int .i64 0, .slice none 0 0, .int .i64 0] 49))) := Lib.hid ⟨Tri.new w1, hs.under ((Below.refl _ _).alloc (Nat.le_refl _) _)⟩
  clear hs
  go_upto_region 3 with fail
  refine forget (fun Y => Hid (Tri w1.heap.size Y ∧ Src w w.heap.size Y)) T0 ?_
  clear T0
  generalize w1.heap.size = g4 at G4 ⊢
  intro Y T0
  go_wp2_with fail
  go_loopw [5] (fun t Y => ∃ i : Nat, i ≤ 3 ∧ t = .int .i64 i ∧ Hid (Tri g4 Y ∧ Src w w.heap.size Y)) (fun t _ => 3 - (intOf t).toNat)
  case atStart => exact ⟨0, by decide, rfl, T0⟩
  case round =>
    clear T0
    obtain ⟨i, hi, rfl, M⟩ := hrel
    by_cases hlt : i < 3
    · have i0 : (0 : Int) ≤ (i : Int) := by omega
      have i1 : (i : Int) < 3 := by omega
      go_wp2_with fail
      refine (n_any w w.heap.size _ 40 M.out.2 (by decide) (by decide)).mono ?_
      rintro e Y0 ⟨k0, ⟨k1, k2⟩, rfl, hs0, hg0⟩
      have T1 := Lib.hid (M.out.1.read G4.out.1 M.out.2 hg0)
      clear M hg0
      obtain ⟨n0, rfl⟩ := Int.eq_ofNat_of_zero_le k1
      have L0 : Hid (Lst w w.heap.size Y0 (.slice none 0 0) [] Y0) := Lib.hid (Lst.start hs0)
      have HS0 := Lib.hid hs0
      clear hs0
      have n1 : n0 < 40 := by omega
      clear k1 k2
      go_wp2_with fail
      go_loopw [6, 7] (fun v t Y => ∃ (X : List Int) (j : Nat), t = .int .i64 j ∧ j + X.length ≤ 40 ∧ Hid (Lst w w.heap.size Y0 v X Y)) (fun _ t _ => (intOf t).toNat)
      case atStart => exact ⟨[], n0, rfl, by simp; omega, L0⟩
      case round =>
        clear L0
        obtain ⟨X, j, rfl, hj, M⟩ := hrel
        by_cases hlt2 : 0 < j
        · have j1 : (0 : Int) < (j : Int) := by omega
          go_wp2_with fail
          refine (n_any w w.heap.size _ 2 M.out.src (by decide) (by decide)).mono ?_
          rintro e w2 ⟨x, hx, rfl, hs2, hg2⟩
          have M2 := Lib.hid (M.out.read hs2 hg2)
          have S3 := Lib.hid (M2.out.alloc (.cells #[.int .i64 x] 3))
          have HX := Lib.hid hx
          clear hs2 hg2 M hx
          go_wp2_with (at_builtin; refine wpList_append_lies _ rfl (.tmp 32) (.tmp 35) 25 rfl Y0.heap.size 3 Try.t3 _ 1 8 Try.underlying25 intI intZ intS intB rfl (by decide) «u6» X.length (ic X) rfl S3.out.own ⟨w2.heap.size, 0, none⟩ 1 1 [.int .i64 x] rfl rfl (World.news_of_block (cs := #[.int .i64 x]) (t := 3) (fr := (0, 0)) (heap_alloc_new w2 _)) (by simp [Value.oneCell']) (by omega) (by unfold maxLen; omega) (by omega) S3.out.gro.size (w2.heap.size + 1) (by simp) ?_; intro g' cap' w4 hown4 hgrow4 hat4 hlt4; have S4 := Lib.hid (S3.out.more HX.out hown4 hgrow4); clear hown4 hgrow4 hat4 hlt4)
          go_roundw
          case rel => exact ⟨X ++ [x], j - 1, by go_num, by rw [List.length_append, List.length_singleton]; omega, S4⟩
          case measure => simp [intOf]; omega
        · have j1 : ¬ (0 : Int) < (j : Int) := by omega
          have hXl : X.length ≤ 40 := by omega
          obtain ⟨A, c, e, HI⟩ := OwnI.ins M.out.own
          subst e
          have T2 := Lib.hid (T1.out.read G4.out.1 HS0.out M.out.gro)
          have S2 := Lib.hid M.out.src
          have HI2 := Lib.hid HI
          clear M HI T1 HS0 hlt2
          go_wp2_with fail
          refine (refOf_any wr A c X HI2.out (by omega)).mono ?_
          rintro e w3 ⟨A3, c3, rfl, HP, hb⟩
          have T3 := Lib.hid (T2.out.under hb)
          have S3 := Lib.hid (S2.out.under hb)
          have HP3 := Lib.hid HP
          clear HP hb T2 S2 HI2
          have T4 := Lib.hid (T3.out.put i hlt (f := isb X) (n := X.length) hXl HP3.out)
          have S4 : Hid (Src w w.heap.size ((w3.setCell ⟨g4, i * 2, none⟩ (.slice A3 (pack X.length (isb X)).length c3)).setCell ⟨g4, i * 2 + 1, none⟩ (.int .i64 (X.length : Int)))) := Lib.hid (Src.grown (Src.grown S3.out (grown_set0 _ _ _ _) (fun g e => by injection e with e; subst e; exact ⟨G4.out.2, G4.out.1⟩)) (grown_set0 _ _ _ _) (fun g e => by injection e with e; subst e; exact ⟨G4.out.2, G4.out.1⟩))
          obtain ⟨Aa, ca, fa, na, Ab, cb, fb, nb, Ac, cc, fc, nc, hr, -⟩ := T3.out
          obtain ⟨u0, z0⟩ : ∃ u, w3.cell? ⟨g4, i * 2, none⟩ = some u := ⟨_, (hr.cell _).trans (Array.getElem?_eq_getElem (show i * 2 < 6 by omega))⟩
          obtain ⟨u1, z1⟩ : ∃ u, w3.cell? ⟨g4, i * 2 + 1, none⟩ = some u := ⟨_, (hr.cell _).trans (Array.getElem?_eq_getElem (show i * 2 + 1 < 6 by omega))⟩
          have f0 := hr.thaw (i * 2)
          have f1 := hr.thaw (i * 2 + 1)
          clear hr T3 S3
          go_wp2_with fail
          go_roundw
          case rel => exact ⟨i + 1, by omega, by go_num, Lib.hid ⟨T4.out, S4.out⟩⟩
          case measure => simp [intOf]; omega
    · have i1 : ¬ (i : Int) < 3 := by omega
      obtain ⟨Aa, ca, fa, na, Ab, cb, fb, nb, Ac, cc, fc, nc, hr, ha, hbb, hcc, hna, hnb, hnc⟩ := M.out.1
      have X0 : Hid (Row wr g4 49 (c6 Aa ca (pack na fa) na Ab cb (pack nb fb) nb Ac cc (pack nc fc) nc) ∧ Bys wr Aa ca (pack na fa) ∧ Bys wr Ab cb (pack nb fb) ∧ Bys wr Ac cc (pack nc fc) ∧ Below w.heap.size w wr) := Lib.hid ⟨hr, ha, hbb, hcc, M.out.2.below⟩
      have h8 : na + nb + nc ≤ 40000 := by omega
      clear hr ha hbb hcc M hlt
      obtain ⟨q0, q1, q2, q3, q4, q5⟩ := row6 X0.out.1
      go_wp2_with fail
      refine (join_any wr Aa Ab ca cb _ _ na nb X0.out.2.1 X0.out.2.2.1 (by omega) (by omega) (by omega) (by omega)).mono ?_
      rw [join_pack rfl rfl (by omega)]
      rintro e w11 ⟨A11, c11, rfl, HP, hb⟩
      have X11 : Hid (Bx (w11.alloc (.cells #[.slice A11 (pack (na + nb) (cat na fa fb)).length c11, .int .i64 ((na : Int) + nb)] 24)) w11.heap.size A11 c11 (pack (na + nb) (cat na fa fb)) ((na : Int) + nb) ∧ Row (w11.alloc (.cells #[.slice A11 (pack (na + nb) (cat na fa fb)).length c11, .int .i64 ((na : Int) + nb)] 24)) g4 49 (c6 Aa ca (pack na fa) na Ab cb (pack nb fb) nb Ac cc (pack nc fc) nc) ∧ Bys (w11.alloc (.cells #[.slice A11 (pack (na + nb) (cat na fa fb)).length c11, .int .i64 ((na : Int) + nb)] 24)) Aa ca (pack na fa) ∧ Bys (w11.alloc (.cells #[.slice A11 (pack (na + nb) (cat na fa fb)).length c11, .int .i64 ((na : Int) + nb)] 24)) Ab cb (pack nb fb) ∧ Bys (w11.alloc (.cells #[.slice A11 (pack (na + nb) (cat na fa fb)).length c11, .int .i64 ((na : Int) + nb)] 24)) Ac cc (pack nc fc) ∧ Below w.heap.size w (w11.alloc (.cells #[.slice A11 (pack (na + nb) (cat na fa fb)).length c11, .int .i64 ((na : Int) + nb)] 24))) := Lib.hid ⟨Bx.new HP, (X0.out.1.under hb).under ((Below.refl _ _).alloc (Nat.le_refl _) _), (X0.out.2.1.under hb).under ((Below.refl _ _).alloc (Nat.le_refl _) _), (X0.out.2.2.1.under hb).under ((Below.refl _ _).alloc (Nat.le_refl _) _), (X0.out.2.2.2.1.under hb).under ((Below.refl _ _).alloc (Nat.le_refl _) _), alloc_below (X0.out.2.2.2.2.trans (hb.mono (X0.out.2.2.2.2.size))) (Nat.le_refl _) _⟩
      clear HP hb X0  q0 q1 q2 q3 q4 q5
      go_upto_region 13 with fail
      refine forget (fun Y => Hid (Bx Y w11.heap.size A11 c11 (pack (na + nb) (cat na fa fb)) ((na : Int) + nb) ∧ Row Y g4 49 (c6 Aa ca (pack na fa) na Ab cb (pack nb fb) nb Ac cc (pack nc fc) nc) ∧ Bys Y Aa ca (pack na fa) ∧ Bys Y Ab cb (pack nb fb) ∧ Bys Y Ac cc (pack nc fc) ∧ Below w.heap.size w Y)) X11 ?_
      clear X11
      generalize w11.heap.size = g8
      intro Y11 X11
      obtain ⟨q0, q1, q2, q3, q4, q5⟩ := row6 X11.out.2.1
      go_wp2_with fail
      refine (join_any Y11 Ab Ac cb cc _ _ nb nc X11.out.2.2.2.1 X11.out.2.2.2.2.1 (by omega) (by omega) (by omega) (by omega)).mono ?_
      rw [join_pack rfl rfl (by omega)]
      rintro e w12 ⟨A12, c12, rfl, HP, hb⟩
      have X12 : Hid (Bx (w12.alloc (.cells #[.slice A12 (pack (nb + nc) (cat nb fb fc)).length c12, .int .i64 ((nb : Int) + nc)] 24)) w12.heap.size A12 c12 (pack (nb + nc) (cat nb fb fc)) ((nb : Int) + nc) ∧ Bx (w12.alloc (.cells #[.slice A12 (pack (nb + nc) (cat nb fb fc)).length c12, .int .i64 ((nb : Int) + nc)] 24)) g8 A11 c11 (pack (na + nb) (cat na fa fb)) ((na : Int) + nb) ∧ Row (w12.alloc (.cells #[.slice A12 (pack (nb + nc) (cat nb fb fc)).length c12, .int .i64 ((nb : Int) + nc)] 24)) g4 49 (c6 Aa ca (pack na fa) na Ab cb (pack nb fb) nb Ac cc (pack nc fc) nc) ∧ Bys (w12.alloc (.cells #[.slice A12 (pack (nb + nc) (cat nb fb fc)).length c12, .int .i64 ((nb : Int) + nc)] 24)) Aa ca (pack na fa) ∧ Bys (w12.alloc (.cells #[.slice A12 (pack (nb + nc) (cat nb fb fc)).length c12, .int .i64 ((nb : Int) + nc)] 24)) Ab cb (pack nb fb) ∧ Bys (w12.alloc (.cells #[.slice A12 (pack (nb + nc) (cat nb fb fc)).length c12, .int .i64 ((nb : Int) + nc)] 24)) Ac cc (pack nc fc) ∧ Below w.heap.size w (w12.alloc (.cells #[.slice A12 (pack (nb + nc) (cat nb fb fc)).length c12, .int .i64 ((nb : Int) + nc)] 24))) := Lib.hid ⟨Bx.new HP, (X11.out.1.under hb).alloc _, (X11.out.2.1.under hb).under ((Below.refl _ _).alloc (Nat.le_refl _) _), (X11.out.2.2.1.under hb).under ((Below.refl _ _).alloc (Nat.le_refl _) _), (X11.out.2.2.2.1.under hb).under ((Below.refl _ _).alloc (Nat.le_refl _) _), (X11.out.2.2.2.2.1.under hb).under ((Below.refl _ _).alloc (Nat.le_refl _) _), alloc_below (X11.out.2.2.2.2.2.trans (hb.mono (X11.out.2.2.2.2.2.size))) (Nat.le_refl _) _⟩
      clear HP hb X11  q0 q1 q2 q3 q4 q5
      go_upto_region 14 with fail
      refine forget (fun Y => Hid (Bx Y w12.heap.size A12 c12 (pack (nb + nc) (cat nb fb fc)) ((nb : Int) + nc) ∧ Bx Y g8 A11 c11 (pack (na + nb) (cat na fa fb)) ((na : Int) + nb) ∧ Row Y g4 49 (c6 Aa ca (pack na fa) na Ab cb (pack nb fb) nb Ac cc (pack nc fc) nc) ∧ Bys Y Aa ca (pack na fa) ∧ Bys Y Ab cb (pack nb fb) ∧ Bys Y Ac cc (pack nc fc) ∧ Below w.heap.size w Y)) X12 ?_
      clear X12
      generalize w12.heap.size = g10
      intro Y12 X12
      obtain ⟨p0_0, p0_1⟩ := row2 X12.out.2.1.1
      obtain ⟨q0, q1, q2, q3, q4, q5⟩ := row6 X12.out.2.2.1
      go_wp2_with fail
      refine (join_any Y12 A11 Ac c11 cc _ _ _ nc X12.out.2.1.2 X12.out.2.2.2.2.2.1 (by omega) (by omega) (by omega) (by omega)).mono ?_
      rw [join_left (by omega)]
      rintro e w13 ⟨A13, c13, rfl, HP, hb⟩
      have X13 : Hid (Bx (w13.alloc (.cells #[.slice A13 (pack (na + nb + nc) (cat na fa (cat nb fb fc))).length c13, .int .i64 ((na : Int) + nb + nc)] 24)) w13.heap.size A13 c13 (pack (na + nb + nc) (cat na fa (cat nb fb fc))) ((na : Int) + nb + nc) ∧ Bx (w13.alloc (.cells #[.slice A13 (pack (na + nb + nc) (cat na fa (cat nb fb fc))).length c13, .int .i64 ((na : Int) + nb + nc)] 24)) g10 A12 c12 (pack (nb + nc) (cat nb fb fc)) ((nb : Int) + nc) ∧ Bx (w13.alloc (.cells #[.slice A13 (pack (na + nb + nc) (cat na fa (cat nb fb fc))).length c13, .int .i64 ((na : Int) + nb + nc)] 24)) g8 A11 c11 (pack (na + nb) (cat na fa fb)) ((na : Int) + nb) ∧ Row (w13.alloc (.cells #[.slice A13 (pack (na + nb + nc) (cat na fa (cat nb fb fc))).length c13, .int .i64 ((na : Int) + nb + nc)] 24)) g4 49 (c6 Aa ca (pack na fa) na Ab cb (pack nb fb) nb Ac cc (pack nc fc) nc) ∧ Bys (w13.alloc (.cells #[.slice A13 (pack (na + nb + nc) (cat na fa (cat nb fb fc))).length c13, .int .i64 ((na : Int) + nb + nc)] 24)) Aa ca (pack na fa) ∧ Bys (w13.alloc (.cells #[.slice A13 (pack (na + nb + nc) (cat na fa (cat nb fb fc))).length c13, .int .i64 ((na : Int) + nb + nc)] 24)) Ab cb (pack nb fb) ∧ Bys (w13.alloc (.cells #[.slice A13 (pack (na + nb + nc) (cat na fa (cat nb fb fc))).length c13, .int .i64 ((na : Int) + nb + nc)] 24)) Ac cc (pack nc fc) ∧ Below w.heap.size w (w13.alloc (.cells #[.slice A13 (pack (na + nb + nc) (cat na fa (cat nb fb fc))).length c13, .int .i64 ((na : Int) + nb + nc)] 24))) := Lib.hid ⟨Bx.new HP, (X12.out.1.under hb).alloc _, (X12.out.2.1.under hb).alloc _, (X12.out.2.2.1.under hb).under ((Below.refl _ _).alloc (Nat.le_refl _) _), (X12.out.2.2.2.1.under hb).under ((Below.refl _ _).alloc (Nat.le_refl _) _), (X12.out.2.2.2.2.1.under hb).under ((Below.refl _ _).alloc (Nat.le_refl _) _), (X12.out.2.2.2.2.2.1.under hb).under ((Below.refl _ _).alloc (Nat.le_refl _) _), alloc_below (X12.out.2.2.2.2.2.2.trans (hb.mono (X12.out.2.2.2.2.2.2.size))) (Nat.le_refl _) _⟩
      clear HP hb X12 p0_0 p0_1 q0 q1 q2 q3 q4 q5
      go_upto_region 15 with fail
      refine forget (fun Y => Hid (Bx Y w13.heap.size A13 c13 (pack (na + nb + nc) (cat na fa (cat nb fb fc))) ((na : Int) + nb + nc) ∧ Bx Y g10 A12 c12 (pack (nb + nc) (cat nb fb fc)) ((nb : Int) + nc) ∧ Bx Y g8 A11 c11 (pack (na + nb) (cat na fa fb)) ((na : Int) + nb) ∧ Row Y g4 49 (c6 Aa ca (pack na fa) na Ab cb (pack nb fb) nb Ac cc (pack nc fc) nc) ∧ Bys Y Aa ca (pack na fa) ∧ Bys Y Ab cb (pack nb fb) ∧ Bys Y Ac cc (pack nc fc) ∧ Below w.heap.size w Y)) X13 ?_
      clear X13
      generalize w13.heap.size = g12
      intro Y13 X13
      obtain ⟨p0_0, p0_1⟩ := row2 X13.out.2.1.1
      obtain ⟨q0, q1, q2, q3, q4, q5⟩ := row6 X13.out.2.2.2.1
      go_wp2_with fail
      refine (join_any Y13 Aa A12 ca c12 _ _ na _ X13.out.2.2.2.2.1 X13.out.2.1.2 (by omega) (by omega) (by omega) (by omega)).mono ?_
      rw [join_right (by omega)]
      rintro e w14 ⟨A14, c14, rfl, HP, hb⟩
      have X14 : Hid (Bx (w14.alloc (.cells #[.slice A14 (pack (na + nb + nc) (cat na fa (cat nb fb fc))).length c14, .int .i64 ((na : Int) + nb + nc)] 24)) w14.heap.size A14 c14 (pack (na + nb + nc) (cat na fa (cat nb fb fc))) ((na : Int) + nb + nc) ∧ Bx (w14.alloc (.cells #[.slice A14 (pack (na + nb + nc) (cat na fa (cat nb fb fc))).length c14, .int .i64 ((na : Int) + nb + nc)] 24)) g12 A13 c13 (pack (na + nb + nc) (cat na fa (cat nb fb fc))) ((na : Int) + nb + nc) ∧ Bx (w14.alloc (.cells #[.slice A14 (pack (na + nb + nc) (cat na fa (cat nb fb fc))).length c14, .int .i64 ((na : Int) + nb + nc)] 24)) g10 A12 c12 (pack (nb + nc) (cat nb fb fc)) ((nb : Int) + nc) ∧ Bx (w14.alloc (.cells #[.slice A14 (pack (na + nb + nc) (cat na fa (cat nb fb fc))).length c14, .int .i64 ((na : Int) + nb + nc)] 24)) g8 A11 c11 (pack (na + nb) (cat na fa fb)) ((na : Int) + nb) ∧ Row (w14.alloc (.cells #[.slice A14 (pack (na + nb + nc) (cat na fa (cat nb fb fc))).length c14, .int .i64 ((na : Int) + nb + nc)] 24)) g4 49 (c6 Aa ca (pack na fa) na Ab cb (pack nb fb) nb Ac cc (pack nc fc) nc) ∧ Bys (w14.alloc (.cells #[.slice A14 (pack (na + nb + nc) (cat na fa (cat nb fb fc))).length c14, .int .i64 ((na : Int) + nb + nc)] 24)) Aa ca (pack na fa) ∧ Bys (w14.alloc (.cells #[.slice A14 (pack (na + nb + nc) (cat na fa (cat nb fb fc))).length c14, .int .i64 ((na : Int) + nb + nc)] 24)) Ab cb (pack nb fb) ∧ Bys (w14.alloc (.cells #[.slice A14 (pack (na + nb + nc) (cat na fa (cat nb fb fc))).length c14, .int .i64 ((na : Int) + nb + nc)] 24)) Ac cc (pack nc fc) ∧ Below w.heap.size w (w14.alloc (.cells #[.slice A14 (pack (na + nb + nc) (cat na fa (cat nb fb fc))).length c14, .int .i64 ((na : Int) + nb + nc)] 24))) := Lib.hid ⟨Bx.new HP, (X13.out.1.under hb).alloc _, (X13.out.2.1.under hb).alloc _, (X13.out.2.2.1.under hb).alloc _, (X13.out.2.2.2.1.under hb).under ((Below.refl _ _).alloc (Nat.le_refl _) _), (X13.out.2.2.2.2.1.under hb).under ((Below.refl _ _).alloc (Nat.le_refl _) _), (X13.out.2.2.2.2.2.1.under hb).under ((Below.refl _ _).alloc (Nat.le_refl _) _), (X13.out.2.2.2.2.2.2.1.under hb).under ((Below.refl _ _).alloc (Nat.le_refl _) _), alloc_below (X13.out.2.2.2.2.2.2.2.trans (hb.mono (X13.out.2.2.2.2.2.2.2.size))) (Nat.le_refl _) _⟩
      clear HP hb X13 p0_0 p0_1 q0 q1 q2 q3 q4 q5
      go_upto_region 16 with fail
      refine forget (fun Y => Hid (Bx Y w14.heap.size A14 c14 (pack (na + nb + nc) (cat na fa (cat nb fb fc))) ((na : Int) + nb + nc) ∧ Bx Y g12 A13 c13 (pack (na + nb + nc) (cat na fa (cat nb fb fc))) ((na : Int) + nb + nc) ∧ Bx Y g10 A12 c12 (pack (nb + nc) (cat nb fb fc)) ((nb : Int) + nc) ∧ Bx Y g8 A11 c11 (pack (na + nb) (cat na fa fb)) ((na : Int) + nb) ∧ Row Y g4 49 (c6 Aa ca (pack na fa) na Ab cb (pack nb fb) nb Ac cc (pack nc fc) nc) ∧ Bys Y Aa ca (pack na fa) ∧ Bys Y Ab cb (pack nb fb) ∧ Bys Y Ac cc (pack nc fc) ∧ Below w.heap.size w Y)) X14 ?_
      clear X14
      generalize w14.heap.size = g14
      intro Y14 X14
      obtain ⟨p0_0, p0_1⟩ := row2 X14.out.2.1.1
      obtain ⟨p1_0, p1_1⟩ := row2 X14.out.1.1
      go_wp2_with fail
      refine (refSame_yes Y14 A13 A14 c13 c14 _ _ X14.out.2.1.2 X14.out.1.2).mono ?_
      rintro e w20 ⟨rfl, hb⟩
      have X20 : Hid (Bx w20 g8 A11 c11 (pack (na + nb) (cat na fa fb)) ((na : Int) + nb) ∧ Row w20 g4 49 (c6 Aa ca (pack na fa) na Ab cb (pack nb fb) nb Ac cc (pack nc fc) nc) ∧ Bys w20 Aa ca (pack na fa) ∧ Bys w20 Ab cb (pack nb fb) ∧ Bys w20 Ac cc (pack nc fc) ∧ Below w.heap.size w w20) := Lib.hid ⟨X14.out.2.2.2.1.under hb, X14.out.2.2.2.2.1.under hb, X14.out.2.2.2.2.2.1.under hb, X14.out.2.2.2.2.2.2.1.under hb, X14.out.2.2.2.2.2.2.2.1.under hb, X14.out.2.2.2.2.2.2.2.2.trans (hb.mono X14.out.2.2.2.2.2.2.2.2.size)⟩
      clear hb X14 p0_0 p0_1 p1_0 p1_1
      obtain ⟨q0, q1, q2, q3, q4, q5⟩ := row6 X20.out.2.1
      have e0 : Hid (pack na fa = pack (na + 0) (cat na fa fb)) := Lib.hid (pack_cong (fun i hi => by unfold cat; rw [if_pos (by omega)]))
      have X21 : Hid (Bx (w20.alloc (.cells #[.slice Aa (pack na fa).length ca, .int .i64 na] 24)) w20.heap.size Aa ca (pack (na + 0) (cat na fa fb)) ((na : Int) + (0 : Nat)) ∧ Bx (w20.alloc (.cells #[.slice Aa (pack na fa).length ca, .int .i64 na] 24)) g8 A11 c11 (pack (na + nb) (cat na fa fb)) ((na : Int) + nb) ∧ Row (w20.alloc (.cells #[.slice Aa (pack na fa).length ca, .int .i64 na] 24)) g4 49 (c6 Aa ca (pack na fa) na Ab cb (pack nb fb) nb Ac cc (pack nc fc) nc) ∧ Bys (w20.alloc (.cells #[.slice Aa (pack na fa).length ca, .int .i64 na] 24)) Aa ca (pack na fa) ∧ Bys (w20.alloc (.cells #[.slice Aa (pack na fa).length ca, .int .i64 na] 24)) Ab cb (pack nb fb) ∧ Bys (w20.alloc (.cells #[.slice Aa (pack na fa).length ca, .int .i64 na] 24)) Ac cc (pack nc fc) ∧ Below w.heap.size w (w20.alloc (.cells #[.slice Aa (pack na fa).length ca, .int .i64 na] 24))) := Lib.hid ⟨by rw [← e0.out, show (na : Int) + ((0 : Nat) : Int) = na by omega]; exact Bx.new X20.out.2.2.1, X20.out.1.alloc _, X20.out.2.1.alloc _, X20.out.2.2.1.under ((Below.refl _ _).alloc (Nat.le_refl _) _), X20.out.2.2.2.1.under ((Below.refl _ _).alloc (Nat.le_refl _) _), X20.out.2.2.2.2.1.under ((Below.refl _ _).alloc (Nat.le_refl _) _), alloc_below X20.out.2.2.2.2.2 (Nat.le_refl _) _⟩
      have G16 : Hid (w20.heap.size ≠ g8 ∧ w20.heap.size ≠ g4 ∧ w.heap.size ≤ w20.heap.size) := Lib.hid ⟨by have := X20.out.1.1.lt; omega, by have := X20.out.2.1.lt; omega, X20.out.2.2.2.2.2.size⟩
      go_upto_region 19 with fail
      clear q0 q1 q2 q3 q4 q5 X20 e0
      refine forget (fun Y => Hid (Bx Y w20.heap.size Aa ca (pack (na + 0) (cat na fa fb)) ((na : Int) + (0 : Nat)) ∧ Bx Y g8 A11 c11 (pack (na + nb) (cat na fa fb)) ((na : Int) + nb) ∧ Row Y g4 49 (c6 Aa ca (pack na fa) na Ab cb (pack nb fb) nb Ac cc (pack nc fc) nc) ∧ Bys Y Aa ca (pack na fa) ∧ Bys Y Ab cb (pack nb fb) ∧ Bys Y Ac cc (pack nc fc) ∧ Below w.heap.size w Y)) X21 ?_
      clear X21
      generalize w20.heap.size = g16 at G16 ⊢
      intro Y21 X21
      have h9 : na + nb ≤ 40000 := by omega
      go_wp2_with fail
      go_loopw [17] (fun t Y => ∃ i : Nat, i ≤ nb ∧ t = .int .i64 i ∧ ∃ Ad cd, Hid (Bx Y g16 Ad cd (pack (na + i) (cat na fa fb)) ((na : Int) + (i : Nat)) ∧ Bx Y g8 A11 c11 (pack (na + nb) (cat na fa fb)) ((na : Int) + nb) ∧ Row Y g4 49 (c6 Aa ca (pack na fa) na Ab cb (pack nb fb) nb Ac cc (pack nc fc) nc) ∧ Bys Y Aa ca (pack na fa) ∧ Bys Y Ab cb (pack nb fb) ∧ Bys Y Ac cc (pack nc fc) ∧ Below w.heap.size w Y)) (fun t _ => nb - (intOf t).toNat)
      case atStart => exact ⟨0, Nat.zero_le _, rfl, Aa, ca, X21⟩
      case round =>
        clear X21
        obtain ⟨i, hi, rfl, Ad, cd, M⟩ := hrel
        by_cases hlt : i < nb
        · have i0 : (0 : Int) ≤ (i : Int) := by omega
          have i1 : (i : Int) < (nb : Int) := by omega
          obtain ⟨q0, q1, q2, q3, q4, q5⟩ := row6 M.out.2.2.1
          obtain ⟨p0, p1⟩ := row2 M.out.1.1
          go_upto_region 22 with fail
          refine wp_region_held_drew (S := fun Y : World => (Y.cell? ⟨g16, 0, none⟩ = some (.slice Ad (pack (na + i) (cat na fa fb)).length cd) ∧ Y.cell? ⟨g16, 1, none⟩ = some (.int .i64 ((na : Int) + (i : Nat)))) ∧ (Y.cell? ⟨g4, 2, none⟩ = some (.slice Ab (pack nb fb).length cb) ∧ Y.cell? ⟨g4, 3, none⟩ = some (.int .i64 nb))) (by kernel_rfl) ⟨⟨p0, p1⟩, q2, q3⟩ (fun hHeld => ?_)
          clear p0 p1 q0 q1 q2 q3 q4 q5
          refine wpAnyH_take (i := 0) (oi := ⟨some 101, _, _, _, _, none⟩) (v := ?_) rfl (by kernel_rfl) (by kernel_rfl) (by kernel_rfl) (fun _ _ _ h => h) (Or.inl ⟨by rfl, ?_⟩) (by assumption) ?_
          case refine_2 => (intro wx hSx; (try dsimp only at hSx); go_simp; first | done | with_reducible rfl)
          try simp only [Act.put, List.setIfInBounds_toArray, List.set_cons_zero, List.set_cons_succ]
          refine wpAnyH_take (i := 1) (oi := ⟨some 102, _, _, _, _, none⟩) (v := ?_) rfl (by kernel_rfl) (by kernel_rfl) (by kernel_rfl) (fun _ _ _ h => h) (Or.inl ⟨by rfl, ?_⟩) (by assumption) ?_
          case refine_2 => (intro wx hSx; (try dsimp only at hSx); go_simp; first | done | with_reducible rfl)
          try simp only [Act.put, List.setIfInBounds_toArray, List.set_cons_zero, List.set_cons_succ]
          refine wpAnyH_take (i := 2) (oi := ⟨some 103, _, _, _, _, none⟩) (v := ?_) rfl (by kernel_rfl) (by kernel_rfl) (by kernel_rfl) (fun _ _ _ h => h) (Or.inl ⟨by rfl, ?_⟩) (by assumption) ?_
          case refine_2 => (intro wx hSx; (try dsimp only at hSx); go_simp; first | done | with_reducible rfl)
          try simp only [Act.put, List.setIfInBounds_toArray, List.set_cons_zero, List.set_cons_succ]
          refine wpAnyH_take (i := 3) (oi := ⟨some 104, _, _, _, _, none⟩) (v := ?_) rfl (by kernel_rfl) (by kernel_rfl) (by kernel_rfl) (fun _ _ _ h => h) (Or.inl ⟨by rfl, ?_⟩) (by assumption) ?_
          case refine_2 => (intro wx hSx; (try dsimp only at hSx); go_simp; first | done | with_reducible rfl)
          try simp only [Act.put, List.setIfInBounds_toArray, List.set_cons_zero, List.set_cons_succ]
          have hd : Below wr.heap.size wr wr.drew := below_drewN (Below.refl _ _) 1
          have MD : Hid (Bx wr.drew g16 Ad cd (pack (na + i) (cat na fa fb)) ((na : Int) + (i : Nat)) ∧ Bx wr.drew g8 A11 c11 (pack (na + nb) (cat na fa fb)) ((na : Int) + nb) ∧ Row wr.drew g4 49 (c6 Aa ca (pack na fa) na Ab cb (pack nb fb) nb Ac cc (pack nc fc) nc) ∧ Bys wr.drew Aa ca (pack na fa) ∧ Bys wr.drew Ab cb (pack nb fb) ∧ Bys wr.drew Ac cc (pack nc fc) ∧ Below w.heap.size w wr.drew) := Lib.hid ⟨M.out.1.under hd, M.out.2.1.under hd, M.out.2.2.1.under hd, M.out.2.2.2.1.under hd, M.out.2.2.2.2.1.under hd, M.out.2.2.2.2.2.1.under hd, M.out.2.2.2.2.2.2.trans (hd.mono M.out.2.2.2.2.2.2.size)⟩
          clear M hd
          generalize wr.drew = wd at MD hHeld ⊢
          refine wpAnyH_ready (rs := [4, 9]) (by kernel_rfl) (by simp) ?_
          refine (AllReadyH.cons (o := ⟨some 105, _, _, _, _, none⟩) rfl (fun Kx hK => ?_) (AllReadyH.cons (o := ⟨some 18, _, _, _, _, none⟩) rfl (fun Kx hK => ?_) AllReadyH.nil))
          · go_simp
            refine (refAt_any wd Ab cb (pack nb fb) nb i MD.out.2.2.2.2.1 (by rw [pack_len]; omega) (by omega)).mono ?_
            rintro e wj2 ⟨rfl, hb⟩
            rw [bt_pack hlt]
            have XJ1 : Hid (Bx wj2 g16 Ad cd (pack (na + i) (cat na fa fb)) ((na : Int) + (i : Nat)) ∧ Bx wj2 g8 A11 c11 (pack (na + nb) (cat na fa fb)) ((na : Int) + nb) ∧ Row wj2 g4 49 (c6 Aa ca (pack na fa) na Ab cb (pack nb fb) nb Ac cc (pack nc fc) nc) ∧ Bys wj2 Aa ca (pack na fa) ∧ Bys wj2 Ab cb (pack nb fb) ∧ Bys wj2 Ac cc (pack nc fc) ∧ Below w.heap.size w wj2) := Lib.hid ⟨MD.out.1.under hb, MD.out.2.1.under hb, MD.out.2.2.1.under hb, MD.out.2.2.2.1.under hb, MD.out.2.2.2.2.1.under hb, MD.out.2.2.2.2.2.1.under hb, MD.out.2.2.2.2.2.2.trans (hb.mono MD.out.2.2.2.2.2.2.size)⟩
            clear hb MD 
            go_wp2_with fail
            refine hK.out _ _ ⟨row2 XJ1.out.1.1, (row6 XJ1.out.2.2.1).2.2.1, (row6 XJ1.out.2.2.1).2.2.2.1⟩ (fun hHeld3 => ?_)
            clear hK Kx hHeld
            try simp only [Act.put, List.setIfInBounds_toArray, List.set_cons_zero, List.set_cons_succ]
            refine wpAnyH_ready (rs := [5, 9]) (by kernel_rfl) (by simp) ?_
            refine (AllReadyH.cons (o := ⟨some 106, _, _, _, _, none⟩) rfl (fun Kx hK => ?_) (AllReadyH.cons (o := ⟨some 18, _, _, _, _, none⟩) rfl (fun Kx hK => ?_) AllReadyH.nil))
            · go_simp
              refine (append_any wj2 Ad cd _ _ _ 1 XJ1.out.1.2 (by omega) (by omega)).mono ?_
              rw [app_cat hlt h9]
              rintro e wj5 ⟨Av7, cv8, rfl, hP, hb⟩
              have XJ4 : Hid (Bx wj5 g16 Ad cd (pack (na + i) (cat na fa fb)) ((na : Int) + (i : Nat)) ∧ Bx wj5 g8 A11 c11 (pack (na + nb) (cat na fa fb)) ((na : Int) + nb) ∧ Row wj5 g4 49 (c6 Aa ca (pack na fa) na Ab cb (pack nb fb) nb Ac cc (pack nc fc) nc) ∧ Bys wj5 Aa ca (pack na fa) ∧ Bys wj5 Ab cb (pack nb fb) ∧ Bys wj5 Ac cc (pack nc fc) ∧ Below w.heap.size w wj5) := Lib.hid ⟨XJ1.out.1.under hb, XJ1.out.2.1.under hb, XJ1.out.2.2.1.under hb, XJ1.out.2.2.2.1.under hb, XJ1.out.2.2.2.2.1.under hb, XJ1.out.2.2.2.2.2.1.under hb, XJ1.out.2.2.2.2.2.2.trans (hb.mono XJ1.out.2.2.2.2.2.2.size)⟩
              have HP9 := Lib.hid hP
              clear hb hP XJ1 
              go_wp2_with fail
              refine hK.out _ _ ⟨row2 XJ4.out.1.1, (row6 XJ4.out.2.2.1).2.2.1, (row6 XJ4.out.2.2.1).2.2.2.1⟩ (fun hHeld6 => ?_)
              clear hK Kx hHeld3
              try simp only [Act.put, List.setIfInBounds_toArray, List.set_cons_zero, List.set_cons_succ]
              have hHeld := hHeld6
              clear hHeld6
              refine wpAnyH_take (i := 6) (oi := ⟨some 100, _, _, _, _, none⟩) (v := ?_) rfl (by kernel_rfl) (by kernel_rfl) (by kernel_rfl) (fun _ _ _ h => h) (Or.inl ⟨by rfl, ?_⟩) (by assumption) ?_
              case refine_2 => (intro wx hSx; (try dsimp only at hSx); go_simp; first | done | with_reducible rfl)
              try simp only [Act.put, List.setIfInBounds_toArray, List.set_cons_zero, List.set_cons_succ]
              refine wpAnyH_take (i := 7) (oi := ⟨some 107, _, _, _, _, none⟩) (v := ?_) rfl (by kernel_rfl) (by kernel_rfl) (by kernel_rfl) (fun _ _ _ h => h) (Or.inl ⟨by rfl, ?_⟩) (by assumption) ?_
              case refine_2 => (intro wx hSx; (try dsimp only at hSx); go_simp; first | done | with_reducible rfl)
              try simp only [Act.put, List.setIfInBounds_toArray, List.set_cons_zero, List.set_cons_succ]
              refine wpAnyH_take (i := 8) (oi := ⟨some 108, _, _, _, _, none⟩) (v := ?_) rfl (by kernel_rfl) (by kernel_rfl) (by kernel_rfl) (fun _ _ _ h => h) (Or.inl ⟨by rfl, ?_⟩) (by assumption) ?_
              case refine_2 => (intro wx hSx; (try dsimp only at hSx); go_simp; first | done | with_reducible rfl)
              try simp only [Act.put, List.setIfInBounds_toArray, List.set_cons_zero, List.set_cons_succ]
              refine wpAnyH_ready (rs := [9]) (by kernel_rfl) (by simp) ?_
              refine (AllReadyH.cons (o := ⟨some 18, _, _, _, _, none⟩) rfl (fun Kx hK => ?_) AllReadyH.nil)
              · go_simp
                have XJ10 : Hid (Bx (wj5.alloc (.cells #[.slice none 0 0, .int .i64 0] 24)) g16 Ad cd (pack (na + i) (cat na fa fb)) ((na : Int) + (i : Nat)) ∧ Bx (wj5.alloc (.cells #[.slice none 0 0, .int .i64 0] 24)) g8 A11 c11 (pack (na + nb) (cat na fa fb)) ((na : Int) + nb) ∧ Row (wj5.alloc (.cells #[.slice none 0 0, .int .i64 0] 24)) g4 49 (c6 Aa ca (pack na fa) na Ab cb (pack nb fb) nb Ac cc (pack nc fc) nc) ∧ Bys (wj5.alloc (.cells #[.slice none 0 0, .int .i64 0] 24)) Aa ca (pack na fa) ∧ Bys (wj5.alloc (.cells #[.slice none 0 0, .int .i64 0] 24)) Ab cb (pack nb fb) ∧ Bys (wj5.alloc (.cells #[.slice none 0 0, .int .i64 0] 24)) Ac cc (pack nc fc) ∧ Below w.heap.size w (wj5.alloc (.cells #[.slice none 0 0, .int .i64 0] 24))) := Lib.hid ⟨XJ4.out.1.alloc _, XJ4.out.2.1.alloc _, XJ4.out.2.2.1.alloc _, XJ4.out.2.2.2.1.under ((Below.refl _ _).alloc (Nat.le_refl _) _), XJ4.out.2.2.2.2.1.under ((Below.refl _ _).alloc (Nat.le_refl _) _), XJ4.out.2.2.2.2.2.1.under ((Below.refl _ _).alloc (Nat.le_refl _) _), alloc_below XJ4.out.2.2.2.2.2.2 (Nat.le_refl _) _⟩
                have ZR14 : Hid (Row (wj5.alloc (.cells #[.slice none 0 0, .int .i64 0] 24)) wj5.heap.size 24 #[.slice none 0 0, .int .i64 0]) := Lib.hid (Row.new _ _ _)
                have GZ15 : Hid (wj5.heap.size ≠ g16 ∧ wj5.heap.size ≠ g8 ∧ wj5.heap.size ≠ g4 ∧ w.heap.size ≤ wj5.heap.size) := Lib.hid ⟨by have := XJ4.out.1.1.lt; omega, by have := XJ4.out.2.1.1.lt; omega, by have := XJ4.out.2.2.1.lt; omega, XJ4.out.2.2.2.2.2.2.size⟩
                have HP16 := Lib.hid (HP9.out.under ((Below.refl _ _).alloc (Nat.le_refl _) (.cells #[.slice none 0 0, .int .i64 0] 24)))
                refine hK.out _ _ ⟨row2 XJ10.out.1.1, (row6 XJ10.out.2.2.1).2.2.1, (row6 XJ10.out.2.2.1).2.2.2.1⟩ (fun hHeld12 => ?_)
                clear hK Kx hHeld
                try simp only [Act.put, List.setIfInBounds_toArray, List.set_cons_zero, List.set_cons_succ]
                refine genH (fun V => Hid (Bx V g16 Ad cd (pack (na + i) (cat na fa fb)) ((na : Int) + (i : Nat)) ∧ Bx V g8 A11 c11 (pack (na + nb) (cat na fa fb)) ((na : Int) + nb) ∧ Row V g4 49 (c6 Aa ca (pack na fa) na Ab cb (pack nb fb) nb Ac cc (pack nc fc) nc) ∧ Bys V Aa ca (pack na fa) ∧ Bys V Ab cb (pack nb fb) ∧ Bys V Ac cc (pack nc fc) ∧ Below w.heap.size w V) ∧ Hid (Row V wj5.heap.size 24 #[.slice none 0 0, .int .i64 0]) ∧ Hid (Bys V Av7 cv8 (pack (na + (i + 1)) (cat na fa fb)))) ⟨XJ10, ZR14, HP16⟩ ?_
                clear XJ10 ZR14 HP16 hHeld12
                generalize wj5.heap.size = gz13 at GZ15 ⊢
                rintro wk17 ⟨XJ18, ZR19, HP20⟩
                have hHeld12 : ((wk17.cell? ⟨g16, 0, none⟩ = some (.slice Ad (pack (na + i) (cat na fa fb)).length cd) ∧ wk17.cell? ⟨g16, 1, none⟩ = some (.int .i64 ((na : Int) + (i : Nat)))) ∧ (wk17.cell? ⟨g4, 2, none⟩ = some (.slice Ab (pack nb fb).length cb) ∧ wk17.cell? ⟨g4, 3, none⟩ = some (.int .i64 nb))) := ⟨row2 XJ18.out.1.1, (row6 XJ18.out.2.2.1).2.2.1, (row6 XJ18.out.2.2.1).2.2.2.1⟩
                refine wpAnyH_ready (rs := [10]) (by kernel_rfl) (by simp) ?_
                refine AllReadyH.cons rfl (fun Kx hK => ?_) AllReadyH.nil
                obtain ⟨y0, y1⟩ := row2 ZR19.out
                have f0 := ZR19.out.thaw 0
                have f1 := ZR19.out.thaw 1
                go_simp
                have XV21 : Hid (Bx (wr2 wk17 gz13 Av7 (pack (na + (i + 1)) (cat na fa fb)).length cv8 ((na : Int) + i + 1)) gz13 Av7 cv8 (pack (na + (i + 1)) (cat na fa fb)) ((na : Int) + i + 1) ∧ Bx (wr2 wk17 gz13 Av7 (pack (na + (i + 1)) (cat na fa fb)).length cv8 ((na : Int) + i + 1)) g16 Ad cd (pack (na + i) (cat na fa fb)) ((na : Int) + (i : Nat)) ∧ Bx (wr2 wk17 gz13 Av7 (pack (na + (i + 1)) (cat na fa fb)).length cv8 ((na : Int) + i + 1)) g8 A11 c11 (pack (na + nb) (cat na fa fb)) ((na : Int) + nb) ∧ Row (wr2 wk17 gz13 Av7 (pack (na + (i + 1)) (cat na fa fb)).length cv8 ((na : Int) + i + 1)) g4 49 (c6 Aa ca (pack na fa) na Ab cb (pack nb fb) nb Ac cc (pack nc fc) nc) ∧ Bys (wr2 wk17 gz13 Av7 (pack (na + (i + 1)) (cat na fa fb)).length cv8 ((na : Int) + i + 1)) Aa ca (pack na fa) ∧ Bys (wr2 wk17 gz13 Av7 (pack (na + (i + 1)) (cat na fa fb)).length cv8 ((na : Int) + i + 1)) Ab cb (pack nb fb) ∧ Bys (wr2 wk17 gz13 Av7 (pack (na + (i + 1)) (cat na fa fb)).length cv8 ((na : Int) + i + 1)) Ac cc (pack nc fc) ∧ Below w.heap.size w (wr2 wk17 gz13 Av7 (pack (na + (i + 1)) (cat na fa fb)).length cv8 ((na : Int) + i + 1))) := Lib.hid ⟨Bx.wrote HP20.out ZR19.out, XJ18.out.1.set2 GZ15.out.1 ZR19.out, XJ18.out.2.1.set2 GZ15.out.2.1 ZR19.out, XJ18.out.2.2.1.set2 GZ15.out.2.2.1, XJ18.out.2.2.2.1.set2 ZR19.out, XJ18.out.2.2.2.2.1.set2 ZR19.out, XJ18.out.2.2.2.2.2.1.set2 ZR19.out, set2_below XJ18.out.2.2.2.2.2.2 GZ15.out.2.2.2⟩
                clear y0 y1 f0 f1 XJ18
                refine hK.out _ _ ⟨row2 XV21.out.2.1.1, (row6 XV21.out.2.2.2.1).2.2.1, (row6 XV21.out.2.2.2.1).2.2.2.1⟩ (fun hHeld2 => ?_)
                clear hK Kx hHeld12
                try simp only [Act.put, List.setIfInBounds_toArray, List.set_cons_zero, List.set_cons_succ]
                refine genH (fun V => Hid (Bx V gz13 Av7 cv8 (pack (na + (i + 1)) (cat na fa fb)) ((na : Int) + i + 1) ∧ Bx V g16 Ad cd (pack (na + i) (cat na fa fb)) ((na : Int) + (i : Nat)) ∧ Bx V g8 A11 c11 (pack (na + nb) (cat na fa fb)) ((na : Int) + nb) ∧ Row V g4 49 (c6 Aa ca (pack na fa) na Ab cb (pack nb fb) nb Ac cc (pack nc fc) nc) ∧ Bys V Aa ca (pack na fa) ∧ Bys V Ab cb (pack nb fb) ∧ Bys V Ac cc (pack nc fc) ∧ Below w.heap.size w V)) XV21 ?_
                clear XV21 hHeld2
                intro VVXV21 XV21
                have hHeld : ((VVXV21.cell? ⟨g16, 0, none⟩ = some (.slice Ad (pack (na + i) (cat na fa fb)).length cd) ∧ VVXV21.cell? ⟨g16, 1, none⟩ = some (.int .i64 ((na : Int) + (i : Nat)))) ∧ (VVXV21.cell? ⟨g4, 2, none⟩ = some (.slice Ab (pack nb fb).length cb) ∧ VVXV21.cell? ⟨g4, 3, none⟩ = some (.int .i64 nb))) := ⟨row2 XV21.out.2.1.1, (row6 XV21.out.2.2.2.1).2.2.1, (row6 XV21.out.2.2.2.1).2.2.2.1⟩
                refine wpAnyH_take (i := 11) (oi := ⟨some 19, _, _, _, _, none⟩) (v := ?_) rfl (by kernel_rfl) (by kernel_rfl) (by kernel_rfl) (fun _ _ _ h => h) (Or.inl ⟨by rfl, ?_⟩) (by assumption) ?_
                case refine_2 => (intro wx hSx; (try dsimp only at hSx); go_simp; first | done | with_reducible rfl)
                try simp only [Act.put, List.setIfInBounds_toArray, List.set_cons_zero, List.set_cons_succ]
                refine wpAnyH_done (by kernel_rfl) ?_ _
                clear hHeld
                obtain ⟨y0, y1⟩ := row2 XV21.out.1.1
                obtain ⟨z0, z1⟩ := row2 XV21.out.2.1.1
                have f0 := XV21.out.2.1.1.thaw 0
                have f1 := XV21.out.2.1.1.thaw 1
                go_wp2_with fail
                go_roundw
                case rel => exact ⟨i + 1, by omega, by go_num, Av7, cv8, Lib.hid ⟨by rw [show (na : Int) + ((i + 1 : Nat) : Int) = (na : Int) + i + 1 by omega]; exact Bx.wrote XV21.out.1.2 XV21.out.2.1.1, XV21.out.2.2.1.set2 G16.out.1 XV21.out.2.1.1, XV21.out.2.2.2.1.set2 G16.out.2.1, XV21.out.2.2.2.2.1.set2 XV21.out.2.1.1, XV21.out.2.2.2.2.2.1.set2 XV21.out.2.1.1, XV21.out.2.2.2.2.2.2.1.set2 XV21.out.2.1.1, set2_below XV21.out.2.2.2.2.2.2.2 G16.out.2.2⟩⟩
                case measure => simp [intOf]; omega
            · go_simp
              have XJ22 : Hid (Bx (wj2.alloc (.cells #[.slice none 0 0, .int .i64 0] 24)) g16 Ad cd (pack (na + i) (cat na fa fb)) ((na : Int) + (i : Nat)) ∧ Bx (wj2.alloc (.cells #[.slice none 0 0, .int .i64 0] 24)) g8 A11 c11 (pack (na + nb) (cat na fa fb)) ((na : Int) + nb) ∧ Row (wj2.alloc (.cells #[.slice none 0 0, .int .i64 0] 24)) g4 49 (c6 Aa ca (pack na fa) na Ab cb (pack nb fb) nb Ac cc (pack nc fc) nc) ∧ Bys (wj2.alloc (.cells #[.slice none 0 0, .int .i64 0] 24)) Aa ca (pack na fa) ∧ Bys (wj2.alloc (.cells #[.slice none 0 0, .int .i64 0] 24)) Ab cb (pack nb fb) ∧ Bys (wj2.alloc (.cells #[.slice none 0 0, .int .i64 0] 24)) Ac cc (pack nc fc) ∧ Below w.heap.size w (wj2.alloc (.cells #[.slice none 0 0, .int .i64 0] 24))) := Lib.hid ⟨XJ1.out.1.alloc _, XJ1.out.2.1.alloc _, XJ1.out.2.2.1.alloc _, XJ1.out.2.2.2.1.under ((Below.refl _ _).alloc (Nat.le_refl _) _), XJ1.out.2.2.2.2.1.under ((Below.refl _ _).alloc (Nat.le_refl _) _), XJ1.out.2.2.2.2.2.1.under ((Below.refl _ _).alloc (Nat.le_refl _) _), alloc_below XJ1.out.2.2.2.2.2.2 (Nat.le_refl _) _⟩
              have ZR26 : Hid (Row (wj2.alloc (.cells #[.slice none 0 0, .int .i64 0] 24)) wj2.heap.size 24 #[.slice none 0 0, .int .i64 0]) := Lib.hid (Row.new _ _ _)
              have GZ27 : Hid (wj2.heap.size ≠ g16 ∧ wj2.heap.size ≠ g8 ∧ wj2.heap.size ≠ g4 ∧ w.heap.size ≤ wj2.heap.size) := Lib.hid ⟨by have := XJ1.out.1.1.lt; omega, by have := XJ1.out.2.1.1.lt; omega, by have := XJ1.out.2.2.1.lt; omega, XJ1.out.2.2.2.2.2.2.size⟩
              refine hK.out _ _ ⟨row2 XJ22.out.1.1, (row6 XJ22.out.2.2.1).2.2.1, (row6 XJ22.out.2.2.1).2.2.2.1⟩ (fun hHeld24 => ?_)
              clear hK Kx hHeld3
              try simp only [Act.put, List.setIfInBounds_toArray, List.set_cons_zero, List.set_cons_succ]
              refine genH (fun V => Hid (Bx V g16 Ad cd (pack (na + i) (cat na fa fb)) ((na : Int) + (i : Nat)) ∧ Bx V g8 A11 c11 (pack (na + nb) (cat na fa fb)) ((na : Int) + nb) ∧ Row V g4 49 (c6 Aa ca (pack na fa) na Ab cb (pack nb fb) nb Ac cc (pack nc fc) nc) ∧ Bys V Aa ca (pack na fa) ∧ Bys V Ab cb (pack nb fb) ∧ Bys V Ac cc (pack nc fc) ∧ Below w.heap.size w V) ∧ Hid (Row V wj2.heap.size 24 #[.slice none 0 0, .int .i64 0])) ⟨XJ22, ZR26⟩ ?_
              clear XJ22 ZR26  hHeld24
              generalize wj2.heap.size = gz25 at GZ27 ⊢
              rintro wk28 ⟨XJ29, ZR30⟩
              have hHeld24 : ((wk28.cell? ⟨g16, 0, none⟩ = some (.slice Ad (pack (na + i) (cat na fa fb)).length cd) ∧ wk28.cell? ⟨g16, 1, none⟩ = some (.int .i64 ((na : Int) + (i : Nat)))) ∧ (wk28.cell? ⟨g4, 2, none⟩ = some (.slice Ab (pack nb fb).length cb) ∧ wk28.cell? ⟨g4, 3, none⟩ = some (.int .i64 nb))) := ⟨row2 XJ29.out.1.1, (row6 XJ29.out.2.2.1).2.2.1, (row6 XJ29.out.2.2.1).2.2.2.1⟩
              refine wpAnyH_ready (rs := [5]) (by kernel_rfl) (by simp) ?_
              refine (AllReadyH.cons (o := ⟨some 106, _, _, _, _, none⟩) rfl (fun Kx hK => ?_) AllReadyH.nil)
              · go_simp
                refine (append_any wk28 Ad cd _ _ _ 1 XJ29.out.1.2 (by omega) (by omega)).mono ?_
                rw [app_cat hlt h9]
                rintro e wj33 ⟨Av35, cv36, rfl, hP, hb⟩
                have XJ32 : Hid (Bx wj33 g16 Ad cd (pack (na + i) (cat na fa fb)) ((na : Int) + (i : Nat)) ∧ Bx wj33 g8 A11 c11 (pack (na + nb) (cat na fa fb)) ((na : Int) + nb) ∧ Row wj33 g4 49 (c6 Aa ca (pack na fa) na Ab cb (pack nb fb) nb Ac cc (pack nc fc) nc) ∧ Bys wj33 Aa ca (pack na fa) ∧ Bys wj33 Ab cb (pack nb fb) ∧ Bys wj33 Ac cc (pack nc fc) ∧ Below w.heap.size w wj33) := Lib.hid ⟨XJ29.out.1.under hb, XJ29.out.2.1.under hb, XJ29.out.2.2.1.under hb, XJ29.out.2.2.2.1.under hb, XJ29.out.2.2.2.2.1.under hb, XJ29.out.2.2.2.2.2.1.under hb, XJ29.out.2.2.2.2.2.2.trans (hb.mono XJ29.out.2.2.2.2.2.2.size)⟩
                have HP37 := Lib.hid hP
                have ZR38 := Lib.hid (ZR30.out.under hb)
                clear hb hP XJ29 ZR30
                go_wp2_with fail
                refine hK.out _ _ ⟨row2 XJ32.out.1.1, (row6 XJ32.out.2.2.1).2.2.1, (row6 XJ32.out.2.2.1).2.2.2.1⟩ (fun hHeld34 => ?_)
                clear hK Kx hHeld24
                try simp only [Act.put, List.setIfInBounds_toArray, List.set_cons_zero, List.set_cons_succ]
                have hHeld := hHeld34
                clear hHeld34
                refine wpAnyH_take (i := 6) (oi := ⟨some 100, _, _, _, _, none⟩) (v := ?_) rfl (by kernel_rfl) (by kernel_rfl) (by kernel_rfl) (fun _ _ _ h => h) (Or.inl ⟨by rfl, ?_⟩) (by assumption) ?_
                case refine_2 => (intro wx hSx; (try dsimp only at hSx); go_simp; first | done | with_reducible rfl)
                try simp only [Act.put, List.setIfInBounds_toArray, List.set_cons_zero, List.set_cons_succ]
                refine wpAnyH_take (i := 7) (oi := ⟨some 107, _, _, _, _, none⟩) (v := ?_) rfl (by kernel_rfl) (by kernel_rfl) (by kernel_rfl) (fun _ _ _ h => h) (Or.inl ⟨by rfl, ?_⟩) (by assumption) ?_
                case refine_2 => (intro wx hSx; (try dsimp only at hSx); go_simp; first | done | with_reducible rfl)
                try simp only [Act.put, List.setIfInBounds_toArray, List.set_cons_zero, List.set_cons_succ]
                refine wpAnyH_take (i := 8) (oi := ⟨some 108, _, _, _, _, none⟩) (v := ?_) rfl (by kernel_rfl) (by kernel_rfl) (by kernel_rfl) (fun _ _ _ h => h) (Or.inl ⟨by rfl, ?_⟩) (by assumption) ?_
                case refine_2 => (intro wx hSx; (try dsimp only at hSx); go_simp; first | done | with_reducible rfl)
                try simp only [Act.put, List.setIfInBounds_toArray, List.set_cons_zero, List.set_cons_succ]
                refine wpAnyH_ready (rs := [10]) (by kernel_rfl) (by simp) ?_
                refine AllReadyH.cons rfl (fun Kx hK => ?_) AllReadyH.nil
                obtain ⟨y0, y1⟩ := row2 ZR38.out
                have f0 := ZR38.out.thaw 0
                have f1 := ZR38.out.thaw 1
                go_simp
                have XV39 : Hid (Bx (wr2 wj33 gz25 Av35 (pack (na + (i + 1)) (cat na fa fb)).length cv36 ((na : Int) + i + 1)) gz25 Av35 cv36 (pack (na + (i + 1)) (cat na fa fb)) ((na : Int) + i + 1) ∧ Bx (wr2 wj33 gz25 Av35 (pack (na + (i + 1)) (cat na fa fb)).length cv36 ((na : Int) + i + 1)) g16 Ad cd (pack (na + i) (cat na fa fb)) ((na : Int) + (i : Nat)) ∧ Bx (wr2 wj33 gz25 Av35 (pack (na + (i + 1)) (cat na fa fb)).length cv36 ((na : Int) + i + 1)) g8 A11 c11 (pack (na + nb) (cat na fa fb)) ((na : Int) + nb) ∧ Row (wr2 wj33 gz25 Av35 (pack (na + (i + 1)) (cat na fa fb)).length cv36 ((na : Int) + i + 1)) g4 49 (c6 Aa ca (pack na fa) na Ab cb (pack nb fb) nb Ac cc (pack nc fc) nc) ∧ Bys (wr2 wj33 gz25 Av35 (pack (na + (i + 1)) (cat na fa fb)).length cv36 ((na : Int) + i + 1)) Aa ca (pack na fa) ∧ Bys (wr2 wj33 gz25 Av35 (pack (na + (i + 1)) (cat na fa fb)).length cv36 ((na : Int) + i + 1)) Ab cb (pack nb fb) ∧ Bys (wr2 wj33 gz25 Av35 (pack (na + (i + 1)) (cat na fa fb)).length cv36 ((na : Int) + i + 1)) Ac cc (pack nc fc) ∧ Below w.heap.size w (wr2 wj33 gz25 Av35 (pack (na + (i + 1)) (cat na fa fb)).length cv36 ((na : Int) + i + 1))) := Lib.hid ⟨Bx.wrote HP37.out ZR38.out, XJ32.out.1.set2 GZ27.out.1 ZR38.out, XJ32.out.2.1.set2 GZ27.out.2.1 ZR38.out, XJ32.out.2.2.1.set2 GZ27.out.2.2.1, XJ32.out.2.2.2.1.set2 ZR38.out, XJ32.out.2.2.2.2.1.set2 ZR38.out, XJ32.out.2.2.2.2.2.1.set2 ZR38.out, set2_below XJ32.out.2.2.2.2.2.2 GZ27.out.2.2.2⟩
                clear y0 y1 f0 f1 XJ32
                refine hK.out _ _ ⟨row2 XV39.out.2.1.1, (row6 XV39.out.2.2.2.1).2.2.1, (row6 XV39.out.2.2.2.1).2.2.2.1⟩ (fun hHeld2 => ?_)
                clear hK Kx hHeld
                try simp only [Act.put, List.setIfInBounds_toArray, List.set_cons_zero, List.set_cons_succ]
                refine genH (fun V => Hid (Bx V gz25 Av35 cv36 (pack (na + (i + 1)) (cat na fa fb)) ((na : Int) + i + 1) ∧ Bx V g16 Ad cd (pack (na + i) (cat na fa fb)) ((na : Int) + (i : Nat)) ∧ Bx V g8 A11 c11 (pack (na + nb) (cat na fa fb)) ((na : Int) + nb) ∧ Row V g4 49 (c6 Aa ca (pack na fa) na Ab cb (pack nb fb) nb Ac cc (pack nc fc) nc) ∧ Bys V Aa ca (pack na fa) ∧ Bys V Ab cb (pack nb fb) ∧ Bys V Ac cc (pack nc fc) ∧ Below w.heap.size w V)) XV39 ?_
                clear XV39 hHeld2
                intro VVXV39 XV39
                have hHeld : ((VVXV39.cell? ⟨g16, 0, none⟩ = some (.slice Ad (pack (na + i) (cat na fa fb)).length cd) ∧ VVXV39.cell? ⟨g16, 1, none⟩ = some (.int .i64 ((na : Int) + (i : Nat)))) ∧ (VVXV39.cell? ⟨g4, 2, none⟩ = some (.slice Ab (pack nb fb).length cb) ∧ VVXV39.cell? ⟨g4, 3, none⟩ = some (.int .i64 nb))) := ⟨row2 XV39.out.2.1.1, (row6 XV39.out.2.2.2.1).2.2.1, (row6 XV39.out.2.2.2.1).2.2.2.1⟩
                refine wpAnyH_take (i := 11) (oi := ⟨some 19, _, _, _, _, none⟩) (v := ?_) rfl (by kernel_rfl) (by kernel_rfl) (by kernel_rfl) (fun _ _ _ h => h) (Or.inl ⟨by rfl, ?_⟩) (by assumption) ?_
                case refine_2 => (intro wx hSx; (try dsimp only at hSx); go_simp; first | done | with_reducible rfl)
                try simp only [Act.put, List.setIfInBounds_toArray, List.set_cons_zero, List.set_cons_succ]
                refine wpAnyH_done (by kernel_rfl) ?_ _
                clear hHeld
                obtain ⟨y0, y1⟩ := row2 XV39.out.1.1
                obtain ⟨z0, z1⟩ := row2 XV39.out.2.1.1
                have f0 := XV39.out.2.1.1.thaw 0
                have f1 := XV39.out.2.1.1.thaw 1
                go_wp2_with fail
                go_roundw
                case rel => exact ⟨i + 1, by omega, by go_num, Av35, cv36, Lib.hid ⟨by rw [show (na : Int) + ((i + 1 : Nat) : Int) = (na : Int) + i + 1 by omega]; exact Bx.wrote XV39.out.1.2 XV39.out.2.1.1, XV39.out.2.2.1.set2 G16.out.1 XV39.out.2.1.1, XV39.out.2.2.2.1.set2 G16.out.2.1, XV39.out.2.2.2.2.1.set2 XV39.out.2.1.1, XV39.out.2.2.2.2.2.1.set2 XV39.out.2.1.1, XV39.out.2.2.2.2.2.2.1.set2 XV39.out.2.1.1, set2_below XV39.out.2.2.2.2.2.2.2 G16.out.2.2⟩⟩
                case measure => simp [intOf]; omega
          · go_simp
            have XJ40 : Hid (Bx (wd.alloc (.cells #[.slice none 0 0, .int .i64 0] 24)) g16 Ad cd (pack (na + i) (cat na fa fb)) ((na : Int) + (i : Nat)) ∧ Bx (wd.alloc (.cells #[.slice none 0 0, .int .i64 0] 24)) g8 A11 c11 (pack (na + nb) (cat na fa fb)) ((na : Int) + nb) ∧ Row (wd.alloc (.cells #[.slice none 0 0, .int .i64 0] 24)) g4 49 (c6 Aa ca (pack na fa) na Ab cb (pack nb fb) nb Ac cc (pack nc fc) nc) ∧ Bys (wd.alloc (.cells #[.slice none 0 0, .int .i64 0] 24)) Aa ca (pack na fa) ∧ Bys (wd.alloc (.cells #[.slice none 0 0, .int .i64 0] 24)) Ab cb (pack nb fb) ∧ Bys (wd.alloc (.cells #[.slice none 0 0, .int .i64 0] 24)) Ac cc (pack nc fc) ∧ Below w.heap.size w (wd.alloc (.cells #[.slice none 0 0, .int .i64 0] 24))) := Lib.hid ⟨MD.out.1.alloc _, MD.out.2.1.alloc _, MD.out.2.2.1.alloc _, MD.out.2.2.2.1.under ((Below.refl _ _).alloc (Nat.le_refl _) _), MD.out.2.2.2.2.1.under ((Below.refl _ _).alloc (Nat.le_refl _) _), MD.out.2.2.2.2.2.1.under ((Below.refl _ _).alloc (Nat.le_refl _) _), alloc_below MD.out.2.2.2.2.2.2 (Nat.le_refl _) _⟩
            have ZR44 : Hid (Row (wd.alloc (.cells #[.slice none 0 0, .int .i64 0] 24)) wd.heap.size 24 #[.slice none 0 0, .int .i64 0]) := Lib.hid (Row.new _ _ _)
            have GZ45 : Hid (wd.heap.size ≠ g16 ∧ wd.heap.size ≠ g8 ∧ wd.heap.size ≠ g4 ∧ w.heap.size ≤ wd.heap.size) := Lib.hid ⟨by have := MD.out.1.1.lt; omega, by have := MD.out.2.1.1.lt; omega, by have := MD.out.2.2.1.lt; omega, MD.out.2.2.2.2.2.2.size⟩
            refine hK.out _ _ ⟨row2 XJ40.out.1.1, (row6 XJ40.out.2.2.1).2.2.1, (row6 XJ40.out.2.2.1).2.2.2.1⟩ (fun hHeld42 => ?_)
            clear hK Kx hHeld
            try simp only [Act.put, List.setIfInBounds_toArray, List.set_cons_zero, List.set_cons_succ]
            refine genH (fun V => Hid (Bx V g16 Ad cd (pack (na + i) (cat na fa fb)) ((na : Int) + (i : Nat)) ∧ Bx V g8 A11 c11 (pack (na + nb) (cat na fa fb)) ((na : Int) + nb) ∧ Row V g4 49 (c6 Aa ca (pack na fa) na Ab cb (pack nb fb) nb Ac cc (pack nc fc) nc) ∧ Bys V Aa ca (pack na fa) ∧ Bys V Ab cb (pack nb fb) ∧ Bys V Ac cc (pack nc fc) ∧ Below w.heap.size w V) ∧ Hid (Row V wd.heap.size 24 #[.slice none 0 0, .int .i64 0])) ⟨XJ40, ZR44⟩ ?_
            clear XJ40 ZR44  hHeld42
            generalize wd.heap.size = gz43 at GZ45 ⊢
            rintro wk46 ⟨XJ47, ZR48⟩
            have hHeld42 : ((wk46.cell? ⟨g16, 0, none⟩ = some (.slice Ad (pack (na + i) (cat na fa fb)).length cd) ∧ wk46.cell? ⟨g16, 1, none⟩ = some (.int .i64 ((na : Int) + (i : Nat)))) ∧ (wk46.cell? ⟨g4, 2, none⟩ = some (.slice Ab (pack nb fb).length cb) ∧ wk46.cell? ⟨g4, 3, none⟩ = some (.int .i64 nb))) := ⟨row2 XJ47.out.1.1, (row6 XJ47.out.2.2.1).2.2.1, (row6 XJ47.out.2.2.1).2.2.2.1⟩
            refine wpAnyH_ready (rs := [4]) (by kernel_rfl) (by simp) ?_
            refine (AllReadyH.cons (o := ⟨some 105, _, _, _, _, none⟩) rfl (fun Kx hK => ?_) AllReadyH.nil)
            · go_simp
              refine (refAt_any wk46 Ab cb (pack nb fb) nb i XJ47.out.2.2.2.2.1 (by rw [pack_len]; omega) (by omega)).mono ?_
              rintro e wj51 ⟨rfl, hb⟩
              rw [bt_pack hlt]
              have XJ50 : Hid (Bx wj51 g16 Ad cd (pack (na + i) (cat na fa fb)) ((na : Int) + (i : Nat)) ∧ Bx wj51 g8 A11 c11 (pack (na + nb) (cat na fa fb)) ((na : Int) + nb) ∧ Row wj51 g4 49 (c6 Aa ca (pack na fa) na Ab cb (pack nb fb) nb Ac cc (pack nc fc) nc) ∧ Bys wj51 Aa ca (pack na fa) ∧ Bys wj51 Ab cb (pack nb fb) ∧ Bys wj51 Ac cc (pack nc fc) ∧ Below w.heap.size w wj51) := Lib.hid ⟨XJ47.out.1.under hb, XJ47.out.2.1.under hb, XJ47.out.2.2.1.under hb, XJ47.out.2.2.2.1.under hb, XJ47.out.2.2.2.2.1.under hb, XJ47.out.2.2.2.2.2.1.under hb, XJ47.out.2.2.2.2.2.2.trans (hb.mono XJ47.out.2.2.2.2.2.2.size)⟩
              have ZR53 := Lib.hid (ZR48.out.under hb)
              clear hb XJ47 ZR48
              go_wp2_with fail
              refine hK.out _ _ ⟨row2 XJ50.out.1.1, (row6 XJ50.out.2.2.1).2.2.1, (row6 XJ50.out.2.2.1).2.2.2.1⟩ (fun hHeld52 => ?_)
              clear hK Kx hHeld42
              try simp only [Act.put, List.setIfInBounds_toArray, List.set_cons_zero, List.set_cons_succ]
              refine wpAnyH_ready (rs := [5]) (by kernel_rfl) (by simp) ?_
              refine (AllReadyH.cons (o := ⟨some 106, _, _, _, _, none⟩) rfl (fun Kx hK => ?_) AllReadyH.nil)
              · go_simp
                refine (append_any wj51 Ad cd _ _ _ 1 XJ50.out.1.2 (by omega) (by omega)).mono ?_
                rw [app_cat hlt h9]
                rintro e wj55 ⟨Av57, cv58, rfl, hP, hb⟩
                have XJ54 : Hid (Bx wj55 g16 Ad cd (pack (na + i) (cat na fa fb)) ((na : Int) + (i : Nat)) ∧ Bx wj55 g8 A11 c11 (pack (na + nb) (cat na fa fb)) ((na : Int) + nb) ∧ Row wj55 g4 49 (c6 Aa ca (pack na fa) na Ab cb (pack nb fb) nb Ac cc (pack nc fc) nc) ∧ Bys wj55 Aa ca (pack na fa) ∧ Bys wj55 Ab cb (pack nb fb) ∧ Bys wj55 Ac cc (pack nc fc) ∧ Below w.heap.size w wj55) := Lib.hid ⟨XJ50.out.1.under hb, XJ50.out.2.1.under hb, XJ50.out.2.2.1.under hb, XJ50.out.2.2.2.1.under hb, XJ50.out.2.2.2.2.1.under hb, XJ50.out.2.2.2.2.2.1.under hb, XJ50.out.2.2.2.2.2.2.trans (hb.mono XJ50.out.2.2.2.2.2.2.size)⟩
                have HP59 := Lib.hid hP
                have ZR60 := Lib.hid (ZR53.out.under hb)
                clear hb hP XJ50 ZR53
                go_wp2_with fail
                refine hK.out _ _ ⟨row2 XJ54.out.1.1, (row6 XJ54.out.2.2.1).2.2.1, (row6 XJ54.out.2.2.1).2.2.2.1⟩ (fun hHeld56 => ?_)
                clear hK Kx hHeld52
                try simp only [Act.put, List.setIfInBounds_toArray, List.set_cons_zero, List.set_cons_succ]
                have hHeld := hHeld56
                clear hHeld56
                refine wpAnyH_take (i := 6) (oi := ⟨some 100, _, _, _, _, none⟩) (v := ?_) rfl (by kernel_rfl) (by kernel_rfl) (by kernel_rfl) (fun _ _ _ h => h) (Or.inl ⟨by rfl, ?_⟩) (by assumption) ?_
                case refine_2 => (intro wx hSx; (try dsimp only at hSx); go_simp; first | done | with_reducible rfl)
                try simp only [Act.put, List.setIfInBounds_toArray, List.set_cons_zero, List.set_cons_succ]
                refine wpAnyH_take (i := 7) (oi := ⟨some 107, _, _, _, _, none⟩) (v := ?_) rfl (by kernel_rfl) (by kernel_rfl) (by kernel_rfl) (fun _ _ _ h => h) (Or.inl ⟨by rfl, ?_⟩) (by assumption) ?_
                case refine_2 => (intro wx hSx; (try dsimp only at hSx); go_simp; first | done | with_reducible rfl)
                try simp only [Act.put, List.setIfInBounds_toArray, List.set_cons_zero, List.set_cons_succ]
                refine wpAnyH_take (i := 8) (oi := ⟨some 108, _, _, _, _, none⟩) (v := ?_) rfl (by kernel_rfl) (by kernel_rfl) (by kernel_rfl) (fun _ _ _ h => h) (Or.inl ⟨by rfl, ?_⟩) (by assumption) ?_
                case refine_2 => (intro wx hSx; (try dsimp only at hSx); go_simp; first | done | with_reducible rfl)
                try simp only [Act.put, List.setIfInBounds_toArray, List.set_cons_zero, List.set_cons_succ]
                refine wpAnyH_ready (rs := [10]) (by kernel_rfl) (by simp) ?_
                refine AllReadyH.cons rfl (fun Kx hK => ?_) AllReadyH.nil
                obtain ⟨y0, y1⟩ := row2 ZR60.out
                have f0 := ZR60.out.thaw 0
                have f1 := ZR60.out.thaw 1
                go_simp
                have XV61 : Hid (Bx (wr2 wj55 gz43 Av57 (pack (na + (i + 1)) (cat na fa fb)).length cv58 ((na : Int) + i + 1)) gz43 Av57 cv58 (pack (na + (i + 1)) (cat na fa fb)) ((na : Int) + i + 1) ∧ Bx (wr2 wj55 gz43 Av57 (pack (na + (i + 1)) (cat na fa fb)).length cv58 ((na : Int) + i + 1)) g16 Ad cd (pack (na + i) (cat na fa fb)) ((na : Int) + (i : Nat)) ∧ Bx (wr2 wj55 gz43 Av57 (pack (na + (i + 1)) (cat na fa fb)).length cv58 ((na : Int) + i + 1)) g8 A11 c11 (pack (na + nb) (cat na fa fb)) ((na : Int) + nb) ∧ Row (wr2 wj55 gz43 Av57 (pack (na + (i + 1)) (cat na fa fb)).length cv58 ((na : Int) + i + 1)) g4 49 (c6 Aa ca (pack na fa) na Ab cb (pack nb fb) nb Ac cc (pack nc fc) nc) ∧ Bys (wr2 wj55 gz43 Av57 (pack (na + (i + 1)) (cat na fa fb)).length cv58 ((na : Int) + i + 1)) Aa ca (pack na fa) ∧ Bys (wr2 wj55 gz43 Av57 (pack (na + (i + 1)) (cat na fa fb)).length cv58 ((na : Int) + i + 1)) Ab cb (pack nb fb) ∧ Bys (wr2 wj55 gz43 Av57 (pack (na + (i + 1)) (cat na fa fb)).length cv58 ((na : Int) + i + 1)) Ac cc (pack nc fc) ∧ Below w.heap.size w (wr2 wj55 gz43 Av57 (pack (na + (i + 1)) (cat na fa fb)).length cv58 ((na : Int) + i + 1))) := Lib.hid ⟨Bx.wrote HP59.out ZR60.out, XJ54.out.1.set2 GZ45.out.1 ZR60.out, XJ54.out.2.1.set2 GZ45.out.2.1 ZR60.out, XJ54.out.2.2.1.set2 GZ45.out.2.2.1, XJ54.out.2.2.2.1.set2 ZR60.out, XJ54.out.2.2.2.2.1.set2 ZR60.out, XJ54.out.2.2.2.2.2.1.set2 ZR60.out, set2_below XJ54.out.2.2.2.2.2.2 GZ45.out.2.2.2⟩
                clear y0 y1 f0 f1 XJ54
                refine hK.out _ _ ⟨row2 XV61.out.2.1.1, (row6 XV61.out.2.2.2.1).2.2.1, (row6 XV61.out.2.2.2.1).2.2.2.1⟩ (fun hHeld2 => ?_)
                clear hK Kx hHeld
                try simp only [Act.put, List.setIfInBounds_toArray, List.set_cons_zero, List.set_cons_succ]
                refine genH (fun V => Hid (Bx V gz43 Av57 cv58 (pack (na + (i + 1)) (cat na fa fb)) ((na : Int) + i + 1) ∧ Bx V g16 Ad cd (pack (na + i) (cat na fa fb)) ((na : Int) + (i : Nat)) ∧ Bx V g8 A11 c11 (pack (na + nb) (cat na fa fb)) ((na : Int) + nb) ∧ Row V g4 49 (c6 Aa ca (pack na fa) na Ab cb (pack nb fb) nb Ac cc (pack nc fc) nc) ∧ Bys V Aa ca (pack na fa) ∧ Bys V Ab cb (pack nb fb) ∧ Bys V Ac cc (pack nc fc) ∧ Below w.heap.size w V)) XV61 ?_
                clear XV61 hHeld2
                intro VVXV61 XV61
                have hHeld : ((VVXV61.cell? ⟨g16, 0, none⟩ = some (.slice Ad (pack (na + i) (cat na fa fb)).length cd) ∧ VVXV61.cell? ⟨g16, 1, none⟩ = some (.int .i64 ((na : Int) + (i : Nat)))) ∧ (VVXV61.cell? ⟨g4, 2, none⟩ = some (.slice Ab (pack nb fb).length cb) ∧ VVXV61.cell? ⟨g4, 3, none⟩ = some (.int .i64 nb))) := ⟨row2 XV61.out.2.1.1, (row6 XV61.out.2.2.2.1).2.2.1, (row6 XV61.out.2.2.2.1).2.2.2.1⟩
                refine wpAnyH_take (i := 11) (oi := ⟨some 19, _, _, _, _, none⟩) (v := ?_) rfl (by kernel_rfl) (by kernel_rfl) (by kernel_rfl) (fun _ _ _ h => h) (Or.inl ⟨by rfl, ?_⟩) (by assumption) ?_
                case refine_2 => (intro wx hSx; (try dsimp only at hSx); go_simp; first | done | with_reducible rfl)
                try simp only [Act.put, List.setIfInBounds_toArray, List.set_cons_zero, List.set_cons_succ]
                refine wpAnyH_done (by kernel_rfl) ?_ _
                clear hHeld
                obtain ⟨y0, y1⟩ := row2 XV61.out.1.1
                obtain ⟨z0, z1⟩ := row2 XV61.out.2.1.1
                have f0 := XV61.out.2.1.1.thaw 0
                have f1 := XV61.out.2.1.1.thaw 1
                go_wp2_with fail
                go_roundw
                case rel => exact ⟨i + 1, by omega, by go_num, Av57, cv58, Lib.hid ⟨by rw [show (na : Int) + ((i + 1 : Nat) : Int) = (na : Int) + i + 1 by omega]; exact Bx.wrote XV61.out.1.2 XV61.out.2.1.1, XV61.out.2.2.1.set2 G16.out.1 XV61.out.2.1.1, XV61.out.2.2.2.1.set2 G16.out.2.1, XV61.out.2.2.2.2.1.set2 XV61.out.2.1.1, XV61.out.2.2.2.2.2.1.set2 XV61.out.2.1.1, XV61.out.2.2.2.2.2.2.1.set2 XV61.out.2.1.1, set2_below XV61.out.2.2.2.2.2.2.2 G16.out.2.2⟩⟩
                case measure => simp [intOf]; omega
        · have i1 : ¬ (i : Int) < (nb : Int) := by omega
          obtain rfl : i = nb := by omega
          obtain ⟨p0, p1⟩ := row2 M.out.1.1
          obtain ⟨q0, q1, q2, q3, q4, q5⟩ := row6 M.out.2.2.1
          obtain ⟨z0, z1⟩ := row2 M.out.2.1.1
          clear hlt
          go_wp2_with fail
          refine (refSame_yes wr Ad A11 cd c11 _ _ M.out.1.2 M.out.2.1.2).mono ?_
          rintro e w30 ⟨rfl, hb⟩
          have B30 := Lib.hid (M.out.2.2.2.2.2.2.trans (hb.mono M.out.2.2.2.2.2.2.size))
          clear hb M p0 p1 q0 q1 q2 q3 q4 q5 z0 z1
          go_wp2_with fail
          refine (awake_any w30).mono ?_
          rintro e w31 ⟨rfl, hb⟩
          have B31 := Lib.hid (B30.out.trans (hb.mono B30.out.size))
          clear hb
          go_wp2_with fail
          go_ret
          exact ⟨rfl, B31.out⟩
end Go.Proofs.Ytjabnicflpeopaa
