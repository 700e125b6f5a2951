/- BitsPads: the walk. -/
import Derived.Test.YtjabnicflpeopaaLst
import Derived.Test.YtjabnicflpeopaaLimLaw
namespace Go.Proofs.Ytjabnicflpeopaa
open Go.RowKit

theorem pad_pack {n : Nat} (f : Nat → Bool) (hn : n ≤ 40000) : padA (pack n f) n = ⟨pack n f, ((pack n f).length : Int) * 8, 0⟩ := pad_is (vb_pack n f hn) (pack_pk n f).byte
theorem pk_pad (n : Nat) (f : Nat → Bool) : Pk (pack n f) (8 * (pack n f).length) (bt (pack n f)) := ⟨by omega, (pack_pk n f).byte, fun i => by
  by_cases hi : i < 8 * (pack n f).length
  · simp [hi]
  · simp [hi, bt_ge (by omega : 8 * (pack n f).length ≤ i)]⟩
theorem vb_pad (n : Nat) (f : Nat → Bool) (hn : n ≤ 39000) : vb (pack n f) (((pack n f).length : Int) * 8) = true := by
  have h := vb_yes ((pk_pad n f).vd (by rw [pack_len]; omega))
  rw [show ((8 * (pack n f).length : Nat) : Int) = ((pack n f).length : Int) * 8 by omega] at h
  exact h
theorem pad_pad {n : Nat} (f : Nat → Bool) (hn : n ≤ 39000) : padA (pack n f) (((pack n f).length : Int) * 8) = ⟨pack n f, ((pack n f).length : Int) * 8, 0⟩ := by
  unfold padA
  rw [if_neg (by rw [vb_pad n f hn]; simp), pack_whole (pack_pk n f).byte]
set_option maxHeartbeats 4000000 in
set_option maxRecDepth 100000 in
theorem bitsPads_any (v : Value) (w : World) (hv : ListIn w v) :
    Calls Try.prog 7 #[v] w fun e w' => e = .returned (.bool true) ∧ Below w.heap.size w w' := by
  go_enter Try.func7, Try.ntmps7
  go_wp2_with fail
  refine (new_any _ _ hv).mono ?_
  rintro e w1 ⟨rfl, hs, hb0⟩
  clear hb0
  go_wp2_with fail
  refine (n_any w w.heap.size _ 50 hs (by decide) (by decide)).mono ?_
  rintro e Y0 ⟨k0, ⟨k1, k2⟩, rfl, hs0, hg0⟩
  clear hs hg0
  obtain ⟨n0, rfl⟩ := Int.eq_ofNat_of_zero_le k1
  have L0 : Hid (Lst w w.heap.size Y0 (.slice none 0 0) [] Y0) := Lib.hid (Lst.start hs0)
  clear hs0
  have n1 : n0 < 50 := by omega
  clear k1 k2
  go_wp2_with fail
  go_loopw [4, 5] (fun v t Y => ∃ (X : List Int) (j : Nat), t = .int .i64 j ∧ j + X.length ≤ 50 ∧ Hid (Lst w w.heap.size Y0 v X Y)) (fun _ t _ => (intOf t).toNat)
  case atStart => exact ⟨[], n0, rfl, by simp; omega, L0⟩
  case round =>
    clear L0
    obtain ⟨X, j, rfl, hj, M⟩ := hrel
    by_cases hlt : 0 < j
    · have j1 : (0 : Int) < (j : Int) := by omega
      go_wp2_with fail
      refine (n_any w w.heap.size _ 2 M.out.src (by decide) (by decide)).mono ?_
      rintro e w2 ⟨x, hx, rfl, hs2, hg2⟩
      have M2 := Lib.hid (M.out.read hs2 hg2)
      have S3 := Lib.hid (M2.out.alloc (.cells #[.int .i64 x] 3))
      have HX := Lib.hid hx
      clear hs2 hg2 M hx
      go_wp2_with (at_builtin; refine wpList_append_lies _ rfl (.tmp 21) (.tmp 24) 25 rfl Y0.heap.size 3 Try.t3 _ 1 8 Try.underlying25 intI intZ intS intB rfl (by decide) «u4» X.length (ic X) rfl S3.out.own ⟨w2.heap.size, 0, none⟩ 1 1 [.int .i64 x] rfl rfl (World.news_of_block (cs := #[.int .i64 x]) (t := 3) (fr := (0, 0)) (heap_alloc_new w2 _)) (by simp [Value.oneCell']) (by omega) (by unfold maxLen; omega) (by omega) S3.out.gro.size (w2.heap.size + 1) (by simp) ?_; intro g' cap' w4 hown4 hgrow4 hat4 hlt4; have S4 := Lib.hid (S3.out.more HX.out hown4 hgrow4); clear hown4 hgrow4 hat4 hlt4)
      go_roundw
      case rel => exact ⟨X ++ [x], j - 1, by go_num, by rw [List.length_append, List.length_singleton]; omega, S4⟩
      case measure => simp [intOf]; omega
    · have j1 : ¬ (0 : Int) < (j : Int) := by omega
      have hXl : X.length ≤ 50 := by omega
      have hBits := Lib.hid M.out.bits
      obtain ⟨A, c, e, HI⟩ := OwnI.ins M.out.own
      subst e
      have X0 : Hid (Ins wr A c X ∧ Below w.heap.size w wr) := Lib.hid ⟨HI, M.out.src.below⟩
      clear HI M hlt
      go_wp2_with fail
      refine (refOf_any wr A c X X0.out.1 (by omega)).mono ?_
      rintro e w1 ⟨A1, c1, rfl, HP, hb⟩
      have X1 : Hid (Bx (w1.alloc (.cells #[.slice A1 (pack X.length (isb X)).length c1, .int .i64 (X.length)] 24)) w1.heap.size A1 c1 (pack X.length (isb X)) (X.length) ∧ Ins (w1.alloc (.cells #[.slice A1 (pack X.length (isb X)).length c1, .int .i64 (X.length)] 24)) A c X ∧ Below w.heap.size w (w1.alloc (.cells #[.slice A1 (pack X.length (isb X)).length c1, .int .i64 (X.length)] 24))) := Lib.hid ⟨Bx.new HP, (X0.out.1.under hb).under ((Below.refl _ _).alloc (Nat.le_refl _) _), alloc_below (X0.out.2.trans (hb.mono (X0.out.2.size))) (Nat.le_refl _) _⟩
      clear HP hb X0 
      go_upto_region 8 with fail
      refine forget (fun Y => Hid (Bx Y w1.heap.size A1 c1 (pack X.length (isb X)) (X.length) ∧ Ins Y A c X ∧ Below w.heap.size w Y)) X1 ?_
      clear X1
      generalize w1.heap.size = g6
      intro Y1 X1
      obtain ⟨p0_0, p0_1⟩ := row2 X1.out.1.1
      go_wp2_with fail
      refine (pad_any Y1 A1 c1 _ X.length X1.out.1.2 (by omega) (by omega)).mono ?_
      rw [pad_pack (isb X) (by omega)]
      rintro e w2 ⟨A2, c2, rfl, HP, hb⟩
      have X2 : Hid (Bx (w2.alloc (.cells #[.slice A2 (pack X.length (isb X)).length c2, .int .i64 (((pack X.length (isb X)).length : Int) * 8)] 24)) w2.heap.size A2 c2 (pack X.length (isb X)) (((pack X.length (isb X)).length : Int) * 8) ∧ Bx (w2.alloc (.cells #[.slice A2 (pack X.length (isb X)).length c2, .int .i64 (((pack X.length (isb X)).length : Int) * 8)] 24)) g6 A1 c1 (pack X.length (isb X)) (X.length) ∧ Ins (w2.alloc (.cells #[.slice A2 (pack X.length (isb X)).length c2, .int .i64 (((pack X.length (isb X)).length : Int) * 8)] 24)) A c X ∧ Below w.heap.size w (w2.alloc (.cells #[.slice A2 (pack X.length (isb X)).length c2, .int .i64 (((pack X.length (isb X)).length : Int) * 8)] 24))) := Lib.hid ⟨Bx.new HP, (X1.out.1.under hb).alloc _, (X1.out.2.1.under hb).under ((Below.refl _ _).alloc (Nat.le_refl _) _), alloc_below (X1.out.2.2.trans (hb.mono (X1.out.2.2.size))) (Nat.le_refl _) _⟩
      clear HP hb X1 p0_0 p0_1
      go_upto_region 9 with fail
      refine forget (fun Y => Hid (Bx Y w2.heap.size A2 c2 (pack X.length (isb X)) (((pack X.length (isb X)).length : Int) * 8) ∧ Bx Y g6 A1 c1 (pack X.length (isb X)) (X.length) ∧ Ins Y A c X ∧ Below w.heap.size w Y)) X2 ?_
      clear X2
      generalize w2.heap.size = g7
      intro Y2 X2
      obtain ⟨p0_0, p0_1⟩ := row2 X2.out.1.1
      go_wp2_with fail
      refine (pad_any Y2 A2 c2 _ _ X2.out.1.2 (by omega) (by rw [pack_len]; omega)).mono ?_
      rw [pad_pad (isb X) (by omega)]
      rintro e w3 ⟨A3, c3, rfl, HP, hb⟩
      have X3 : Hid (Bx (w3.alloc (.cells #[.slice A3 (pack X.length (isb X)).length c3, .int .i64 (((pack X.length (isb X)).length : Int) * 8)] 24)) w3.heap.size A3 c3 (pack X.length (isb X)) (((pack X.length (isb X)).length : Int) * 8) ∧ Bx (w3.alloc (.cells #[.slice A3 (pack X.length (isb X)).length c3, .int .i64 (((pack X.length (isb X)).length : Int) * 8)] 24)) g7 A2 c2 (pack X.length (isb X)) (((pack X.length (isb X)).length : Int) * 8) ∧ Bx (w3.alloc (.cells #[.slice A3 (pack X.length (isb X)).length c3, .int .i64 (((pack X.length (isb X)).length : Int) * 8)] 24)) g6 A1 c1 (pack X.length (isb X)) (X.length) ∧ Ins (w3.alloc (.cells #[.slice A3 (pack X.length (isb X)).length c3, .int .i64 (((pack X.length (isb X)).length : Int) * 8)] 24)) A c X ∧ Below w.heap.size w (w3.alloc (.cells #[.slice A3 (pack X.length (isb X)).length c3, .int .i64 (((pack X.length (isb X)).length : Int) * 8)] 24))) := Lib.hid ⟨Bx.new HP, (X2.out.1.under hb).alloc _, (X2.out.2.1.under hb).alloc _, (X2.out.2.2.1.under hb).under ((Below.refl _ _).alloc (Nat.le_refl _) _), alloc_below (X2.out.2.2.2.trans (hb.mono (X2.out.2.2.2.size))) (Nat.le_refl _) _⟩
      clear HP hb X2 p0_0 p0_1
      go_upto_region 10 with fail
      refine forget (fun Y => Hid (Bx Y w3.heap.size A3 c3 (pack X.length (isb X)) (((pack X.length (isb X)).length : Int) * 8) ∧ Bx Y g7 A2 c2 (pack X.length (isb X)) (((pack X.length (isb X)).length : Int) * 8) ∧ Bx Y g6 A1 c1 (pack X.length (isb X)) (X.length) ∧ Ins Y A c X ∧ Below w.heap.size w Y)) X3 ?_
      clear X3
      generalize w3.heap.size = g9
      intro Y3 X3
      obtain ⟨p0_0, p0_1⟩ := row2 X3.out.2.2.1.1
      obtain ⟨p1_0, p1_1⟩ := row2 X3.out.2.1.1
      obtain ⟨p2_0, p2_1⟩ := row2 X3.out.1.1
      have HPl : Hid ((pack X.length (isb X)).length = (X.length + 7) / 8) := Lib.hid (pack_len _ _)
      have HVd : Hid (vb (pack X.length (isb X)) (((pack X.length (isb X)).length : Int) * 8) = true) := Lib.hid (vb_pad _ _ (by omega))
      have HBt : Hid (∀ i, bt (pack X.length (isb X)) i = (decide (i < X.length) && isb X i)) := Lib.hid (pack_pk _ _).bit
      generalize pack X.length (isb X) = P at *
      have t1 : (0 : Int) ≤ (P.length : Int) := by omega
      have t2 : (P.length : Int) ≤ 10 := by have := HPl.out; omega
      have t3 : ((P.length : Int) * 8 % 8 == 0) = true := by rw [beq_iff_eq]; omega
      have t4 : ((P.length : Int) * 8 % 8 != 0) = false := by rw [bne_eq_false_iff_eq]; omega
      have t5 : ¬ (P.length : Int) * 8 < (X.length : Int) := by have := HPl.out; omega
      have t6 : ¬ (X.length : Int) + 8 ≤ (P.length : Int) * 8 := by have := HPl.out; omega
      go_wp2_with fail
      refine (refValid_any Y3 A2 c2 P _ X3.out.2.1.2 (by omega) (by omega)).mono ?_
      rw [HVd.out]
      rintro e w4 ⟨rfl, hb⟩
      have X4 : Hid (Bx w4 g9 A3 c3 (P) ((P.length : Int) * 8) ∧ Bx w4 g7 A2 c2 (P) ((P.length : Int) * 8) ∧ Bx w4 g6 A1 c1 (P) (X.length) ∧ Ins w4 A c X ∧ Below w.heap.size w w4) := Lib.hid ⟨X3.out.1.under hb, X3.out.2.1.under hb, X3.out.2.2.1.under hb, X3.out.2.2.2.1.under hb, X3.out.2.2.2.2.trans (hb.mono X3.out.2.2.2.2.size)⟩
      clear hb X3 p0_0 p0_1 p1_0 p1_1 p2_0 p2_1
      obtain ⟨p0_0, p0_1⟩ := row2 X4.out.2.2.1.1
      obtain ⟨p1_0, p1_1⟩ := row2 X4.out.2.1.1
      obtain ⟨p2_0, p2_1⟩ := row2 X4.out.1.1
      go_wp2_with fail
      refine (refSame_yes w4 A2 A3 c2 c3 P _ X4.out.2.1.2 X4.out.1.2).mono ?_
      rintro e w5 ⟨rfl, hb⟩
      have X5 : Hid (Bx w5 g9 A3 c3 (P) ((P.length : Int) * 8) ∧ Bx w5 g7 A2 c2 (P) ((P.length : Int) * 8) ∧ Bx w5 g6 A1 c1 (P) (X.length) ∧ Ins w5 A c X ∧ Below w.heap.size w w5) := Lib.hid ⟨X4.out.1.under hb, X4.out.2.1.under hb, X4.out.2.2.1.under hb, X4.out.2.2.2.1.under hb, X4.out.2.2.2.2.trans (hb.mono X4.out.2.2.2.2.size)⟩
      clear hb X4 p0_0 p0_1 p1_0 p1_1 p2_0 p2_1 t3 t4 t5 t6
      go_wp2_with fail
      go_loopw [11] (fun t Y => ∃ i : Nat, i ≤ P.length * 8 ∧ t = .int .i64 i ∧ Hid (Bx Y g9 A3 c3 (P) ((P.length : Int) * 8) ∧ Bx Y g7 A2 c2 (P) ((P.length : Int) * 8) ∧ Bx Y g6 A1 c1 (P) (X.length) ∧ Ins Y A c X ∧ Below w.heap.size w Y)) (fun t _ => P.length * 8 - (intOf t).toNat)
      case atStart => exact ⟨0, Nat.zero_le _, rfl, X5⟩
      case round =>
        clear X5
        obtain ⟨i, hi, rfl, M⟩ := hrel
        have i0 : (0 : Int) ≤ (i : Int) := by omega
        have i9 : (i : Int) ≤ 80 := by omega
        obtain ⟨p0_0, p0_1⟩ := row2 M.out.2.2.1.1
        obtain ⟨p1_0, p1_1⟩ := row2 M.out.2.1.1
        by_cases hlt : i < P.length * 8
        · have i1 : (i : Int) < (P.length : Int) * 8 := by omega
          by_cases hin : i < X.length
          · have i2 : (i : Int) < (X.length : Int) := by omega
            obtain ⟨bk, off, rfl, hblt, hc⟩ := M.out.2.2.2.1.2.2.2 i hin
            have HV : Hid (((bt P i).toNat : Int) = X[i]) := Lib.hid (by rw [HBt.out i, decide_eq_true hin, Bool.true_and]; exact isb_num hBits.out hin)
            have HC := Lib.hid (refAt_any wr A2 c2 P ((P.length : Int) * 8) i M.out.2.1.2 (by omega) (by omega))
            rw [HV.out] at HC
            have hlc := M.out.2.2.2.1.1
            have hlc2 := M.out.2.2.2.1.2.1
            generalize X[i] = y at hc HC
            clear HV
            go_wp2_with fail
            refine HC.out.mono ?_
            rintro e w6 ⟨rfl, hb⟩
            have X6 : Hid (Bx w6 g9 A3 c3 (P) ((P.length : Int) * 8) ∧ Bx w6 g7 A2 c2 (P) ((P.length : Int) * 8) ∧ Bx w6 g6 A1 c1 (P) (X.length) ∧ Ins w6 (some ⟨bk, off, none⟩) c X ∧ Below w.heap.size w w6) := Lib.hid ⟨M.out.1.under hb, M.out.2.1.under hb, M.out.2.2.1.under hb, M.out.2.2.2.1.under hb, M.out.2.2.2.2.trans (hb.mono M.out.2.2.2.2.size)⟩
            clear hb M p0_0 p0_1 p1_0 p1_1 HC
            go_wp2_with fail
            go_roundw
            case rel => exact ⟨i + 1, by omega, by go_num, X6⟩
            case measure => simp [intOf]; omega
          · have i2 : ¬ (i : Int) < (X.length : Int) := by omega
            have HV : Hid (((bt P i).toNat : Int) = 0) := Lib.hid (by rw [HBt.out i, decide_eq_false hin]; rfl)
            have HC := Lib.hid (refAt_any wr A2 c2 P ((P.length : Int) * 8) i M.out.2.1.2 (by omega) (by omega))
            rw [HV.out] at HC
            clear HV
            go_wp2_with fail
            refine HC.out.mono ?_
            rintro e w6 ⟨rfl, hb⟩
            have X6 : Hid (Bx w6 g9 A3 c3 (P) ((P.length : Int) * 8) ∧ Bx w6 g7 A2 c2 (P) ((P.length : Int) * 8) ∧ Bx w6 g6 A1 c1 (P) (X.length) ∧ Ins w6 A c X ∧ Below w.heap.size w w6) := Lib.hid ⟨M.out.1.under hb, M.out.2.1.under hb, M.out.2.2.1.under hb, M.out.2.2.2.1.under hb, M.out.2.2.2.2.trans (hb.mono M.out.2.2.2.2.size)⟩
            clear hb M p0_0 p0_1 p1_0 p1_1 HC
            go_wp2_with fail
            go_roundw
            case rel => exact ⟨i + 1, by omega, by go_num, X6⟩
            case measure => simp [intOf]; omega
        · have i1 : ¬ (i : Int) < (P.length : Int) * 8 := by omega
          go_wp2_with fail
          refine (awake_any wr).mono ?_
          rintro e w6 ⟨rfl, hb⟩
          have B6 := Lib.hid (M.out.2.2.2.2.trans (hb.mono M.out.2.2.2.2.size))
          clear hb M p0_0 p0_1 p1_0 p1_1
          go_wp2_with fail
          go_ret
          exact ⟨rfl, B6.out⟩
end Go.Proofs.Ytjabnicflpeopaa
