/- BitsBack: the walk. -/
import Derived.Test.YtjabnicflpeopaaBck
namespace Go.Proofs.Ytjabnicflpeopaa
open Go.RowKit

set_option maxHeartbeats 8000000 in
set_option maxRecDepth 100000 in
theorem bitsBack_any (v : Value) (w : World) (hv : ListIn w v) :
    Calls Try.prog 4 #[v] w fun e w' => e = .returned (.bool true) ∧ Below w.heap.size w w' := by
  go_enter Try.func4, Try.ntmps4
  go_wp2_with fail
  refine (new_any _ _ hv).mono ?_
  rintro e w1 ⟨rfl, hs, hb0⟩
  clear hb0
  have T0 : Hid (Src w w.heap.size (w1.alloc (.cells #[.slice none 0 0, .int .i64 0] 24)) ∧ Bx (w1.alloc (.cells #[.slice none 0 0, .int .i64 0] 24)) w1.heap.size none 0 (pack 0 (fun _ => false)) ((0 : Nat) : Int)) := Lib.hid ⟨hs.under ((Below.refl _ _).alloc (Nat.le_refl _) _), Bx.new (n := 0) (L := []) (Bys.none w1)⟩
  have G0 : Hid (w1.heap.size ≠ w.heap.size ∧ w.heap.size ≤ w1.heap.size) := Lib.hid (by have := hs.lt; omega)
  clear hs
  go_upto_region 3 with fail
  refine forget (fun Y => Hid (Src w w.heap.size Y ∧ Bx Y w1.heap.size none 0 (pack 0 (fun _ => false)) ((0 : Nat) : Int))) T0 ?_
  clear T0
  generalize w1.heap.size = g4 at G0 ⊢
  intro Y T0
  go_wp2_with fail
  refine (range_any w w.heap.size _ 1 40 T0.out.1 (by decide) (by decide) (by decide) (by decide)).mono ?_
  rintro e Y0 ⟨k0, ⟨k1, k2⟩, rfl, hs0, hg0⟩
  have G4 : Hid (g4 < Y0.heap.size ∧ w.heap.size < Y0.heap.size ∧ g4 ≠ w.heap.size ∧ w.heap.size ≤ g4) := Lib.hid ⟨Nat.lt_of_lt_of_le T0.out.2.1.lt hg0.size, hs0.lt, G0.out.1, G0.out.2⟩
  have M0 : Hid (Bk w Y0.heap.size g4 (.slice none 0 0) (.slice none 0 0) (.slice none 0 0) [] [] [] none 0 (pack 0 (fun _ => false)) ((0 : Nat) : Int) Y0) := Lib.hid ⟨hs0, Own3.nil _ _, T0.out.2.read G0.out.1 T0.out.1 hg0, apart_none _ _, apart_none _ _, apart_none _ _, Nat.le_refl _⟩
  obtain ⟨n0, rfl⟩ := Int.eq_ofNat_of_zero_le (by omega : 0 ≤ k0)
  have n1 : n0 ≤ 40 := by omega
  clear k1 k2 hs0 hg0 T0 G0
  generalize Y0.heap.size = B at G4 M0 ⊢
  go_wp2_with fail
  go_loopw [5, 6, 7, 8] (fun u1 u2 u3 t Y => ∃ (T X V : List Int) (n : Nat) (f : Nat → Bool) (A : Option Addr) (c j : Nat), t = .int .i64 j ∧ j + T.length ≤ 40 ∧ n ≤ 24 * T.length ∧ Hid (Bk w B g4 u1 u2 u3 T X V A c (pack n f) n Y) ∧ Hid (Rec T X V n f)) (fun _ _ _ t _ => (intOf t).toNat)
  case atStart => exact ⟨[], [], [], 0, fun _ => false, none, 0, n0, rfl, by simp; omega, by simp, M0, Lib.hid (Rec.nil _)⟩
  case round =>
    clear M0
    obtain ⟨T, X, V, n, f, A, c, j, rfl, hj, hn, M, R⟩ := hrel
    by_cases hlt : 0 < j
    · have j1 : (0 : Int) < (j : Int) := by omega
      go_wp2_with fail
      refine (range_any w w.heap.size _ 1 24 M.out.src (by decide) (by decide) (by decide) (by decide)).mono ?_
      rintro e w2 ⟨k, ⟨ka, kb⟩, rfl, hs2, hg2⟩
      have M2 := Lib.hid (M.out.read hs2 hg2 G4.out.2.1 G4.out.2.2.1)
      clear hs2 hg2 M
      obtain ⟨K, rfl⟩ := Int.eq_ofNat_of_zero_le (by omega : 0 ≤ k)
      have hpow : (2 : Int) ^ K ≤ 16777216 := pow_le24 (by omega)
      have hpow0 : (0 : Int) < 2 ^ K := Int.pow_pos (by decide)
      go_wp2_with fail
      refine (raw_any w w.heap.size _ M2.out.src).mono ?_
      rintro e w3 ⟨y1, hy1, rfl, hs2, hg2⟩
      have M3 := Lib.hid (M2.out.read hs2 hg2 G4.out.2.1 G4.out.2.2.1)
      clear hs2 hg2 M2
      go_wp2_with fail
      refine (raw_any w w.heap.size _ M3.out.src).mono ?_
      rintro e w4 ⟨y2, hy2, rfl, hs2, hg2⟩
      have M4 := Lib.hid (M3.out.read hs2 hg2 G4.out.2.1 G4.out.2.2.1)
      clear hs2 hg2 M3
      go_wp2_with fail
      refine (mod_any _ _ _ (wrap64_I64 _) (by omega) (by omega)).mono ?_
      rintro e w0 ⟨rfl, rfl⟩
      generalize wrap64 (wrap64 (y1 * 31) + y2) = z
      have hm0 : 0 ≤ z % 2 ^ K := Int.emod_nonneg z (by omega)
      have hm1 : z % 2 ^ K < 2 ^ K := Int.emod_lt_of_pos z hpow0
      obtain ⟨N, hV⟩ := Int.eq_ofNat_of_zero_le hm0
      rw [hV] at hm1 ⊢
      have HF : Hid (1 ≤ K ∧ K ≤ 24 ∧ N < 2 ^ K ∧ n + K ≤ 24 * (T.length + 1)) := Lib.hid ⟨by omega, by omega, by
        have : ((N : Nat) : Int) < ((2 ^ K : Nat) : Int) := by rw [Int.natCast_pow]; exact hm1
        exact Int.ofNat_lt.1 this, by omega⟩
      clear hV hm0 hm1 hpow hpow0 hy1 hy2
      have HLn : Hid (T.length ≤ 40 ∧ X.length = T.length ∧ V.length = T.length) := Lib.hid ⟨by omega, R.out.1.symm, R.out.2.1.symm⟩
      have HR := Lib.hid (R.out.more HF.out.1 HF.out.2.1 HF.out.2.2.1)
      obtain ⟨p0, p1⟩ := row2 M4.out.box.1
      have M5 := M4
      clear R M4
      have S1 := Lib.hid (M5.out.under ((Below.refl _ _).alloc (Nat.le_refl _) (.cells #[.int .i64 n] 3)))
      clear M5
      go_upto_region 10 with (first | (at_builtin; refine wpList_append_lies _ rfl (.tmp 36) (.tmp 39) 25 rfl B 3 Try.t3 _ 1 8 Try.underlying25 intI intZ intS intB rfl (by decide) «u5» T.length (ic T) rfl S1.out.own.a ⟨w4.heap.size, 0, none⟩ 1 1 [.int .i64 n] rfl rfl (World.news_of_block (cs := #[.int .i64 n]) (t := 3) (fr := (0, 0)) (heap_alloc_new w4 _)) (by simp [Value.oneCell']) (by omega) (by have := HLn.out; unfold maxLen; omega) (by have := HLn.out; omega) S1.out.size (w4.heap.size + 1) (by simp) ?_; intro g1' cap1' w5 hown4 hgrow4 hat4 hlt4; have N1 := Lib.hid (S1.out.app1 G4.out.2.1 G4.out.1 hown4 hgrow4 (by simp) hat4); clear hown4 hgrow4 hat4 hlt4 S1; have S2 := Lib.hid (N1.out.under ((Below.refl _ _).alloc (Nat.le_refl _) (.cells #[.int .i64 K] 3))); clear N1) | (at_builtin; refine wpList_append_lies _ rfl (.tmp 41) (.tmp 43) 25 rfl B 3 Try.t3 _ 1 8 Try.underlying25 intI intZ intS intB rfl (by decide) «u6» X.length (ic X) rfl S2.out.own.b ⟨w5.heap.size, 0, none⟩ 1 1 [.int .i64 K] rfl rfl (World.news_of_block (cs := #[.int .i64 K]) (t := 3) (fr := (0, 0)) (heap_alloc_new w5 _)) (by simp [Value.oneCell']) (by omega) (by have := HLn.out; unfold maxLen; omega) (by have := HLn.out; omega) S2.out.size (w5.heap.size + 1) (by simp) ?_; intro g2' cap2' w6 hown4 hgrow4 hat4 hlt4; have N2 := Lib.hid (S2.out.app2 G4.out.2.1 G4.out.1 hown4 hgrow4 (by simp) hat4); clear hown4 hgrow4 hat4 hlt4 S2; have S3 := Lib.hid (N2.out.under ((Below.refl _ _).alloc (Nat.le_refl _) (.cells #[.int .i64 N] 3))); clear N2) | (at_builtin; refine wpList_append_lies _ rfl (.tmp 45) (.tmp 47) 25 rfl B 3 Try.t3 _ 1 8 Try.underlying25 intI intZ intS intB rfl (by decide) «u7» V.length (ic V) rfl S3.out.own.c ⟨w6.heap.size, 0, none⟩ 1 1 [.int .i64 N] rfl rfl (World.news_of_block (cs := #[.int .i64 N]) (t := 3) (fr := (0, 0)) (heap_alloc_new w6 _)) (by simp [Value.oneCell']) (by omega) (by have := HLn.out; unfold maxLen; omega) (by have := HLn.out; omega) S3.out.size (w6.heap.size + 1) (by simp) ?_; intro g3' cap3' w7 hown4 hgrow4 hat4 hlt4; have N3 := Lib.hid (S3.out.app3 G4.out.2.1 G4.out.1 hown4 hgrow4 (by simp) hat4); clear hown4 hgrow4 hat4 hlt4 S3))
      clear p0 p1
      obtain ⟨p0, p1⟩ := row2 N3.out.box.1
      go_wp2_with fail
      have HA := Lib.hid (app_pack (n := n) (f := f) HF.out.1 HF.out.2.1 HF.out.2.2.1 (by have := HF.out.2.2.2; have := HLn.out.1; omega))
      have E : Hid (appA (pack n f) n N K = ⟨pack (n + K) (wrt (pack n f) n N K), (n : Int) + K, 0⟩) := Lib.hid (app_yes HA.out.1 HF.out.1 HF.out.2.1 HF.out.2.2.1 (by have := HF.out.2.2.2; have := HLn.out.1; omega))
      refine (append_yesF w7 A c (pack n f) n N K N3.out.box.2 (by omega) (by have := HF.out.2.2.2; have := HLn.out.1; omega) HA.out.1 HA.out.2.1 HA.out.2.2).mono ?_
      rw [E.out]
      rintro e w8 ⟨A8, c8, rfl, hP, hb, hF8⟩
      have HP := Lib.hid (show Bys w8 A8 c8 (pack (n + K) (wrt (pack n f) n N K)) from hP)
      have P1 := Lib.hid (apart_fresh (L := pack (n + K) (wrt (pack n f) n N K)) hF8 N3.out.own.a)
      have P2 := Lib.hid (apart_fresh (L := pack (n + K) (wrt (pack n f) n N K)) hF8 N3.out.own.b)
      have P3 := Lib.hid (apart_fresh (L := pack (n + K) (wrt (pack n f) n N K)) hF8 N3.out.own.c)
      have M8 := Lib.hid (N3.out.under hb)
      have M9 := Lib.hid (M8.out.under ((Below.refl _ _).alloc (Nat.le_refl _) (.cells #[.slice A8 (pack (n + K) (wrt (pack n f) n N K)).length c8, .int .i64 ((n : Int) + K)] 24)))
      have X9 := Lib.hid (Bx.new (n := (n : Int) + K) HP.out)
      have HVd : Hid (vb (pack (n + K) (wrt (pack n f) n N K)) ((n : Int) + K) = true) := Lib.hid (by have := vb_pack (n + K) (wrt (pack n f) n N K) (by have := HF.out.2.2.2; have := HLn.out.1; omega); rwa [Int.natCast_add] at this)
      have HN9 : Hid ((n : Int) + K ≤ 40000) := Lib.hid (by have := HF.out.2.2.2; have := HLn.out.1; omega)
      clear hP hb hF8 HP p0 p1 N3 E HA
      go_upto_region 11 with fail
      refine forget (fun Y => Hid (Bk w B g4 _ _ _ _ _ _ A c (pack n f) n Y) ∧ Hid (Bx Y w8.heap.size A8 c8 (pack (n + K) (wrt (pack n f) n N K)) ((n : Int) + K))) ⟨M9, X9⟩ ?_
      clear M8 M9 X9
      generalize w8.heap.size = g11
      generalize hPP : pack (n + K) (wrt (pack n f) n N K) = P at *
      have HPP := Lib.hid hPP
      clear hPP
      rintro Y9 ⟨M9, X9⟩
      obtain ⟨p0, p1⟩ := row2 M9.out.box.1
      obtain ⟨q0, q1⟩ := row2 X9.out.1
      go_wp2_with fail
      refine (refValid_any Y9 A8 c8 P _ X9.out.2 (by omega) (by have := HN9.out; omega)).mono ?_
      rw [HVd.out]
      rintro e w10 ⟨rfl, hb⟩
      have M10 := Lib.hid (M9.out.under hb)
      have X10 := Lib.hid (X9.out.under hb)
      clear hb M9 X9 p0 p1 q0 q1
      obtain ⟨p0, p1⟩ := row2 M10.out.box.1
      obtain ⟨q0, q1⟩ := row2 X10.out.1
      have f0 := M10.out.box.1.thaw 0
      have f1 := M10.out.box.1.thaw 1
      have M11 := Lib.hid (M10.out.wrote G4.out.1 ⟨G4.out.2.2.2, G4.out.2.2.1⟩ (n' := (n : Int) + K) X10.out.2 P1.out P2.out P3.out)
      go_wp2_with fail
      go_roundw
      case rel => exact ⟨T ++ [(n : Int)], X ++ [(K : Int)], V ++ [(N : Int)], n + K, wrt (pack n f) n N K, A8, c8, j - 1, by go_num, by rw [List.length_append, List.length_singleton]; omega, by rw [List.length_append, List.length_singleton]; exact HF.out.2.2.2, by rw [HPP.out, Int.natCast_add]; exact M11, HR⟩
      case measure => simp [intOf]; omega
    · have j1 : ¬ (0 : Int) < (j : Int) := by omega
      have hT : T.length ≤ 40 := by omega
      have hN : n ≤ 960 := by omega
      obtain ⟨A5, c5, e5, I5⟩ := OwnI.ins M.out.own.a
      obtain ⟨A6, c6, e6, I6⟩ := OwnI.ins M.out.own.b
      obtain ⟨A7, c7, e7, I7⟩ := OwnI.ins M.out.own.c
      subst e5
      subst e6
      subst e7
      have HL : Hid (X.length = T.length ∧ V.length = T.length) := Lib.hid ⟨R.out.1.symm, R.out.2.1.symm⟩
      have X0 : Hid (Bx wr g4 A c (pack n f) n ∧ Ins wr A5 c5 T ∧ Ins wr A6 c6 X ∧ Ins wr A7 c7 V ∧ Below w.heap.size w wr) := Lib.hid ⟨M.out.box, I5, I6, I7, M.out.src.below⟩
      clear I5 I6 I7 M hlt
      rw [HL.out.1, HL.out.2]
      go_wp2_with fail
      go_loopw [13] (fun t Y => ∃ i : Nat, i ≤ T.length ∧ t = .int .i64 i ∧ Hid (Bx Y g4 A c (pack n f) n ∧ Ins Y A5 c5 T ∧ Ins Y A6 c6 X ∧ Ins Y A7 c7 V ∧ Below w.heap.size w Y)) (fun t _ => T.length - (intOf t).toNat)
      case atStart => exact ⟨0, Nat.zero_le _, rfl, X0⟩
      case round =>
        clear X0
        obtain ⟨i, hi, rfl, M⟩ := hrel
        by_cases hlt : i < T.length
        · have i0 : (0 : Int) ≤ (i : Int) := by omega
          have i1 : (i : Int) < (T.length : Int) := by omega
          obtain ⟨b5, o5, rfl, hb5, r5⟩ := M.out.2.1.2.2.2 i hlt
          obtain ⟨b6, o6, rfl, hb6, r6⟩ := M.out.2.2.1.2.2.2 i (by have := HL.out.1; omega)
          obtain ⟨b7, o7, rfl, hb7, r7⟩ := M.out.2.2.2.1.2.2.2 i (by have := HL.out.2; omega)
          obtain ⟨ta, ka, va, a1, a2, a3, a4, a5, a6, a7, a8⟩ := R.out.2.2 i hlt
          rw [List.getElem?_eq_getElem hlt] at a1
          rw [List.getElem?_eq_getElem (by have := HL.out.1; omega)] at a2
          rw [List.getElem?_eq_getElem (by have := HL.out.2; omega)] at a3
          injection a1 with a1
          injection a2 with a2
          injection a3 with a3
          rw [a1] at r5
          rw [a2] at r6
          rw [a3] at r7
          have HRd := Lib.hid (read_rec (f := f) (n := n) (by omega) a4 a5 a6 a7 a8)
          have HB5 := Lib.hid (show b5 < wr.heap.size ∧ b6 < wr.heap.size ∧ b7 < wr.heap.size from ⟨hb5, hb6, hb7⟩)
          have l5 := M.out.2.1.1
          have l5' := M.out.2.1.2.1
          have l6 := M.out.2.2.1.1
          have l6' := M.out.2.2.1.2.1
          have l7 := M.out.2.2.2.1.1
          have l7' := M.out.2.2.2.1.2.1
          rw [HL.out.1] at l6
          rw [HL.out.2] at l7
          have R7 := Lib.hid r7
          have k5 : ta + ka ≤ 960 := by omega
          clear a1 a2 a3 a4 a5 a6 a7 a8 hb5 hb6 hb7 r7
          obtain ⟨p0, p1⟩ := row2 M.out.1.1
          go_upto_region 17 with fail
          refine wp_region_held_drew (S := fun Y : World => (Y.cell? ⟨g4, 0, none⟩ = some (.slice A (pack n f).length c) ∧ Y.cell? ⟨g4, 1, none⟩ = some (.int .i64 n)) ∧ Y.cell? ⟨b5, o5 + i, none⟩ = some (.int .i64 (ta : Int)) ∧ Y.cell? ⟨b6, o6 + i, none⟩ = some (.int .i64 (ka : Int))) (by kernel_rfl) ⟨⟨p0, p1⟩, r5, r6⟩ (fun hHeld => ?_)
          refine wpAnyH_take (i := 0) (oi := ⟨some 80, _, _, _, _, none⟩) (v := ?_) rfl (by kernel_rfl) (by kernel_rfl) (by kernel_rfl) (fun _ _ _ h => h) (Or.inl ⟨by rfl, ?_⟩) (by assumption) ?_
          case refine_2 => (intro wx hSx; (try dsimp only at hSx); go_simp; first | done | with_reducible rfl)
          try simp only [Act.put, List.setIfInBounds_toArray, List.set_cons_zero, List.set_cons_succ]
          refine wpAnyH_take (i := 1) (oi := ⟨some 81, _, _, _, _, none⟩) (v := ?_) rfl (by kernel_rfl) (by kernel_rfl) (by kernel_rfl) (fun _ _ _ h => h) (Or.inl ⟨by rfl, ?_⟩) (by assumption) ?_
          case refine_2 => (intro wx hSx; (try dsimp only at hSx); go_simp; first | done | with_reducible rfl)
          try simp only [Act.put, List.setIfInBounds_toArray, List.set_cons_zero, List.set_cons_succ]
          refine wpAnyH_take (i := 2) (oi := ⟨some 82, _, _, _, _, none⟩) (v := ?_) rfl (by kernel_rfl) (by kernel_rfl) (by kernel_rfl) (fun _ _ _ h => h) (Or.inl ⟨by rfl, ?_⟩) (by assumption) ?_
          case refine_2 => (intro wx hSx; (try dsimp only at hSx); go_simp; first | done | with_reducible rfl)
          try simp only [Act.put, List.setIfInBounds_toArray, List.set_cons_zero, List.set_cons_succ]
          refine wpAnyH_take (i := 3) (oi := ⟨some 83, _, _, _, _, none⟩) (v := ?_) rfl (by kernel_rfl) (by kernel_rfl) (by kernel_rfl) (fun _ _ _ h => h) (Or.inl ⟨by rfl, ?_⟩) (by assumption) ?_
          case refine_2 => (intro wx hSx; (try dsimp only at hSx); go_simp; first | done | with_reducible rfl)
          try simp only [Act.put, List.setIfInBounds_toArray, List.set_cons_zero, List.set_cons_succ]
          refine wpAnyH_take (i := 4) (oi := ⟨some 84, _, _, _, _, none⟩) (v := ?_) rfl (by kernel_rfl) (by kernel_rfl) (by kernel_rfl) (fun _ _ _ h => h) (Or.inl ⟨by rfl, ?_⟩) (by assumption) ?_
          case refine_2 => (intro wx hSx; (try dsimp only at hSx); go_simp; first | done | with_reducible rfl)
          try simp only [Act.put, List.setIfInBounds_toArray, List.set_cons_zero, List.set_cons_succ]
          refine wpAnyH_take (i := 5) (oi := ⟨some 85, _, _, _, _, none⟩) (v := ?_) rfl (by kernel_rfl) (by kernel_rfl) (by kernel_rfl) (fun _ _ _ h => h) (Or.inl ⟨by rfl, ?_⟩) (by assumption) ?_
          case refine_2 => (intro wx hSx; (try dsimp only at hSx); go_simp; first | done | with_reducible rfl)
          try simp only [Act.put, List.setIfInBounds_toArray, List.set_cons_zero, List.set_cons_succ]
          refine wpAnyH_take (i := 6) (oi := ⟨some 86, _, _, _, _, none⟩) (v := ?_) rfl (by kernel_rfl) (by kernel_rfl) (by kernel_rfl) (fun _ _ _ h => h) (Or.inl ⟨by rfl, ?_⟩) (by assumption) ?_
          case refine_2 => (intro wx hSx; (try dsimp only at hSx); go_simp; first | done | with_reducible rfl)
          try simp only [Act.put, List.setIfInBounds_toArray, List.set_cons_zero, List.set_cons_succ]
          refine wpAnyH_take (i := 7) (oi := ⟨some 87, _, _, _, _, none⟩) (v := ?_) rfl (by kernel_rfl) (by kernel_rfl) (by kernel_rfl) (fun _ _ _ h => h) (Or.inl ⟨by rfl, ?_⟩) (by assumption) ?_
          case refine_2 => (intro wx hSx; (try dsimp only at hSx); go_simp; first | done | with_reducible rfl)
          try simp only [Act.put, List.setIfInBounds_toArray, List.set_cons_zero, List.set_cons_succ]
          refine wpAnyH_take (i := 8) (oi := ⟨some 88, _, _, _, _, none⟩) (v := ?_) rfl (by kernel_rfl) (by kernel_rfl) (by kernel_rfl) (fun _ _ _ h => h) (Or.inl ⟨by rfl, ?_⟩) (by assumption) ?_
          case refine_2 => (intro wx hSx; (try dsimp only at hSx); go_simp; first | done | with_reducible rfl)
          try simp only [Act.put, List.setIfInBounds_toArray, List.set_cons_zero, List.set_cons_succ]
          refine wpAnyH_ready (rs := [9]) (by kernel_rfl) (by simp) ?_
          refine AllReadyH.cons (o := ⟨some 89, _, _, _, _, none⟩) rfl (fun Kx hK => ?_) AllReadyH.nil
          go_simp
          have hd : Below wr.heap.size wr wr.drew := below_drewN (Below.refl _ _) 1
          refine (read_any wr.drew A c (pack n f) n ta ka (M.out.1.2.under hd) (by omega) (by omega)).mono ?_
          rw [HRd.out]
          rintro e w12 ⟨rfl, hb⟩
          have hbb : Below wr.heap.size wr w12 := undrew hb
          have M12 : Hid (Bx w12 g4 A c (pack n f) n ∧ Ins w12 (some ⟨b5, o5, none⟩) c5 T ∧ Ins w12 (some ⟨b6, o6, none⟩) c6 X ∧ Ins w12 (some ⟨b7, o7, none⟩) c7 V ∧ Below w.heap.size w w12) := Lib.hid ⟨M.out.1.under hbb, M.out.2.1.under hbb, M.out.2.2.1.under hbb, M.out.2.2.2.1.under hbb, M.out.2.2.2.2.trans (hbb.mono M.out.2.2.2.2.size)⟩
          have c5' : w12.cell? ⟨b5, o5 + i, none⟩ = some (.int .i64 (ta : Int)) := (hbb.cell (p := ⟨b5, o5 + i, none⟩) HB5.out.1).trans r5
          have c6' : w12.cell? ⟨b6, o6 + i, none⟩ = some (.int .i64 (ka : Int)) := (hbb.cell (p := ⟨b6, o6 + i, none⟩) HB5.out.2.1).trans r6
          have c7' := Lib.hid ((hbb.cell (p := ⟨b7, o7 + i, none⟩) HB5.out.2.2).trans R7.out)
          clear hb hbb hd M p0 p1 r5 r6 R7 HB5 hHeld
          go_wp2_with fail
          refine hK.out _ _ ⟨row2 M12.out.1.1, c5', c6'⟩ (fun hHeld => ?_)
          clear hK Kx c5' c6'
          try simp only [Act.put, List.setIfInBounds_toArray, List.set_cons_zero, List.set_cons_succ]
          refine wpAnyH_take (i := 10) (oi := ⟨some 79, _, _, _, _, none⟩) (v := ?_) rfl (by kernel_rfl) (by kernel_rfl) (by kernel_rfl) (fun _ _ _ h => h) (Or.inl ⟨by rfl, ?_⟩) (by assumption) ?_
          case refine_2 => (intro wx hSx; (try dsimp only at hSx); go_simp; first | done | with_reducible rfl)
          try simp only [Act.put, List.setIfInBounds_toArray, List.set_cons_zero, List.set_cons_succ]
          refine wpAnyH_take (i := 11) (oi := ⟨some 90, _, _, _, _, none⟩) (v := ?_) rfl (by kernel_rfl) (by kernel_rfl) (by kernel_rfl) (fun _ _ _ h => h) (Or.inl ⟨by rfl, ?_⟩) (by assumption) ?_
          case refine_2 => (intro wx hSx; (try dsimp only at hSx); go_simp; first | done | with_reducible rfl)
          try simp only [Act.put, List.setIfInBounds_toArray, List.set_cons_zero, List.set_cons_succ]
          refine wpAnyH_take (i := 12) (oi := ⟨some 91, _, _, _, _, none⟩) (v := ?_) rfl (by kernel_rfl) (by kernel_rfl) (by kernel_rfl) (fun _ _ _ h => h) (Or.inl ⟨by rfl, ?_⟩) (by assumption) ?_
          case refine_2 => (intro wx hSx; (try dsimp only at hSx); go_simp; first | done | with_reducible rfl)
          try simp only [Act.put, List.setIfInBounds_toArray, List.set_cons_zero, List.set_cons_succ]
          refine wpAnyH_take (i := 13) (oi := ⟨some 14, _, _, _, _, none⟩) (v := ?_) rfl (by kernel_rfl) (by kernel_rfl) (by kernel_rfl) (fun _ _ _ h => h) (Or.inl ⟨by rfl, ?_⟩) (by assumption) ?_
          case refine_2 => (intro wx hSx; (try dsimp only at hSx); go_simp; first | done | with_reducible rfl)
          try simp only [Act.put, List.setIfInBounds_toArray, List.set_cons_zero, List.set_cons_succ]
          refine wpAnyH_take (i := 14) (oi := ⟨some 15, _, _, _, _, none⟩) (v := ?_) rfl (by kernel_rfl) (by kernel_rfl) (by kernel_rfl) (fun _ _ _ h => h) (Or.inl ⟨by rfl, ?_⟩) (by assumption) ?_
          case refine_2 => (intro wx hSx; (try dsimp only at hSx); go_simp; first | done | with_reducible rfl)
          try simp only [Act.put, List.setIfInBounds_toArray, List.set_cons_zero, List.set_cons_succ]
          refine wpAnyH_done (by kernel_rfl) ?_ _
          clear hHeld
          have r7 : w12.cell? ⟨b7, o7 + i, none⟩ = some (.int .i64 (va : Int)) := c7'.out
          clear c7'
          go_wp2_with fail
          go_roundw
          case rel => exact ⟨i + 1, by omega, by go_num, M12⟩
          case measure => simp [intOf]; omega
        · have i1 : ¬ (i : Int) < (T.length : Int) := by omega
          go_wp2_with fail
          refine (awake_any wr).mono ?_
          rintro e w31 ⟨rfl, hb⟩
          have B31 := Lib.hid (M.out.2.2.2.2.trans (hb.mono M.out.2.2.2.2.size))
          clear hb M
          go_wp2_with fail
          go_ret
          exact ⟨rfl, B31.out⟩
end Go.Proofs.Ytjabnicflpeopaa
