/- BitsLimit: the walk. -/
import Derived.Test.YtjabnicflpeopaaAwk
namespace Go.Proofs.Ytjabnicflpeopaa
open Go.RowKit

theorem vb_zeros (n : Nat) (h : n ≤ 40000) : vb (List.replicate ((n + 7) / 8) 0) n = true := vb_yes ((Pk.zero n).vd h)
theorem bys_zeros (w : World) (k : Nat) (hk : k ≤ 1000000) : Bys (w.alloc (.cells (byc (List.replicate k 0)).toArray 5)) (some ⟨w.heap.size, 0, none⟩) (List.replicate k 0).length (List.replicate k 0) :=
  bys_new w _ (fun x hx => by rw [(List.mem_replicate.1 hx).2]; decide) (by rw [List.length_replicate]; omega)
/-- The bits of a packed list. -/
theorem bt_pack {n i : Nat} {f : Nat → Bool} (h : i < n) : bt (pack n f) i = f i := by rw [(pack_pk n f).bit]; simp [h]
theorem vb_pack (n : Nat) (f : Nat → Bool) (h : n ≤ 40000) : vb (pack n f) n = true := vb_yes ((pack_pk n f).vd h)
theorem app_yes {L : List Nat} {n V K : Nat} (hv : vb L n = true) (h1 : 1 ≤ K) (h2 : K ≤ 24) (hV : V < 2 ^ K) (hl : n + K ≤ 40000) : appA L n V K = ⟨pack (n + K) (wrt L n V K), (n : Int) + K, 0⟩ := by
  have hf : fits (V : Int) (K : Int) = true := (fits_iff _ _).2 ⟨by omega, by omega, by omega, by rw [Int.toNat_natCast]; have := Int.ofNat_lt.2 hV; rwa [Int.natCast_pow] at this⟩
  unfold appA
  rw [if_neg (by simp [hv]), if_neg (by simp [hf]), if_neg (by omega)]
  rfl
theorem app_full {L : List Nat} {n V K : Nat} (hv : vb L n = true) (h1 : 1 ≤ K) (h2 : K ≤ 24) (hV : V < 2 ^ K) (hl : 40000 < n + K) : appA L n V K = noAns 2 := by
  have hf : fits (V : Int) (K : Int) = true := (fits_iff _ _).2 ⟨by omega, by omega, by omega, by rw [Int.toNat_natCast]; have := Int.ofNat_lt.2 hV; rwa [Int.natCast_pow] at this⟩
  unfold appA
  rw [if_neg (by simp [hv]), if_neg (by simp [hf]), if_pos (by omega)]
theorem read_back {L : List Nat} {n V K : Nat} (hv : vb L n = true) (h1 : 1 ≤ K) (h2 : K ≤ 24) (hV : V < 2 ^ K) (hl : n + K ≤ 40000) : readA (pack (n + K) (wrt L n V K)) ((n + K : Nat) : Int) n K = ((V : Int), 0) := by
  have hk : isw (K : Int) = true := by unfold isw; exact decide_eq_true ⟨by omega, by omega⟩
  unfold readA
  rw [if_neg (by rw [vb_pack _ _ hl]; simp), if_neg (by simp [hk]), if_neg (by omega), if_neg (by omega)]
  rw [Int.toNat_natCast, Int.toNat_natCast]
  rw [num_eq hV (fun i hi => by rw [bt_pack (by omega)]; unfold wrt; rw [if_neg (by omega), Nat.add_sub_cancel_left])]
theorem joi_full {L M : List Nat} {n m : Nat} (hv : vb L n = true) (hm : vb M m = true) (hl : 40000 < n + m) : joinA L n M m = noAns 2 := by
  unfold joinA
  rw [if_neg (by simp [hv]), if_neg (by simp [hm]), if_pos (by omega)]
theorem pad_is {L : List Nat} {n : Nat} (hv : vb L n = true) (hb : ∀ x ∈ L, x < 256) : padA L n = ⟨L, (L.length : Int) * 8, 0⟩ := by
  unfold padA
  rw [if_neg (by simp [hv]), pack_whole hb]
theorem app_lim {L : List Nat} {M V K : Nat} (hv : vb L M = true) (h : K ≤ 24 ∧ 1 ≤ K ∧ V < 2 ^ K) (hm : M + K = 40000) : appA L M V K = ⟨pack 40000 (wrt L M V K), 40000, 0⟩ := by
  rw [app_yes hv h.2.1 h.1 h.2.2 (by omega), hm, show (M : Int) + K = 40000 by omega]
theorem app_ful {L : List Nat} {V K : Nat} (hv : vb L ((40000 : Nat) : Int) = true) (h : K ≤ 24 ∧ 1 ≤ K ∧ V < 2 ^ K) : appA L 40000 V K = ⟨[], 0, 2⟩ := app_full (n := 40000) hv h.2.1 h.1 h.2.2 (by omega)
theorem read_lim {L : List Nat} {M V K : Nat} (hv : vb L M = true) (h : K ≤ 24 ∧ 1 ≤ K ∧ V < 2 ^ K) (hm : M + K = 40000) : readA (pack 40000 (wrt L M V K)) 40000 M K = ((V : Int), 0) := by
  have h0 := read_back hv h.2.1 h.1 h.2.2 (by omega)
  rw [hm] at h0
  exact h0
theorem app_bit : appA [] 0 0 1 = ⟨[0], 1, 0⟩ := by
  have hv : vb [] 0 = true := vb_yes ⟨by decide, by decide, by decide, fun i _ => bt_ge (Nat.zero_le _)⟩
  have h0 := app_yes (n := 0) (V := 0) (K := 1) hv (by decide) (by decide) (by decide) (by decide)
  rw [show pack (0 + 1) (wrt [] 0 0 1) = [0] by decide +kernel] at h0
  exact h0
theorem vb_bit : vb [0] ((1 : Nat) : Int) = true := by
  have h := vb_pack 1 (wrt [] 0 0 1) (by decide)
  rwa [show pack 1 (wrt [] 0 0 1) = [0] by decide +kernel] at h
theorem joi_ful {L : List Nat} (hv : vb L ((40000 : Nat) : Int) = true) : joinA L 40000 [0] 1 = ⟨[], 0, 2⟩ := joi_full (n := 40000) (m := 1) hv vb_bit (by omega)
theorem box_zeros (n k : Nat) (h : n ≤ 40000) (hk : k = (n + 7) / 8) : ∃ L : List Nat, L.length = k ∧ vb L n = true ∧ (∀ x ∈ L, x < 256) ∧
    ∀ w : World, Bx ((w.alloc (.cells (byc (List.replicate k 0)).toArray 5)).alloc (.cells #[.slice (some ⟨w.heap.size, 0, none⟩) k k, .int .i64 (n : Int)] 24)) (w.heap.size + 1) (some ⟨w.heap.size, 0, none⟩) k L n := by
  refine ⟨List.replicate k 0, List.length_replicate, by rw [hk]; exact vb_zeros n h, fun x hx => by rw [(List.mem_replicate.1 hx).2]; decide, fun w => ⟨?_, ?_⟩⟩
  · rw [List.length_replicate]
    exact Row.newAt (by simp)
  · have h0 := bys_zeros w k (by omega)
    rw [List.length_replicate] at h0
    exact h0.under ((Below.refl _ _).alloc (Nat.le_refl _) _)
set_option maxHeartbeats 4000000 in
set_option maxRecDepth 100000 in
theorem bitsLimit_any (x y : Int) (w : World) (hx : I64 x) (hy : I64 y) :
    Calls Try.prog 5 #[.int .i64 x, .int .i64 y] w fun e w' => e = .returned (.bool true) ∧ Below w.heap.size w w' := by
  go_enter Try.func5, Try.ntmps5
  go_wp2_with fail
  refine (mod_any _ _ _ hy (by decide) (by decide)).mono ?_
  rintro e w0 ⟨rfl, rfl⟩
  have hm0 : 0 ≤ y % 24 := Int.emod_nonneg y (by decide)
  have hm1 : y % 24 < 24 := Int.emod_lt_of_pos y (by decide)
  obtain ⟨W0, hW⟩ := Int.eq_ofNat_of_zero_le hm0
  rw [hW] at hm1 ⊢
  clear hW hm0
  have hw24 : W0 < 24 := by omega
  have hpow : (2 : Int) ^ (W0 + 1) ≤ 16777216 := pow_le24 (by omega)
  have hpow0 : (0 : Int) < 2 ^ (W0 + 1) := Int.pow_pos (by decide)
  have cw : Hid ((1 : Int) + (W0 : Int) = ((W0 + 1 : Nat) : Int)) := Lib.hid (by omega)
  clear hm1
  go_upto_region 2 with fail
  rw [cw.out]
  clear cw
  have k1 : 1 ≤ W0 + 1 := by omega
  have k2 : W0 + 1 ≤ 24 := by omega
  generalize W0 + 1 = K at *
  clear hw24
  have K1 : (1 : Int) ≤ (K : Int) := by omega
  have K2 : (K : Int) ≤ 24 := by omega
  go_wp2_with fail
  refine (mod_any _ _ _ hx (by omega) (by omega)).mono ?_
  rintro e w0 ⟨rfl, rfl⟩
  have hm0 : 0 ≤ x % 2 ^ K := Int.emod_nonneg x (by omega)
  have hm1 : x % 2 ^ K < 2 ^ K := Int.emod_lt_of_pos x hpow0
  obtain ⟨V, hV⟩ := Int.eq_ofNat_of_zero_le hm0
  rw [hV] at hm1 ⊢
  have hVK : V < 2 ^ K := by
    have : ((V : Nat) : Int) < ((2 ^ K : Nat) : Int) := by rw [Int.natCast_pow]; exact hm1
    exact Int.ofNat_lt.1 this
  clear hV hm0 hm1
  have HF := Lib.hid (show K ≤ 24 ∧ 1 ≤ K ∧ V < 2 ^ K from ⟨k2, k1, hVK⟩)
  clear k1 k2 hVK
  have mk := mk_bytes 5000 5000 (by decide) rfl
  obtain ⟨L0, l0, v0, b0, bx0⟩ := box_zeros 40000 5000 (by decide) (by decide)
  have hbx0 := bx0 w
  have X0 : Hid (Bx ((w.alloc (.cells (byc (List.replicate 5000 0)).toArray 5)).alloc (.cells #[.slice (some ⟨w.heap.size, 0, none⟩) 5000 5000, .int .i64 40000] 24)) (w.heap.size + 1) (some ⟨w.heap.size, 0, none⟩) 5000 L0 40000 ∧ Below w.heap.size w ((w.alloc (.cells (byc (List.replicate 5000 0)).toArray 5)).alloc (.cells #[.slice (some ⟨w.heap.size, 0, none⟩) 5000 5000, .int .i64 40000] 24))) := Lib.hid ⟨hbx0, alloc_below ((Below.refl _ _).alloc (Nat.le_refl _) _) (Nat.le_refl _) _⟩
  have HL0 := Lib.hid (show L0.length = 5000 ∧ vb L0 ((40000 : Nat) : Int) = true from ⟨l0, v0⟩)
  clear l0 v0 b0 bx0 hbx0
  go_upto_region 4 with fail
  clear mk
  refine forget (fun Y => Hid (Bx Y (w.heap.size + 1) (some ⟨w.heap.size, 0, none⟩) 5000 L0 40000 ∧ Below w.heap.size w Y)) X0 ?_
  clear X0
  generalize w.heap.size + 1 = g7
  generalize (some ⟨w.heap.size, 0, none⟩ : Option Addr) = Ah
  intro Y X0
  generalize hM : 40000 - K = M
  have hMK : M + K = 40000 := by omega
  have cM : (40000 : Int) - (K : Int) = (M : Int) := by omega
  generalize hQ : (M + 7) / 8 = Q
  have hQ5 : Q ≤ 5000 := by omega
  obtain ⟨L1, l1, v1, b1, bx1⟩ := box_zeros M Q (by omega) hQ.symm
  have mk := mk_bytes (((M : Int) + 7) / 8) Q (by omega) (by omega)
  have HM := Lib.hid hMK
  have HL1 := Lib.hid (show L1.length = Q ∧ vb L1 (M : Int) = true ∧ ∀ x ∈ L1, x < 256 from ⟨l1, v1, b1⟩)
  have X1 := Lib.hid (show Bx _ (Y.heap.size + 1) (some ⟨Y.heap.size, 0, none⟩) Q L1 M ∧ Bx ((Y.alloc (.cells (byc (List.replicate Q 0)).toArray 5)).alloc (.cells #[.slice (some ⟨Y.heap.size, 0, none⟩) Q Q, .int .i64 (M : Int)] 24)) g7 Ah 5000 L0 40000 ∧ Below w.heap.size w ((Y.alloc (.cells (byc (List.replicate Q 0)).toArray 5)).alloc (.cells #[.slice (some ⟨Y.heap.size, 0, none⟩) Q Q, .int .i64 (M : Int)] 24)) from ⟨bx1 Y, (X0.out.1.alloc _).alloc _, alloc_below (alloc_below X0.out.2 (Nat.le_refl _) _) (Nat.le_refl _) _⟩)
  clear l1 v1 b1 bx1 hQ hM hMK X0
  have k0 : (0 : Int) ≤ (M : Int) := by omega
  have k9 : (M : Int) ≤ 40000 := by omega
  go_upto_region 5 with fail
  clear mk cM k0 k9
  refine forget (fun Y2 => Hid (Bx Y2 (Y.heap.size + 1) (some ⟨Y.heap.size, 0, none⟩) Q L1 M ∧ Bx Y2 g7 Ah 5000 L0 40000 ∧ Below w.heap.size w Y2)) X1 ?_
  clear X1
  generalize Y.heap.size + 1 = g8
  generalize (some ⟨Y.heap.size, 0, none⟩ : Option Addr) = Ag
  intro Y1 X1
  obtain ⟨p0_0, p0_1⟩ := row2 X1.out.1.1
  go_wp2_with fail
  refine (append_any Y1 Ag Q L1 M V K X1.out.1.2 (by omega) (by have := HM.out; omega)).mono ?_
  rw [app_lim HL1.out.2.1 HF.out HM.out]
  rintro e w2 ⟨A2, c2, rfl, HP, hb⟩
  have X2 : Hid (Bx (w2.alloc (.cells #[.slice A2 (pack 40000 (wrt L1 M V K)).length c2, .int .i64 40000] 24)) w2.heap.size A2 c2 (pack 40000 (wrt L1 M V K)) (40000) ∧ Bx (w2.alloc (.cells #[.slice A2 (pack 40000 (wrt L1 M V K)).length c2, .int .i64 40000] 24)) g8 Ag Q (L1) (M) ∧ Bx (w2.alloc (.cells #[.slice A2 (pack 40000 (wrt L1 M V K)).length c2, .int .i64 40000] 24)) g7 Ah 5000 (L0) (40000) ∧ Below w.heap.size w (w2.alloc (.cells #[.slice A2 (pack 40000 (wrt L1 M V K)).length c2, .int .i64 40000] 24))) := Lib.hid ⟨Bx.new HP, (X1.out.1.under hb).alloc _, (X1.out.2.1.under hb).alloc _, alloc_below (X1.out.2.2.trans (hb.mono (X1.out.2.2.size))) (Nat.le_refl _) _⟩
  clear HP hb X1 p0_0 p0_1
  go_upto_region 6 with fail
  refine forget (fun Y => Hid (Bx Y w2.heap.size A2 c2 (pack 40000 (wrt L1 M V K)) (40000) ∧ Bx Y g8 Ag Q (L1) (M) ∧ Bx Y g7 Ah 5000 (L0) (40000) ∧ Below w.heap.size w Y)) X2 ?_
  clear X2
  generalize w2.heap.size = g9
  intro Y2 X2
  obtain ⟨p0_0, p0_1⟩ := row2 X2.out.2.2.1.1
  go_wp2_with fail
  refine (append_any Y2 Ah 5000 L0 40000 V K X2.out.2.2.1.2 (by decide) (by decide)).mono ?_
  rw [app_ful HL0.out.2 HF.out]
  rintro e w3 ⟨A3, c3, rfl, HP, hb⟩
  have X3 : Hid (Bx (w3.alloc (.cells #[.slice A3 ([] : List Nat).length c3, .int .i64 0] 24)) w3.heap.size A3 c3 ([] : List Nat) (0) ∧ Bx (w3.alloc (.cells #[.slice A3 ([] : List Nat).length c3, .int .i64 0] 24)) g9 A2 c2 (pack 40000 (wrt L1 M V K)) (40000) ∧ Bx (w3.alloc (.cells #[.slice A3 ([] : List Nat).length c3, .int .i64 0] 24)) g8 Ag Q (L1) (M) ∧ Bx (w3.alloc (.cells #[.slice A3 ([] : List Nat).length c3, .int .i64 0] 24)) g7 Ah 5000 (L0) (40000) ∧ Below w.heap.size w (w3.alloc (.cells #[.slice A3 ([] : List Nat).length c3, .int .i64 0] 24))) := Lib.hid ⟨Bx.new HP, (X2.out.1.under hb).alloc _, (X2.out.2.1.under hb).alloc _, (X2.out.2.2.1.under hb).alloc _, alloc_below (X2.out.2.2.2.trans (hb.mono (X2.out.2.2.2.size))) (Nat.le_refl _) _⟩
  clear HP hb X2 p0_0 p0_1
  go_upto_region 7 with fail
  refine forget (fun Y => Hid (Bx Y w3.heap.size A3 c3 ([] : List Nat) (0) ∧ Bx Y g9 A2 c2 (pack 40000 (wrt L1 M V K)) (40000) ∧ Bx Y g8 Ag Q (L1) (M) ∧ Bx Y g7 Ah 5000 (L0) (40000) ∧ Below w.heap.size w Y)) X3 ?_
  clear X3
  generalize w3.heap.size = g11
  intro Y3 X3
  obtain ⟨p0_0, p0_1⟩ := row2 X3.out.2.1.1
  have cM : (40000 : Int) - (K : Int) = (M : Int) := by have := HM.out; omega
  have k0 : (0 : Int) ≤ (M : Int) := by omega
  have k9 : (M : Int) ≤ 40000 := by have := HM.out; omega
  go_wp2_with fail
  refine (read_any Y3 A2 c2 _ 40000 M K X3.out.2.1.2 (by decide) (by decide)).mono ?_
  rw [read_lim HL1.out.2.1 HF.out HM.out]
  rintro e w7 ⟨rfl, hb⟩
  have X7 : Hid (Bx w7 g11 A3 c3 ([] : List Nat) (0) ∧ Bx w7 g9 A2 c2 (pack 40000 (wrt L1 M V K)) (40000) ∧ Bx w7 g8 Ag Q (L1) (M) ∧ Bx w7 g7 Ah 5000 (L0) (40000) ∧ Below w.heap.size w w7) := Lib.hid ⟨X3.out.1.under hb, X3.out.2.1.under hb, X3.out.2.2.1.under hb, X3.out.2.2.2.1.under hb, X3.out.2.2.2.2.trans (hb.mono X3.out.2.2.2.2.size)⟩
  clear hb X3 p0_0 p0_1 cM k0 k9
  go_wp2_with fail
  refine (refAppend_any w7 none 0 [] 0 0 1 (Bys.none _) (by decide) (by decide)).mono ?_
  rw [app_bit]
  rintro e w8 ⟨A8, c8, rfl, HP, hb⟩
  have X8 : Hid (Bx (w8.alloc (.cells #[.slice A8 ([0]).length c8, .int .i64 1] 24)) w8.heap.size A8 c8 ([0]) (1) ∧ Bx (w8.alloc (.cells #[.slice A8 ([0]).length c8, .int .i64 1] 24)) g11 A3 c3 ([] : List Nat) (0) ∧ Bx (w8.alloc (.cells #[.slice A8 ([0]).length c8, .int .i64 1] 24)) g9 A2 c2 (pack 40000 (wrt L1 M V K)) (40000) ∧ Bx (w8.alloc (.cells #[.slice A8 ([0]).length c8, .int .i64 1] 24)) g8 Ag Q (L1) (M) ∧ Bx (w8.alloc (.cells #[.slice A8 ([0]).length c8, .int .i64 1] 24)) g7 Ah 5000 (L0) (40000) ∧ Below w.heap.size w (w8.alloc (.cells #[.slice A8 ([0]).length c8, .int .i64 1] 24))) := Lib.hid ⟨Bx.new HP, (X7.out.1.under hb).alloc _, (X7.out.2.1.under hb).alloc _, (X7.out.2.2.1.under hb).alloc _, (X7.out.2.2.2.1.under hb).alloc _, alloc_below (X7.out.2.2.2.2.trans (hb.mono (X7.out.2.2.2.2.size))) (Nat.le_refl _) _⟩
  clear HP hb X7 
  go_upto_region 9 with fail
  refine forget (fun Y => Hid (Bx Y w8.heap.size A8 c8 ([0]) (1) ∧ Bx Y g11 A3 c3 ([] : List Nat) (0) ∧ Bx Y g9 A2 c2 (pack 40000 (wrt L1 M V K)) (40000) ∧ Bx Y g8 Ag Q (L1) (M) ∧ Bx Y g7 Ah 5000 (L0) (40000) ∧ Below w.heap.size w Y)) X8 ?_
  clear X8
  generalize w8.heap.size = g15
  intro Y8 X8
  obtain ⟨p0_0, p0_1⟩ := row2 X8.out.2.2.2.2.1.1
  obtain ⟨p1_0, p1_1⟩ := row2 X8.out.1.1
  go_wp2_with fail
  refine (join_any Y8 Ah A8 5000 c8 L0 [0] 40000 1 X8.out.2.2.2.2.1.2 X8.out.1.2 (by decide) (by decide) (by decide) (by decide)).mono ?_
  rw [joi_ful HL0.out.2]
  rintro e w9 ⟨A9, c9, rfl, HP, hb⟩
  have X9 : Hid (Bx (w9.alloc (.cells #[.slice A9 ([] : List Nat).length c9, .int .i64 0] 24)) w9.heap.size A9 c9 ([] : List Nat) (0) ∧ Bx (w9.alloc (.cells #[.slice A9 ([] : List Nat).length c9, .int .i64 0] 24)) g15 A8 c8 ([0]) (1) ∧ Bx (w9.alloc (.cells #[.slice A9 ([] : List Nat).length c9, .int .i64 0] 24)) g11 A3 c3 ([] : List Nat) (0) ∧ Bx (w9.alloc (.cells #[.slice A9 ([] : List Nat).length c9, .int .i64 0] 24)) g9 A2 c2 (pack 40000 (wrt L1 M V K)) (40000) ∧ Bx (w9.alloc (.cells #[.slice A9 ([] : List Nat).length c9, .int .i64 0] 24)) g8 Ag Q (L1) (M) ∧ Bx (w9.alloc (.cells #[.slice A9 ([] : List Nat).length c9, .int .i64 0] 24)) g7 Ah 5000 (L0) (40000) ∧ Below w.heap.size w (w9.alloc (.cells #[.slice A9 ([] : List Nat).length c9, .int .i64 0] 24))) := Lib.hid ⟨Bx.new HP, (X8.out.1.under hb).alloc _, (X8.out.2.1.under hb).alloc _, (X8.out.2.2.1.under hb).alloc _, (X8.out.2.2.2.1.under hb).alloc _, (X8.out.2.2.2.2.1.under hb).alloc _, alloc_below (X8.out.2.2.2.2.2.trans (hb.mono (X8.out.2.2.2.2.2.size))) (Nat.le_refl _) _⟩
  clear HP hb X8 p0_0 p0_1 p1_0 p1_1
  go_upto_region 10 with fail
  refine forget (fun Y => Hid (Bx Y w9.heap.size A9 c9 ([] : List Nat) (0) ∧ Bx Y g15 A8 c8 ([0]) (1) ∧ Bx Y g11 A3 c3 ([] : List Nat) (0) ∧ Bx Y g9 A2 c2 (pack 40000 (wrt L1 M V K)) (40000) ∧ Bx Y g8 Ag Q (L1) (M) ∧ Bx Y g7 Ah 5000 (L0) (40000) ∧ Below w.heap.size w Y)) X9 ?_
  clear X9
  generalize w9.heap.size = g17
  intro Y9 X9
  obtain ⟨p0_0, p0_1⟩ := row2 X9.out.2.2.2.2.1.1
  go_wp2_with fail
  refine (pad_any Y9 Ag Q L1 M X9.out.2.2.2.2.1.2 (by omega) (by have := HM.out; omega)).mono ?_
  rw [pad_is HL1.out.2.1 HL1.out.2.2]
  rintro e w10 ⟨A10, c10, rfl, HP, hb⟩
  have X10 : Hid (Bx (w10.alloc (.cells #[.slice A10 (L1).length c10, .int .i64 ((L1.length : Int) * 8)] 24)) w10.heap.size A10 c10 (L1) (((L1.length : Int) * 8)) ∧ Bx (w10.alloc (.cells #[.slice A10 (L1).length c10, .int .i64 ((L1.length : Int) * 8)] 24)) g17 A9 c9 ([] : List Nat) (0) ∧ Bx (w10.alloc (.cells #[.slice A10 (L1).length c10, .int .i64 ((L1.length : Int) * 8)] 24)) g15 A8 c8 ([0]) (1) ∧ Bx (w10.alloc (.cells #[.slice A10 (L1).length c10, .int .i64 ((L1.length : Int) * 8)] 24)) g11 A3 c3 ([] : List Nat) (0) ∧ Bx (w10.alloc (.cells #[.slice A10 (L1).length c10, .int .i64 ((L1.length : Int) * 8)] 24)) g9 A2 c2 (pack 40000 (wrt L1 M V K)) (40000) ∧ Bx (w10.alloc (.cells #[.slice A10 (L1).length c10, .int .i64 ((L1.length : Int) * 8)] 24)) g8 Ag Q (L1) (M) ∧ Bx (w10.alloc (.cells #[.slice A10 (L1).length c10, .int .i64 ((L1.length : Int) * 8)] 24)) g7 Ah 5000 (L0) (40000) ∧ Below w.heap.size w (w10.alloc (.cells #[.slice A10 (L1).length c10, .int .i64 ((L1.length : Int) * 8)] 24))) := Lib.hid ⟨Bx.new HP, (X9.out.1.under hb).alloc _, (X9.out.2.1.under hb).alloc _, (X9.out.2.2.1.under hb).alloc _, (X9.out.2.2.2.1.under hb).alloc _, (X9.out.2.2.2.2.1.under hb).alloc _, (X9.out.2.2.2.2.2.1.under hb).alloc _, alloc_below (X9.out.2.2.2.2.2.2.trans (hb.mono (X9.out.2.2.2.2.2.2.size))) (Nat.le_refl _) _⟩
  clear HP hb X9 p0_0 p0_1
  go_upto_region 11 with fail
  refine forget (fun Y => Hid (Bx Y w10.heap.size A10 c10 (L1) (((L1.length : Int) * 8)) ∧ Bx Y g17 A9 c9 ([] : List Nat) (0) ∧ Bx Y g15 A8 c8 ([0]) (1) ∧ Bx Y g11 A3 c3 ([] : List Nat) (0) ∧ Bx Y g9 A2 c2 (pack 40000 (wrt L1 M V K)) (40000) ∧ Bx Y g8 Ag Q (L1) (M) ∧ Bx Y g7 Ah 5000 (L0) (40000) ∧ Below w.heap.size w Y)) X10 ?_
  clear X10
  generalize w10.heap.size = g19
  intro Y10 X10
  obtain ⟨p0_0, p0_1⟩ := row2 X10.out.2.2.2.2.1.1
  obtain ⟨p1_0, p1_1⟩ := row2 X10.out.1.1
  have t8 : ((L1.length : Int) * 8 % 8 == 0) = true := by rw [beq_iff_eq]; omega
  have HLl : Hid (L1.length ≤ 5000) := Lib.hid (by rw [HL1.out.1]; exact hQ5)
  have l1 : (0 : Int) ≤ (L1.length : Int) := by omega
  have l2 : (L1.length : Int) ≤ 5000 := by have := HLl.out; omega
  go_wp2_with fail
  refine (awake_any Y10).mono ?_
  rintro e w20 ⟨rfl, hb⟩
  have B20 := Lib.hid (X10.out.2.2.2.2.2.2.2.trans (hb.mono X10.out.2.2.2.2.2.2.2.size))
  clear hb X10 p0_0 p0_1 p1_0 p1_1 t8 l1 l2
  go_wp2_with fail
  go_ret
  exact ⟨rfl, B20.out⟩
end Go.Proofs.Ytjabnicflpeopaa
