/- Contracts of slices.Index and slices.Contains on three numbers, hasCorner and Across of the program. -/
import Derived.Test.YteccblhmpggcgaaDoorRow
namespace Go.Proofs.YteccblhmpggcgaaDoor
open Go.RowKit

theorem ret_i64 {a b : Int} (h : a = b) : Ending.returned (.int .i64 a) = .returned (.int .i64 b) := by rw [h]
/-- The first place of v among three numbers. -/
def at3 (v x0 x1 x2 : Int) : Int := if v = x0 then 0 else if v = x1 then 1 else if v = x2 then 2 else -1
set_option maxHeartbeats 400000 in
theorem index3 (v x0 x1 x2 : Int) (b : Nat) (w : World) (c0 : w.cell? ⟨b, 0, none⟩ = some (.int .i64 x0)) (c1 : w.cell? ⟨b, 1, none⟩ = some (.int .i64 x1)) (c2 : w.cell? ⟨b, 2, none⟩ = some (.int .i64 x2)) :
    Calls Tryd.prog 62 #[.slice (some ⟨b, 0, none⟩) 3 3, .int .i64 v] w fun e w' => e = .returned (.int .i64 (at3 v x0 x1 x2)) ∧ w = w' := by
  go_enter Tryd.func62, Tryd.ntmps62
  go_wp2
  go_loop [8] (fun i => ∃ k : Nat, i = .int .i64 k ∧ (k = 0 ∨ (k = 1 ∧ v ≠ x0) ∨ (k = 2 ∧ v ≠ x0 ∧ v ≠ x1) ∨ (k = 3 ∧ v ≠ x0 ∧ v ≠ x1 ∧ v ≠ x2))) (fun i => (3 - intOf i).toNat)
  case atStart => exact ⟨0, rfl, .inl rfl⟩
  case round =>
    obtain ⟨k, rfl, rfl | ⟨rfl, h0⟩ | ⟨rfl, h0, h1⟩ | ⟨rfl, h0, h1, h2⟩⟩ := hrel
    · by_cases h : v = x0
      · have q : (v == x0) = true := beq_iff_eq.2 h
        have E := Lib.hid (show at3 v x0 x1 x2 = 0 by simp [at3, h])
        clear h
        go_wp2
        go_ret
        exact ⟨ret_i64 E.out.symm, rfl⟩
      · have q : (v == x0) = false := beq_eq_false_iff_ne.2 h
        have H := Lib.hid h; clear h
        go_wp2
        go_round
        case rel => exact ⟨1, rfl, .inr (.inl ⟨rfl, H.out⟩)⟩
        case measure => simp [intOf]
    · by_cases h : v = x1
      · have q : (v == x1) = true := beq_iff_eq.2 h
        have E := Lib.hid (show at3 v x0 x1 x2 = 1 by unfold at3; rw [if_neg h0, if_pos h])
        clear h h0
        go_wp2
        go_ret
        exact ⟨ret_i64 E.out.symm, rfl⟩
      · have q : (v == x1) = false := beq_eq_false_iff_ne.2 h
        have H := Lib.hid h; clear h
        have H0 := Lib.hid h0; clear h0
        go_wp2
        go_round
        case rel => exact ⟨2, rfl, .inr (.inr (.inl ⟨rfl, H0.out, H.out⟩))⟩
        case measure => simp [intOf]
    · by_cases h : v = x2
      · have q : (v == x2) = true := beq_iff_eq.2 h
        have E := Lib.hid (show at3 v x0 x1 x2 = 2 by unfold at3; rw [if_neg h0, if_neg h1, if_pos h])
        clear h h0 h1
        go_wp2
        go_ret
        exact ⟨ret_i64 E.out.symm, rfl⟩
      · have q : (v == x2) = false := beq_eq_false_iff_ne.2 h
        have H := Lib.hid h; clear h
        have H0 := Lib.hid h0; clear h0
        have H1 := Lib.hid h1; clear h1
        go_wp2
        go_round
        case rel => exact ⟨3, rfl, .inr (.inr (.inr ⟨rfl, H0.out, H1.out, H.out⟩))⟩
        case measure => simp [intOf]
    · have E := Lib.hid (show at3 v x0 x1 x2 = -1 by unfold at3; rw [if_neg h0, if_neg h1, if_neg h2])
      clear h0 h1 h2
      go_wp2
      go_ret
      exact ⟨ret_i64 E.out.symm, rfl⟩
theorem index3_is (v x0 x1 x2 n : Int) (b : Nat) (w : World) (hn : at3 v x0 x1 x2 = n) (c0 : w.cell? ⟨b, 0, none⟩ = some (.int .i64 x0)) (c1 : w.cell? ⟨b, 1, none⟩ = some (.int .i64 x1)) (c2 : w.cell? ⟨b, 2, none⟩ = some (.int .i64 x2)) :
    Calls Tryd.prog 62 #[.slice (some ⟨b, 0, none⟩) 3 3, .int .i64 v] w fun e w' => e = .returned (.int .i64 n) ∧ w = w' := hn ▸ index3 v x0 x1 x2 b w c0 c1 c2
theorem at3_bd (v x0 x1 x2 : Int) : (at3 v x0 x1 x2 = -1 ∧ ¬ (v = x0 ∨ v = x1 ∨ v = x2)) ∨ (0 ≤ at3 v x0 x1 x2 ∧ (v = x0 ∨ v = x1 ∨ v = x2)) := by
  unfold at3
  by_cases h0 : v = x0
  · rw [if_pos h0]; exact .inr ⟨by omega, .inl h0⟩
  · rw [if_neg h0]
    by_cases h1 : v = x1
    · rw [if_pos h1]; exact .inr ⟨by omega, .inr (.inl h1)⟩
    · rw [if_neg h1]
      by_cases h2 : v = x2
      · rw [if_pos h2]; exact .inr ⟨by omega, .inr (.inr h2)⟩
      · rw [if_neg h2]; exact .inl ⟨rfl, fun h => by rcases h with h | h | h <;> contradiction⟩
set_option maxHeartbeats 400000 in
theorem contains3 (v x0 x1 x2 : Int) (b : Nat) (w : World) (c0 : w.cell? ⟨b, 0, none⟩ = some (.int .i64 x0)) (c1 : w.cell? ⟨b, 1, none⟩ = some (.int .i64 x1)) (c2 : w.cell? ⟨b, 2, none⟩ = some (.int .i64 x2)) :
    Calls Tryd.prog 47 #[.slice (some ⟨b, 0, none⟩) 3 3, .int .i64 v] w fun e w' => e = .returned (.bool (decide (v = x0 ∨ v = x1 ∨ v = x2))) ∧ w = w' := by
  rcases at3_bd v x0 x1 x2 with ⟨h1, h2⟩ | ⟨h1, h2⟩
  · have H1 := Lib.hid h1; clear h1
    have E := Lib.hid (decide_eq_false h2); clear h2
    go_enter Tryd.func47, Tryd.ntmps47
    go_wp2_with (go_at_call 62; refine (index3_is _ _ _ _ _ _ _ H1.out c0 c1 c2).mono ?_; rintro e w1 ⟨rfl, rfl⟩)
    go_ret
    exact ⟨ret_bool E.out.symm, rfl⟩
  · obtain ⟨n, hn⟩ : ∃ n, at3 v x0 x1 x2 = n := ⟨_, rfl⟩
    rw [hn] at h1
    have H1 := Lib.hid hn; clear hn
    have E := Lib.hid (decide_eq_true h2); clear h2
    go_enter Tryd.func47, Tryd.ntmps47
    go_wp2_with (go_at_call 62; refine (index3_is _ _ _ _ _ _ _ H1.out c0 c1 c2).mono ?_; rintro e w1 ⟨rfl, rfl⟩)
    go_ret
    exact ⟨ret_bool E.out.symm, rfl⟩
theorem has_eq (g v : Nat) : (decide ((v : Int) = (Ico.cor g 0 : Int)) || (decide ((v : Int) = (Ico.cor g 1 : Int)) || decide ((v : Int) = (Ico.cor g 2 : Int)))) = Ico.has g v := by
  unfold Ico.has
  rw [Bool.eq_iff_iff]; simp only [decide_eq_true_eq, Bool.or_eq_true]; omega
set_option maxHeartbeats 400000 in
theorem hasCorner_any (g v : Nat) (r : Bool) (w : World) (hg : g < 20) (hr : Ico.has g v = r) :
    Calls Tryd.prog 41 #[.int .i64 g, .int .i64 v] w fun e w' => e = .returned (.bool r) ∧ Below w.heap.size w w' := by
  have R := Lib.hid ((has_eq g v).trans hr); clear hr
  go_enter Tryd.func41, Tryd.ntmps41
  go_wp2_with (go_at_call 34; refine (cornersOf_any _ _ hg).mono ?_; rintro e w1 ⟨rfl, hb⟩)
  obtain ⟨k0, k1, k2⟩ := row3 (Row.new w1 #[.int .i64 (Ico.cor g 0), .int .i64 (Ico.cor g 1), .int .i64 (Ico.cor g 2)] 43)
  refine (contains3 _ _ _ _ _ _ k0 k1 k2).mono ?_
  rintro e w2 ⟨rfl, rfl⟩
  clear k0 k1 k2
  go_wp2
  go_ret
  exact ⟨ret_bool R.out, hb.alloc hb.size _⟩

/-- The face n lies on the other side. -/
def opp (f k n : Nat) : Bool := decide (n ≠ f) && Ico.has n (Ico.cor f ((k + 1) % 3)) && Ico.has n (Ico.cor f ((k + 2) % 3))
/-- The last of them below n. -/
def acT (f k : Nat) : Nat → Nat
  | 0 => 0
  | n + 1 => if opp f k n then n else acT f k n
/-- The face across. -/
def acr (f k : Nat) : Nat := acT f k 20
theorem acT_yes {f k n : Nat} (h : opp f k n = true) : acT f k (n + 1) = n := by unfold acT; rw [if_pos h]
theorem acT_no {f k n : Nat} (h : opp f k n = false) : acT f k (n + 1) = acT f k n := by rw [acT, if_neg (by simp [h])]
theorem acT_lt (f k : Nat) : ∀ n, n ≤ 20 → acT f k n < 20
  | 0, _ => by unfold acT; omega
  | n + 1, h => by
    rw [acT]; split
    · omega
    · exact acT_lt f k n (by omega)
set_option maxHeartbeats 2000000 in
theorem across_yes (f k : Nat) (w : World) (hf : f < 20) (hk : k < 3) :
    Calls Tryd.prog 26 #[.int .i64 f, .int .i64 k] w fun e w' => e = .returned (.tuple #[.int .i64 (acr f k), .int .i64 0]) ∧ Below w.heap.size w w' := by
  go_enter Tryd.func26, Tryd.ntmps26
  have hk' : k = 0 ∨ k = 1 ∨ k = 2 := by omega
  rcases hk' with rfl | rfl | rfl
  · go_wp2_with (first | (go_at_call 39; refine (isFace_yes _ _ (by omega) (by omega)).mono ?_; rintro e w1 ⟨rfl, rfl⟩) | (go_at_call 34; refine (cornersOf_any _ _ hf).mono ?_; rintro e w1 ⟨rfl, hb⟩))
    go_quiet (fail)
    go_wp2_with fail
    have hb1 := below_drewN (hb.alloc hb.size (.cells #[.int .i64 (Ico.cor f 0), .int .i64 (Ico.cor f 1), .int .i64 (Ico.cor f 2)] 43)) nq
    go_loopw [9, 34] (fun s i wr => ∃ n : Nat, n ≤ 20 ∧ i = .int .i64 n ∧ s = .int .i64 (acT f 0 n) ∧ Below w.heap.size w wr) (fun _ i _ => 20 - (intOf i).toNat)
    case atStart => exact ⟨0, by omega, rfl, rfl, hb1⟩
    case round =>
      clear hb1 hb
      obtain ⟨n, hn, rfl, rfl, br⟩ := hrel
      by_cases hlt : n < 20
      · by_cases e : n = f
        · have q : ((n : Int) != (f : Int)) = false := by simp [e]
          have A := Lib.hid (acT_no (show opp f 0 n = false by simp [opp, e]))
          clear e
          go_wp2_with fail
          go_roundw
          case rel => exact ⟨n + 1, by omega, by go_num, by rw [A.out], br⟩
          case measure => simp [intOf]; omega
        · have q : ((n : Int) != (f : Int)) = true := by rw [bne_iff_ne]; omega
          cases h1 : Ico.has n (Ico.cor f 1)
          · have A := Lib.hid (acT_no (show opp f 0 n = false by simp [opp, h1]))
            have H := Lib.hid h1; clear h1 e
            go_wp2_with (go_at_call 41; refine (hasCorner_any _ _ _ _ hlt H.out).mono ?_; rintro e w2 ⟨rfl, g2⟩)
            go_roundw
            case rel => exact ⟨n + 1, by omega, by go_num, by rw [A.out], br.trans (g2.mono br.size)⟩
            case measure => simp [intOf]; omega
          · cases h2 : Ico.has n (Ico.cor f 2)
            · have A := Lib.hid (acT_no (show opp f 0 n = false by simp [opp, h2]))
              have H := Lib.hid h1; clear h1 e
              have G := Lib.hid h2; clear h2
              go_wp2_with fail
              refine (hasCorner_any _ _ _ _ hlt H.out).mono ?_
              rintro e w2 ⟨rfl, g2⟩
              go_wp2_with fail
              refine (hasCorner_any _ _ _ _ hlt G.out).mono ?_
              rintro e w3 ⟨rfl, g3⟩
              go_wp2_with fail
              have b2 := br.trans (g2.mono br.size)
              go_roundw
              case rel => exact ⟨n + 1, by omega, by go_num, by rw [A.out], b2.trans (g3.mono b2.size)⟩
              case measure => simp [intOf]; omega
            · have A := Lib.hid (acT_yes (show opp f 0 n = true by simp [opp, h1, h2, e]))
              have H := Lib.hid h1; clear h1 e
              have G := Lib.hid h2; clear h2
              go_wp2_with fail
              refine (hasCorner_any _ _ _ _ hlt H.out).mono ?_
              rintro e w2 ⟨rfl, g2⟩
              go_wp2_with fail
              refine (hasCorner_any _ _ _ _ hlt G.out).mono ?_
              rintro e w3 ⟨rfl, g3⟩
              go_wp2_with fail
              have b2 := br.trans (g2.mono br.size)
              go_roundw
              case rel => exact ⟨n + 1, by omega, by go_num, by rw [A.out], b2.trans (g3.mono b2.size)⟩
              case measure => simp [intOf]; omega
      · obtain rfl : n = 20 := by omega
        go_wp2_with fail
        go_ret2
        exact ⟨rfl, br⟩
  · go_wp2_with (first | (go_at_call 39; refine (isFace_yes _ _ (by omega) (by omega)).mono ?_; rintro e w1 ⟨rfl, rfl⟩) | (go_at_call 34; refine (cornersOf_any _ _ hf).mono ?_; rintro e w1 ⟨rfl, hb⟩))
    go_quiet (fail)
    go_wp2_with fail
    have hb1 := below_drewN (hb.alloc hb.size (.cells #[.int .i64 (Ico.cor f 0), .int .i64 (Ico.cor f 1), .int .i64 (Ico.cor f 2)] 43)) nq
    go_loopw [9, 34] (fun s i wr => ∃ n : Nat, n ≤ 20 ∧ i = .int .i64 n ∧ s = .int .i64 (acT f 1 n) ∧ Below w.heap.size w wr) (fun _ i _ => 20 - (intOf i).toNat)
    case atStart => exact ⟨0, by omega, rfl, rfl, hb1⟩
    case round =>
      clear hb1 hb
      obtain ⟨n, hn, rfl, rfl, br⟩ := hrel
      by_cases hlt : n < 20
      · by_cases e : n = f
        · have q : ((n : Int) != (f : Int)) = false := by simp [e]
          have A := Lib.hid (acT_no (show opp f 1 n = false by simp [opp, e]))
          clear e
          go_wp2_with fail
          go_roundw
          case rel => exact ⟨n + 1, by omega, by go_num, by rw [A.out], br⟩
          case measure => simp [intOf]; omega
        · have q : ((n : Int) != (f : Int)) = true := by rw [bne_iff_ne]; omega
          cases h1 : Ico.has n (Ico.cor f 2)
          · have A := Lib.hid (acT_no (show opp f 1 n = false by simp [opp, h1]))
            have H := Lib.hid h1; clear h1 e
            go_wp2_with (go_at_call 41; refine (hasCorner_any _ _ _ _ hlt H.out).mono ?_; rintro e w2 ⟨rfl, g2⟩)
            go_roundw
            case rel => exact ⟨n + 1, by omega, by go_num, by rw [A.out], br.trans (g2.mono br.size)⟩
            case measure => simp [intOf]; omega
          · cases h2 : Ico.has n (Ico.cor f 0)
            · have A := Lib.hid (acT_no (show opp f 1 n = false by simp [opp, h2]))
              have H := Lib.hid h1; clear h1 e
              have G := Lib.hid h2; clear h2
              go_wp2_with fail
              refine (hasCorner_any _ _ _ _ hlt H.out).mono ?_
              rintro e w2 ⟨rfl, g2⟩
              go_wp2_with fail
              refine (hasCorner_any _ _ _ _ hlt G.out).mono ?_
              rintro e w3 ⟨rfl, g3⟩
              go_wp2_with fail
              have b2 := br.trans (g2.mono br.size)
              go_roundw
              case rel => exact ⟨n + 1, by omega, by go_num, by rw [A.out], b2.trans (g3.mono b2.size)⟩
              case measure => simp [intOf]; omega
            · have A := Lib.hid (acT_yes (show opp f 1 n = true by simp [opp, h1, h2, e]))
              have H := Lib.hid h1; clear h1 e
              have G := Lib.hid h2; clear h2
              go_wp2_with fail
              refine (hasCorner_any _ _ _ _ hlt H.out).mono ?_
              rintro e w2 ⟨rfl, g2⟩
              go_wp2_with fail
              refine (hasCorner_any _ _ _ _ hlt G.out).mono ?_
              rintro e w3 ⟨rfl, g3⟩
              go_wp2_with fail
              have b2 := br.trans (g2.mono br.size)
              go_roundw
              case rel => exact ⟨n + 1, by omega, by go_num, by rw [A.out], b2.trans (g3.mono b2.size)⟩
              case measure => simp [intOf]; omega
      · obtain rfl : n = 20 := by omega
        go_wp2_with fail
        go_ret2
        exact ⟨rfl, br⟩
  · go_wp2_with (first | (go_at_call 39; refine (isFace_yes _ _ (by omega) (by omega)).mono ?_; rintro e w1 ⟨rfl, rfl⟩) | (go_at_call 34; refine (cornersOf_any _ _ hf).mono ?_; rintro e w1 ⟨rfl, hb⟩))
    go_quiet (fail)
    go_wp2_with fail
    have hb1 := below_drewN (hb.alloc hb.size (.cells #[.int .i64 (Ico.cor f 0), .int .i64 (Ico.cor f 1), .int .i64 (Ico.cor f 2)] 43)) nq
    go_loopw [9, 34] (fun s i wr => ∃ n : Nat, n ≤ 20 ∧ i = .int .i64 n ∧ s = .int .i64 (acT f 2 n) ∧ Below w.heap.size w wr) (fun _ i _ => 20 - (intOf i).toNat)
    case atStart => exact ⟨0, by omega, rfl, rfl, hb1⟩
    case round =>
      clear hb1 hb
      obtain ⟨n, hn, rfl, rfl, br⟩ := hrel
      by_cases hlt : n < 20
      · by_cases e : n = f
        · have q : ((n : Int) != (f : Int)) = false := by simp [e]
          have A := Lib.hid (acT_no (show opp f 2 n = false by simp [opp, e]))
          clear e
          go_wp2_with fail
          go_roundw
          case rel => exact ⟨n + 1, by omega, by go_num, by rw [A.out], br⟩
          case measure => simp [intOf]; omega
        · have q : ((n : Int) != (f : Int)) = true := by rw [bne_iff_ne]; omega
          cases h1 : Ico.has n (Ico.cor f 0)
          · have A := Lib.hid (acT_no (show opp f 2 n = false by simp [opp, h1]))
            have H := Lib.hid h1; clear h1 e
            go_wp2_with (go_at_call 41; refine (hasCorner_any _ _ _ _ hlt H.out).mono ?_; rintro e w2 ⟨rfl, g2⟩)
            go_roundw
            case rel => exact ⟨n + 1, by omega, by go_num, by rw [A.out], br.trans (g2.mono br.size)⟩
            case measure => simp [intOf]; omega
          · cases h2 : Ico.has n (Ico.cor f 1)
            · have A := Lib.hid (acT_no (show opp f 2 n = false by simp [opp, h2]))
              have H := Lib.hid h1; clear h1 e
              have G := Lib.hid h2; clear h2
              go_wp2_with fail
              refine (hasCorner_any _ _ _ _ hlt H.out).mono ?_
              rintro e w2 ⟨rfl, g2⟩
              go_wp2_with fail
              refine (hasCorner_any _ _ _ _ hlt G.out).mono ?_
              rintro e w3 ⟨rfl, g3⟩
              go_wp2_with fail
              have b2 := br.trans (g2.mono br.size)
              go_roundw
              case rel => exact ⟨n + 1, by omega, by go_num, by rw [A.out], b2.trans (g3.mono b2.size)⟩
              case measure => simp [intOf]; omega
            · have A := Lib.hid (acT_yes (show opp f 2 n = true by simp [opp, h1, h2, e]))
              have H := Lib.hid h1; clear h1 e
              have G := Lib.hid h2; clear h2
              go_wp2_with fail
              refine (hasCorner_any _ _ _ _ hlt H.out).mono ?_
              rintro e w2 ⟨rfl, g2⟩
              go_wp2_with fail
              refine (hasCorner_any _ _ _ _ hlt G.out).mono ?_
              rintro e w3 ⟨rfl, g3⟩
              go_wp2_with fail
              have b2 := br.trans (g2.mono br.size)
              go_roundw
              case rel => exact ⟨n + 1, by omega, by go_num, by rw [A.out], b2.trans (g3.mono b2.size)⟩
              case measure => simp [intOf]; omega
      · obtain rfl : n = 20 := by omega
        go_wp2_with fail
        go_ret2
        exact ⟨rfl, br⟩
end Go.Proofs.YteccblhmpggcgaaDoor
