/- Contracts of the reference's Across, and of the program's where there is no such face or corner; both answers are the same. -/
import Derived.Test.YteccblhmpggcgaaDoorRefA
import Derived.Test.YteccblhmpggcgaaDoorCornersMath
import Derived.Test.YteccblhmpggcgaaDoorSolidMath
namespace Go.Proofs.YteccblhmpggcgaaDoor
open Go.RowKit

theorem opp_only : ∀ f, f < 20 → ∀ k, k < 3 → ∀ n, n < 20 → opp f k n = true → acr f k = n := by decide +kernel
theorem opp_acr : ∀ f, f < 20 → ∀ k, k < 3 → opp f k (acr f k) = true := by decide +kernel
set_option maxHeartbeats 1000000 in
theorem across_no (F K : Int) (w : World) (h : ¬ (0 ≤ F ∧ F < 20 ∧ 0 ≤ K ∧ K < 3)) :
    Calls Tryd.prog 26 #[.int .i64 F, .int .i64 K] w fun e w' => e = .returned (.tuple #[.int .i64 0, .int .i64 1]) ∧ Below w.heap.size w w' := by
  by_cases hF : 0 ≤ F ∧ F < 20
  · by_cases h1 : 0 ≤ K
    · have h2 : ¬ K < 3 := fun e => h ⟨hF.1, hF.2, h1, e⟩
      obtain ⟨f1, f2⟩ := hF
      clear h
      go_enter Tryd.func26, Tryd.ntmps26
      go_wp2_with (go_at_call 39; refine (isFace_yes _ _ f1 f2).mono ?_; rintro e w1 ⟨rfl, rfl⟩)
      go_ret2
      exact ⟨rfl, Below.refl _ _⟩
    · obtain ⟨f1, f2⟩ := hF
      clear h
      go_enter Tryd.func26, Tryd.ntmps26
      go_wp2_with (go_at_call 39; refine (isFace_yes _ _ f1 f2).mono ?_; rintro e w1 ⟨rfl, rfl⟩)
      go_ret2
      exact ⟨rfl, Below.refl _ _⟩
  · clear h
    go_enter Tryd.func26, Tryd.ntmps26
    go_wp2_with (go_at_call 39; refine (isFace_no _ _ hF).mono ?_; rintro e w1 ⟨rfl, rfl⟩)
    go_ret2
    exact ⟨rfl, Below.refl _ _⟩
set_option maxHeartbeats 1000000 in
theorem refAcross_no (F K : Int) (w : World) (h : ¬ (0 ≤ F ∧ F < 20 ∧ 0 ≤ K ∧ K < 3)) :
    Calls Tryd.prog 27 #[.int .i64 F, .int .i64 K] w fun e w' => e = .returned (.tuple #[.int .i64 0, .int .i64 1]) ∧ Below w.heap.size w w' := by
  by_cases hF : 0 ≤ F ∧ F < 20
  · obtain ⟨f, rfl⟩ := Int.eq_ofNat_of_zero_le hF.1
    have hf : f < 20 := by omega
    by_cases h1 : 0 ≤ K
    · have h2 : ¬ K < 3 := fun e => h ⟨hF.1, hF.2, h1, e⟩
      clear h hF
      go_enter Tryd.func27, Tryd.ntmps27
      go_wp2_with fail
      refine (refCorners_yes _ _ hf).mono ?_
      rintro e w1 ⟨rfl, hb⟩
      go_wp2_with fail
      go_ret2
      exact ⟨rfl, hb.alloc hb.size _⟩
    · clear h hF
      go_enter Tryd.func27, Tryd.ntmps27
      go_wp2_with fail
      refine (refCorners_yes _ _ hf).mono ?_
      rintro e w1 ⟨rfl, hb⟩
      go_wp2_with fail
      go_ret2
      exact ⟨rfl, hb.alloc hb.size _⟩
  · clear h
    go_enter Tryd.func27, Tryd.ntmps27
    go_wp2_with fail
    refine (refCorners_no _ _ hF).mono ?_
    rintro e w1 ⟨rfl, hb⟩
    go_wp2_with fail
    go_ret2
    exact ⟨rfl, hb.alloc hb.size _⟩
theorem corners_at {f k : Nat} (hk : k < 3) {w : World} {g : Nat} {t : TypeId} (r : Row w g t #[.int .i64 (Ico.cor f 0), .int .i64 (Ico.cor f 1), .int .i64 (Ico.cor f 2)]) : w.cell? ⟨g, k, none⟩ = some (.int .i64 (Ico.cor f k)) :=
  (r.cell k).trans (by
    have : k = 0 ∨ k = 1 ∨ k = 2 := by omega
    rcases this with rfl | rfl | rfl <;> rfl)
set_option maxRecDepth 100000 in
set_option maxHeartbeats 4000000 in
theorem refAcross_yes (f k : Nat) (w : World) (hf : f < 20) (hkl : k < 3) :
    Calls Tryd.prog 27 #[.int .i64 f, .int .i64 k] w fun e w' => e = .returned (.tuple #[.int .i64 (acr f k), .int .i64 0]) ∧ Below w.heap.size w w' := by
  obtain ⟨kk1, hk1, e1, e1'⟩ : ∃ m : Nat, m < 3 ∧ ((k : Int) + 1) % 3 = (m : Int) ∧ m = (k + 1) % 3 := ⟨(k + 1) % 3, by omega, by omega, rfl⟩
  obtain ⟨kk2, hk2, e2, e2'⟩ : ∃ m : Nat, m < 3 ∧ ((k : Int) + 2) % 3 = (m : Int) ∧ m = (k + 2) % 3 := ⟨(k + 2) % 3, by omega, by omega, rfl⟩
  have OP : Hid (∀ n, opp f k n = (decide (n ≠ f) && Ico.has n (Ico.cor f kk1) && Ico.has n (Ico.cor f kk2))) := Lib.hid (fun n => by rw [e1', e2']; rfl)
  have OO := Lib.hid (opp_only f hf k hkl)
  have OA := Lib.hid (opp_acr f hf k hkl)
  have OL := (acr_lt f hf k hkl).1
  clear e1' e2'
  go_enter Tryd.func27, Tryd.ntmps27
  go_wp2_with fail
  refine (refCorners_yes _ _ hf).mono ?_
  rintro e w1 ⟨rfl, hb⟩
  go_upto_region 4 with fail
  have r1 := Row.new w1 #[.int .i64 (Ico.cor f 0), .int .i64 (Ico.cor f 1), .int .i64 (Ico.cor f 2)] 43
  refine forget (fun Y => Below w.heap.size w Y ∧ Row Y w1.heap.size 43 #[.int .i64 (Ico.cor f 0), .int .i64 (Ico.cor f 1), .int .i64 (Ico.cor f 2)]) ⟨hb.alloc hb.size _, r1⟩ ?_
  clear hb r1
  generalize w1.heap.size = gc at *
  rintro Y ⟨bY, r⟩
  have c1 := corners_at hk1 r
  have c2 := corners_at hk2 r
  have i1 : (0 : Int) ≤ (kk1 : Int) := by omega
  have i2 : (kk1 : Int) < 3 := by omega
  have i3 : (0 : Int) ≤ (kk2 : Int) := by omega
  have i4 : (kk2 : Int) < 3 := by omega
  clear r
  generalize Ico.cor f kk1 = X1 at *
  generalize Ico.cor f kk2 = X2 at *
  go_quiet (fail)
  clear c1 c2 i1 i2 i3 i4 e1 e2
  go_wp2_with fail
  have b1 := below_drewN bY nq
  go_loopw [10] (fun i wr => ∃ n : Nat, n ≤ 20 ∧ i = .int .i64 n ∧ Hid (∀ j, j < n → opp f k j = false) ∧ Below w.heap.size w wr) (fun i _ => 20 - (intOf i).toNat)
  case atStart => exact ⟨0, by omega, rfl, Lib.hid (fun j hj => by omega), b1⟩
  case round =>
    clear b1 bY
    obtain ⟨n, hn, rfl, HJ, br⟩ := hrel
    by_cases hlt : n < 20
    · go_wp2_with fail
      refine (refCorners_yes _ _ hlt).mono ?_
      rintro e w2 ⟨rfl, hb2⟩
      have b2 := br.trans (hb2.mono br.size)
      have b3 := b2.alloc b2.size (.cells #[.int .i64 (Ico.cor n 0), .int .i64 (Ico.cor n 1), .int .i64 (Ico.cor n 2)] 43)
      have r2 := Row.new w2 #[.int .i64 (Ico.cor n 0), .int .i64 (Ico.cor n 1), .int .i64 (Ico.cor n 2)] 43
      go_upto_region 10 with fail
      refine forget (fun Y => Below w.heap.size w Y ∧ Row Y w2.heap.size 43 #[.int .i64 (Ico.cor n 0), .int .i64 (Ico.cor n 1), .int .i64 (Ico.cor n 2)]) ⟨b3, r2⟩ ?_
      clear br hb2 b2 b3 r2
      generalize w2.heap.size = gd at *
      rintro Z ⟨bZ, rd⟩
      go_wp2_with fail
      go_loopw [13, 14, 15] (fun x y i wi => ∃ m : Nat, m ≤ 3 ∧ i = .int .i64 m ∧ x = .bool (hk n X1 m) ∧ y = .bool (hk n X2 m) ∧ Below w.heap.size w wi ∧ Row wi gd 43 #[.int .i64 (Ico.cor n 0), .int .i64 (Ico.cor n 1), .int .i64 (Ico.cor n 2)]) (fun _ _ i _ => 3 - (intOf i).toNat)
      case atStart => exact ⟨0, by omega, rfl, rfl, rfl, bZ, rd⟩
      case round =>
        clear bZ rd
        obtain ⟨m, hm, rfl, rfl, rfl, bU, rU⟩ := hrel
        by_cases hm3 : m < 3
        · have d1 := corners_at hm3 rU
          have S1 := Lib.hid (show hk n X1 (m + 1) = (hk n X1 m || decide (Ico.cor n m = X1)) from rfl)
          have S2 := Lib.hid (show hk n X2 (m + 1) = (hk n X2 m || decide (Ico.cor n m = X2)) from rfl)
          have m1 : (0 : Int) ≤ (m : Int) := by omega
          have m2 : (m : Int) < 3 := by omega
          have HU := Lib.hid rU; clear rU
          have HB := Lib.hid bU; clear bU
          generalize Ico.cor n m = D at *
          obtain ⟨t1, ht1⟩ : ∃ u, hk n X1 (m + 1) = u := ⟨_, rfl⟩
          have hx : (hk n X1 m = true ∧ t1 = true) ∨ (hk n X1 m = false ∧ ((D : Int) == (X1 : Int)) = true ∧ t1 = true) ∨ (hk n X1 m = false ∧ ((D : Int) == (X1 : Int)) = false ∧ t1 = false) := by
            rw [← ht1, S1.out]
            cases hk n X1 m
            · by_cases e : D = X1
              · exact .inr (.inl ⟨rfl, by rw [beq_iff_eq]; omega, by simp [e]⟩)
              · exact .inr (.inr ⟨rfl, by rw [beq_eq_false_iff_ne]; omega, by simp [e]⟩)
            · exact .inl ⟨rfl, rfl⟩
          obtain ⟨t2, ht2⟩ : ∃ u, hk n X2 (m + 1) = u := ⟨_, rfl⟩
          have hy : (hk n X2 m = true ∧ t2 = true) ∨ (hk n X2 m = false ∧ ((D : Int) == (X2 : Int)) = true ∧ t2 = true) ∨ (hk n X2 m = false ∧ ((D : Int) == (X2 : Int)) = false ∧ t2 = false) := by
            rw [← ht2, S2.out]
            cases hk n X2 m
            · by_cases e : D = X2
              · exact .inr (.inl ⟨rfl, by rw [beq_iff_eq]; omega, by simp [e]⟩)
              · exact .inr (.inr ⟨rfl, by rw [beq_eq_false_iff_ne]; omega, by simp [e]⟩)
            · exact .inl ⟨rfl, rfl⟩
          clear S1 S2
          have T1 := Lib.hid ht1; clear ht1
          have T2 := Lib.hid ht2; clear ht2
          generalize hk n X1 m = p1 at *
          generalize hk n X2 m = p2 at *
          rcases hx with ⟨rfl, rfl⟩ | ⟨rfl, ea, rfl⟩ | ⟨rfl, ea, rfl⟩ <;> rcases hy with ⟨rfl, rfl⟩ | ⟨rfl, eb, rfl⟩ | ⟨rfl, eb, rfl⟩
          all_goals
            go_wp2_with fail
            go_quiet (fail)
            go_wp2_with fail
            go_roundw
            case rel => exact ⟨m + 1, by omega, by go_num, by rw [T1.out], by rw [T2.out], below_drewN HB.out _, HU.out.drewN _⟩
            case measure => simp [intOf]; omega
        · obtain rfl : m = 3 := by omega
          rw [hk3, hk3]
          have O := Lib.hid (OP.out n)
          cases h1 : Ico.has n X1
          · have E := Lib.hid (show opp f k n = false by rw [O.out, h1]; simp)
            clear h1
            go_wp2_with fail
            go_roundw
            case rel => exact ⟨n + 1, by omega, by go_num, Lib.hid (fun j hj => by rcases Nat.lt_succ_iff_lt_or_eq.1 hj with h | rfl; · exact HJ.out j h
                                                                                   · exact E.out), bU⟩
            case measure => simp [intOf]; omega
          · cases h2 : Ico.has n X2
            · have E := Lib.hid (show opp f k n = false by rw [O.out, h1, h2]; simp)
              clear h1 h2
              go_wp2_with fail
              go_roundw
              case rel => exact ⟨n + 1, by omega, by go_num, Lib.hid (fun j hj => by rcases Nat.lt_succ_iff_lt_or_eq.1 hj with h | rfl; · exact HJ.out j h
                                                                                     · exact E.out), bU⟩
              case measure => simp [intOf]; omega
            · by_cases he : n = f
              · have E := Lib.hid (show opp f k n = false by rw [O.out]; simp [he])
                have q : ((n : Int) != (f : Int)) = false := by simp [he]
                clear h1 h2 he
                go_wp2_with fail
                go_roundw
                case rel => exact ⟨n + 1, by omega, by go_num, Lib.hid (fun j hj => by rcases Nat.lt_succ_iff_lt_or_eq.1 hj with h | rfl; · exact HJ.out j h
                                                                                       · exact E.out), bU⟩
                case measure => simp [intOf]; omega
              · have E := Lib.hid (OO.out n hlt (by rw [O.out, h1, h2]; simp [he]))
                have q : ((n : Int) != (f : Int)) = true := by rw [bne_iff_ne]; omega
                clear h1 h2 he
                go_wp2_with fail
                go_ret2
                exact ⟨by rw [E.out]; rfl, bU⟩
    · exfalso
      have := HJ.out (acr f k) (by omega)
      rw [OA.out] at this
      cases this
/-- Whatever the numbers: both functions answer the same. -/
theorem both_across (F K : Int) : ∃ x r : Int,
    (∀ w, Calls Tryd.prog 26 #[.int .i64 F, .int .i64 K] w fun e w' => e = .returned (.tuple #[.int .i64 x, .int .i64 r]) ∧ Below w.heap.size w w') ∧
    (∀ w, Calls Tryd.prog 27 #[.int .i64 F, .int .i64 K] w fun e w' => e = .returned (.tuple #[.int .i64 x, .int .i64 r]) ∧ Below w.heap.size w w') := by
  by_cases h : 0 ≤ F ∧ F < 20 ∧ 0 ≤ K ∧ K < 3
  · obtain ⟨f, rfl⟩ := Int.eq_ofNat_of_zero_le h.1
    obtain ⟨k, rfl⟩ := Int.eq_ofNat_of_zero_le h.2.2.1
    exact ⟨_, _, fun w => across_yes f k w (by omega) (by omega), fun w => refAcross_yes f k w (by omega) (by omega)⟩
  · exact ⟨_, _, fun w => across_no F K w h, fun w => refAcross_no F K w h⟩
theorem both_corners (F : Int) : ∃ a b c r : Int,
    (∀ w, Calls Tryd.prog 24 #[.int .i64 F] w fun e w' => e = .returned (.tuple #[.agg #[.int .i64 a, .int .i64 b, .int .i64 c], .int .i64 r]) ∧ Below w.heap.size w w') ∧
    (∀ w, Calls Tryd.prog 25 #[.int .i64 F] w fun e w' => e = .returned (.tuple #[.agg #[.int .i64 a, .int .i64 b, .int .i64 c], .int .i64 r]) ∧ Below w.heap.size w w') := by
  by_cases h : 0 ≤ F ∧ F < 20
  · obtain ⟨f, rfl⟩ := Int.eq_ofNat_of_zero_le h.1
    exact ⟨_, _, _, _, fun w => corners_yes f w (by omega), fun w => refCorners_yes f w (by omega)⟩
  · exact ⟨_, _, _, _, fun w => corners_no F w h, fun w => refCorners_no F w h⟩
end Go.Proofs.YteccblhmpggcgaaDoor
