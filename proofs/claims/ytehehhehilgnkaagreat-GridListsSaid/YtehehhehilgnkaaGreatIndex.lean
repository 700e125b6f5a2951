/- The contract of Index. -/
import Derived.Test.YtehehhehilgnkaaGreatNear
namespace Go.Proofs.YtehehhehilgnkaaGreat
open Go.RowKit Go.Maps

theorem index_bad (n F a b c : Int) (w : World) (h : ¬ (1 ≤ n ∧ n ≤ 8) ∨ vb F a b c = false) :
    Calls Tryz.prog 31 #[.int .i64 n, .agg #[.int .i64 F, .int .i64 a, .int .i64 b, .int .i64 c]] w fun e w' => e = .returned (.tuple #[.int .i64 0, .int .i64 1]) ∧ Below w.heap.size w w' := by
  by_cases h1 : 1 ≤ n ∧ n ≤ 8
  · have h2 : vb F a b c = false := h.resolve_left (fun k => k h1)
    have hd : decide (1 ≤ n ∧ n ≤ 8) = true := decide_eq_true h1
    clear h h1
    go_enter Tryz.func31, Tryz.ntmps31
    go_wp2_with fail
    refine (isFrequency_any _ _).mono ?_
    rintro e w1 ⟨rfl, rfl⟩
    go_wp2_with fail
    refine (valid_any _ _ _ _ _).mono ?_
    rintro e w2 ⟨rfl, hb2⟩
    go_wp2_with fail
    go_ret2
    exact ⟨rfl, ((Below.refl _ _).alloc (Nat.le_refl _) _).trans (hb2.mono (by simp))⟩
  · have hd : decide (1 ≤ n ∧ n ≤ 8) = false := decide_eq_false h1
    clear h h1
    go_enter Tryz.func31, Tryz.ntmps31
    go_wp2_with fail
    refine (isFrequency_any _ _).mono ?_
    rintro e w1 ⟨rfl, rfl⟩
    go_wp2_with fail
    go_ret2
    exact ⟨rfl, (Below.refl _ _).alloc (Nat.le_refl _) _⟩
theorem zero_of {n : Nat} {x y : Int} (h : x * (n : Int) = y) (hy : y = 0) (n1 : 1 ≤ (n : Int)) : x = 0 := by
  rw [hy] at h
  rcases Int.mul_eq_zero.1 h with h | h
  · exact h
  · omega
/-- The place is a node of the grid. -/
def isNd (n : Nat) (A B C : Int) : Bool := Lat.rs n A == 0 && Lat.rs n B == 0 && Lat.rs n C == 0
set_option maxRecDepth 100000 in
set_option maxHeartbeats 4000000 in
theorem index_yes (n f : Nat) (A B C : Int) (w : World) (hn : Lat.frq n) (hv : Ico.Vld f A B C) (h0 : Lat.rs n A = 0) (h1 : Lat.rs n B = 0) (h2 : Lat.rs n C = 0) :
    Calls Tryz.prog 31 #[.int .i64 n, .agg #[.int .i64 f, .int .i64 A, .int .i64 B, .int .i64 C]] w fun e w' => e = .returned (.tuple #[.int .i64 (Lat.idx n f (Lat.xa n A) (Lat.xa n B) : Nat), .int .i64 0]) ∧ Below w.heap.size w w' := by
  have hvb := vb_of hv
  have hab : Lat.xa n A + Lat.xa n B ≤ n := by
    have := (Lat.cut hn hv).2
    omega
  have HV := Lib.hid hv
  have HN := Lib.hid hn
  have HAB := Lib.hid hab
  obtain ⟨-, A1, A2, B1, B2, C1, C2, -⟩ := hv
  obtain ⟨dA1, dA2, p1, p2, rA0, rA1⟩ := Lat.div_eq hn A1
  obtain ⟨dB1, dB2, -, -, rB0, rB1⟩ := Lat.div_eq hn B1
  obtain ⟨dC1, dC2, -, -, rC0, rC1⟩ := Lat.div_eq hn C1
  have n1 : 1 ≤ (n : Int) ∧ (n : Int) ≤ 8 := by unfold Lat.frq at hn; omega
  obtain ⟨n1, n2⟩ := n1
  have m1 : A % ((840 : Int) / (n : Int)) = 0 := zero_of dA2 h0 n1
  have m2 : B % ((840 : Int) / (n : Int)) = 0 := zero_of dB2 h1 n1
  have m3 : C % ((840 : Int) / (n : Int)) = 0 := zero_of dC2 h2 n1
  have c8 : Lat.xa n A ≤ 8 ∧ Lat.xa n B ≤ 8 ∧ Lat.xa n C ≤ 8 := by have := (Lat.cut HN.out HV.out).2; omega
  clear hn hab dA2 dB2 dC2 rA0 rA1 rB0 rB1 rC0 rC1
  have tA : A.tdiv ((840 : Int) / (n : Int)) = (Lat.xa n A : Int) := by rw [Int.tdiv_eq_ediv_of_nonneg A1]; exact dA1
  have tB : B.tdiv ((840 : Int) / (n : Int)) = (Lat.xa n B : Int) := by rw [Int.tdiv_eq_ediv_of_nonneg B1]; exact dB1
  have tC : C.tdiv ((840 : Int) / (n : Int)) = (Lat.xa n C : Int) := by rw [Int.tdiv_eq_ediv_of_nonneg C1]; exact dC1
  have v1 : IntKind.i64.wrap (Lat.xa n A : Int) = (Lat.xa n A : Int) := IntWalk.i64_in _ (by omega)
  have v2 : IntKind.i64.wrap (Lat.xa n B : Int) = (Lat.xa n B : Int) := IntWalk.i64_in _ (by omega)
  have v3 : IntKind.i64.wrap (Lat.xa n C : Int) = (Lat.xa n C : Int) := IntWalk.i64_in _ (by omega)
  clear c8
  go_enter Tryz.func31, Tryz.ntmps31
  go_wp2_with fail
  refine (isFrequency_yes _ _ HN.out).mono ?_
  rintro e w1 ⟨rfl, rfl⟩
  go_wp2_with fail
  have r0 := Row.new w #[.int .i64 f, .int .i64 A, .int .i64 B, .int .i64 C] 32
  refine (valid_any _ _ _ _ _).mono ?_
  rintro e w2 ⟨rfl, hb2⟩
  rw [hvb]
  have r2 := r0.under hb2
  have b2 : Below w.heap.size w w2 := ((Below.refl _ _).alloc (Nat.le_refl _) _).trans (hb2.mono (by simp))
  clear r0 hb2
  generalize w.heap.size = gp at r2
  obtain ⟨c0, c1, c2, c3⟩ := row4 r2
  go_upto_region 4 with fail
  generalize hq : (840 : Int) / (n : Int) = q at *
  clear hq
  have zq : ¬ q = 0 := by omega
  go_upto_region 6 with fail
  have R2 := Lib.hid r2; clear r2
  have B2' := Lib.hid b2; clear b2
  refine wp_region_held_drew (S := fun w' : World => w'.cell? ⟨gp, 0, none⟩ = some (.int .i64 f) ∧ w'.cell? ⟨gp, 1, none⟩ = some (.int .i64 A) ∧ w'.cell? ⟨gp, 2, none⟩ = some (.int .i64 B) ∧ w'.cell? ⟨gp, 3, none⟩ = some (.int .i64 C)) (by kernel_rfl) ⟨c0, c1, c2, c3⟩ (fun hHeld => ?_)
  refine wpAnyH_take (i := 0) (v := ?_) rfl (by kernel_rfl) (by kernel_rfl) (by kernel_rfl) (fun _ _ _ h => h) (Or.inl ⟨by rfl, ?_⟩) (by assumption) ?_
  case refine_2 => (intro wx hSx; (try dsimp only at hSx); go_simp; first | done | with_reducible rfl)
  try simp only [Act.put, List.setIfInBounds_toArray, List.set_cons_zero, List.set_cons_succ]
  refine wpAnyH_take (i := 2) (v := ?_) rfl (by kernel_rfl) (by kernel_rfl) (by kernel_rfl) (fun _ _ _ h => h) (Or.inl ⟨by rfl, ?_⟩) (by assumption) ?_
  case refine_2 => (intro wx hSx; (try dsimp only at hSx); go_simp; first | done | with_reducible rfl)
  try simp only [Act.put, List.setIfInBounds_toArray, List.set_cons_zero, List.set_cons_succ]
  refine wpAnyH_take (i := 3) (v := ?_) rfl (by kernel_rfl) (by kernel_rfl) (by kernel_rfl) (fun _ _ _ h => h) (Or.inl ⟨by rfl, ?_⟩) (by assumption) ?_
  case refine_2 => (intro wx hSx; (try dsimp only at hSx); go_simp; first | done | with_reducible rfl)
  try simp only [Act.put, List.setIfInBounds_toArray, List.set_cons_zero, List.set_cons_succ]
  refine wpAnyH_take (i := 4) (v := ?_) rfl (by kernel_rfl) (by kernel_rfl) (by kernel_rfl) (fun _ _ _ h => h) (Or.inl ⟨by rfl, ?_⟩) (by assumption) ?_
  case refine_2 => (intro wx hSx; (try dsimp only at hSx); go_simp; first | done | with_reducible rfl)
  try simp only [Act.put, List.setIfInBounds_toArray, List.set_cons_zero, List.set_cons_succ]
  refine wpAnyH_take (i := 5) (v := ?_) rfl (by kernel_rfl) (by kernel_rfl) (by kernel_rfl) (fun _ _ _ h => h) (Or.inl ⟨by rfl, ?_⟩) (by assumption) ?_
  case refine_2 => (intro wx hSx; (try dsimp only at hSx); go_simp; first | done | with_reducible rfl)
  try simp only [Act.put, List.setIfInBounds_toArray, List.set_cons_zero, List.set_cons_succ]
  refine wpAnyH_take (i := 6) (v := ?_) rfl (by kernel_rfl) (by kernel_rfl) (by kernel_rfl) (fun _ _ _ h => h) (Or.inl ⟨by rfl, ?_⟩) (by assumption) ?_
  case refine_2 => (intro wx hSx; (try dsimp only at hSx); go_simp; first | done | with_reducible rfl)
  try simp only [Act.put, List.setIfInBounds_toArray, List.set_cons_zero, List.set_cons_succ]
  refine wpAnyH_take (i := 7) (v := ?_) rfl (by kernel_rfl) (by kernel_rfl) (by kernel_rfl) (fun _ _ _ h => h) (Or.inl ⟨by rfl, ?_⟩) (by assumption) ?_
  case refine_2 => (intro wx hSx; (try dsimp only at hSx); go_simp; first | done | with_reducible rfl)
  try simp only [Act.put, List.setIfInBounds_toArray, List.set_cons_zero, List.set_cons_succ]
  refine wpAnyH_take (i := 8) (v := ?_) rfl (by kernel_rfl) (by kernel_rfl) (by kernel_rfl) (fun _ _ _ h => h) (Or.inl ⟨by rfl, ?_⟩) (by assumption) ?_
  case refine_2 => (intro wx hSx; (try dsimp only at hSx); go_simp; first | done | with_reducible rfl)
  try simp only [Act.put, List.setIfInBounds_toArray, List.set_cons_zero, List.set_cons_succ]
  refine wpAnyH_take (i := 9) (v := ?_) rfl (by kernel_rfl) (by kernel_rfl) (by kernel_rfl) (fun _ _ _ h => h) (Or.inl ⟨by rfl, ?_⟩) (by assumption) ?_
  case refine_2 => (intro wx hSx; (try dsimp only at hSx); go_simp; first | done | with_reducible rfl)
  try simp only [Act.put, List.setIfInBounds_toArray, List.set_cons_zero, List.set_cons_succ]
  refine wpAnyH_take (i := 10) (v := ?_) rfl (by kernel_rfl) (by kernel_rfl) (by kernel_rfl) (fun _ _ _ h => h) (Or.inl ⟨by rfl, ?_⟩) (by assumption) ?_
  case refine_2 => (intro wx hSx; (try dsimp only at hSx); go_simp; first | done | with_reducible rfl)
  try simp only [Act.put, List.setIfInBounds_toArray, List.set_cons_zero, List.set_cons_succ]
  refine wpAnyH_take (i := 11) (v := ?_) rfl (by kernel_rfl) (by kernel_rfl) (by kernel_rfl) (fun _ _ _ h => h) (Or.inl ⟨by rfl, ?_⟩) (by assumption) ?_
  case refine_2 => (intro wx hSx; (try dsimp only at hSx); go_simp; first | done | with_reducible rfl)
  try simp only [Act.put, List.setIfInBounds_toArray, List.set_cons_zero, List.set_cons_succ]
  refine wpAnyH_take (i := 12) (v := ?_) rfl (by kernel_rfl) (by kernel_rfl) (by kernel_rfl) (fun _ _ _ h => h) (Or.inl ⟨by rfl, ?_⟩) (by assumption) ?_
  case refine_2 => (intro wx hSx; (try dsimp only at hSx); go_simp; first | done | with_reducible rfl)
  try simp only [Act.put, List.setIfInBounds_toArray, List.set_cons_zero, List.set_cons_succ]
  refine wpAnyH_take (i := 13) (v := ?_) rfl (by kernel_rfl) (by kernel_rfl) (by kernel_rfl) (fun _ _ _ h => h) (Or.inl ⟨by rfl, ?_⟩) (by assumption) ?_
  case refine_2 => (intro wx hSx; (try dsimp only at hSx); go_simp; first | done | with_reducible rfl)
  try simp only [Act.put, List.setIfInBounds_toArray, List.set_cons_zero, List.set_cons_succ]
  refine wpAnyH_take (i := 14) (v := ?_) rfl (by kernel_rfl) (by kernel_rfl) (by kernel_rfl) (fun _ _ _ h => h) (Or.inl ⟨by rfl, ?_⟩) (by assumption) ?_
  case refine_2 => (intro wx hSx; (try dsimp only at hSx); go_simp; first | done | with_reducible rfl)
  try simp only [Act.put, List.setIfInBounds_toArray, List.set_cons_zero, List.set_cons_succ]
  refine wpAnyH_take (i := 15) (v := ?_) rfl (by kernel_rfl) (by kernel_rfl) (by kernel_rfl) (fun _ _ _ h => h) (Or.inl ⟨by rfl, ?_⟩) (by assumption) ?_
  case refine_2 => (intro wx hSx; (try dsimp only at hSx); go_simp; first | done | with_reducible rfl)
  try simp only [Act.put, List.setIfInBounds_toArray, List.set_cons_zero, List.set_cons_succ]
  refine wpAnyH_take (i := 16) (v := ?_) rfl (by kernel_rfl) (by kernel_rfl) (by kernel_rfl) (fun _ _ _ h => h) (Or.inl ⟨by rfl, ?_⟩) (by assumption) ?_
  case refine_2 => (intro wx hSx; (try dsimp only at hSx); go_simp; first | done | with_reducible rfl)
  try simp only [Act.put, List.setIfInBounds_toArray, List.set_cons_zero, List.set_cons_succ]
  refine wpAnyH_ready (rs := [1]) (by kernel_rfl) (by simp) ?_
  refine AllReadyH.cons rfl (fun K hK => ?_) AllReadyH.nil
  go_simp
  refine (lattice_any n _ HN.out).mono ?_
  rintro e w3 ⟨gl, rfl, hla⟩
  have LA := Lib.hid hla; clear hla
  have b3 : Below w2.heap.size w2 w3 := undrew LA.out.below
  have B3 := Lib.hid b3
  go_wp2_with fail
  refine hK.out _ _ (row4 (R2.out.under B3.out)) (fun hHeld2 => ?_)
  clear hK K hHeld b3
  try simp only [Act.put, List.setIfInBounds_toArray, List.set_cons_zero, List.set_cons_succ]
  refine wpAnyH_ready (rs := [17]) (by kernel_rfl) (by simp) ?_
  refine AllReadyH.cons rfl (fun K hK => ?_) AllReadyH.nil
  go_simp
  refine (find_any _ n gl f (Lat.xa n A) (Lat.xa n B) _ _ LA.out HN.out HV.out.1 HAB.out).mono ?_
  rintro e w4 ⟨rfl, hb4⟩
  have B4 := Lib.hid hb4; clear hb4
  go_wp2_with fail
  refine hK.out _ _ (row4 ((R2.out.under B3.out).under B4.out)) (fun hHeld => ?_)
  clear hK K hHeld2
  try simp only [Act.put, List.setIfInBounds_toArray, List.set_cons_zero, List.set_cons_succ]
  refine wpAnyH_take (i := 18) (oi := ⟨some 4, _, _, _, _, none⟩) (v := ?_) rfl (by kernel_rfl) (by kernel_rfl) (by kernel_rfl) (fun _ _ _ h => h) (Or.inl ⟨by rfl, ?_⟩) (by assumption) ?_
  case refine_2 => (intro wx hSx; (try dsimp only at hSx); go_simp; first | done | with_reducible rfl)
  try simp only [Act.put, List.setIfInBounds_toArray, List.set_cons_zero, List.set_cons_succ]
  refine wpAnyH_take (i := 19) (oi := ⟨some 5, _, _, _, _, none⟩) (v := ?_) rfl (by kernel_rfl) (by kernel_rfl) (by kernel_rfl) (fun _ _ _ h => h) (Or.inl ⟨by rfl, ?_⟩) (by assumption) ?_
  case refine_2 => (intro wx hSx; (try dsimp only at hSx); go_simp; first | done | with_reducible rfl)
  try simp only [Act.put, List.setIfInBounds_toArray, List.set_cons_zero, List.set_cons_succ]
  refine wpAnyH_done (by kernel_rfl) ?_ _
  go_wp2_with fail
  go_ret2
  exact ⟨rfl, (B2'.out.trans (B3.out.mono B2'.out.size)).trans (B4.out.mono (Nat.le_trans B2'.out.size B3.out.size))⟩
end Go.Proofs.YtehehhehilgnkaaGreat

