/- The contract of the reference's Format on valid readings. -/
import Derived.Test.YthlcpmkjemdhkaaDoorRForm
namespace Go.Proofs.YthlcpmkjemdhkaaDoor
open Go.RowKit

attribute [local go_sem] S_add S_size S_one
set_option maxRecDepth 100000 in
set_option maxHeartbeats 2000000 in
theorem refFormat_yes (c v : Int) (w : World) (h : Elt.Val c v) :
    Calls Tryd.prog 27 #[rdV c v] w fun e w' => e = .returned (.tuple #[.string (S (Elt.txt c v)), .int .i64 0]) ∧ Below w.heap.size w w' := by
  have b0 : Below w.heap.size w (w.alloc (.cells #[.int .i64 c, .int .i64 v] 47)) := (Below.refl _ _).alloc (Nat.le_refl _) _
  have r0 := Row.new w #[.int .i64 c, .int .i64 v] 47
  obtain ⟨d1, d2, d3, d4⟩ := Elt.val_bd h
  obtain ⟨-, f6, f7, -⟩ := Elt.facts h.1
  have HI := Lib.hid (fun W => refIn_any c v W h.1)
  rw [decide_eq_true h.2] at HI
  have HD := Lib.hid (fun W => refDescribe_yes c W h.1)
  have hsg : Hid (Elt.txt c v = [Elt.lt c] ++ Elt.sg v ++ Elt.ddn v.natAbs (Elt.dg c)) := Lib.hid (by simp [Elt.txt, Elt.tail])
  clear h
  simp only [infoV] at HD
  go_enter Tryd.func27, Tryd.ntmps27
  go_wp2_with fail
  generalize w.alloc (.cells #[.int .i64 c, .int .i64 v] 47) = W0 at *
  refine (HD.out _).mono ?_
  rintro e w1 ⟨rfl, g1⟩
  have b1 := b0.trans (g1.mono b0.size)
  have r1 := r0.under g1
  clear g1 b0 r0
  obtain ⟨k, hk⟩ : ∃ k, Elt.dg c = k := ⟨_, rfl⟩
  have hk4 : 4 ≤ k := by omega
  have hk5 : k ≤ 5 := by omega
  go_upto_region 4 with fail
  refine forget (fun Y => Below w.heap.size w Y ∧ Row Y w.heap.size 47 #[.int .i64 c, .int .i64 v] ∧ Row Y w1.heap.size 30 #[.string (S [Elt.lt c]), .int .i64 (Elt.lo c), .int .i64 (Elt.hi c), .int .i64 k]) ⟨b1.alloc b1.size _, r1.alloc _, by rw [← hk]; exact Row.new _ _ _⟩ ?_
  rw [hk] at hsg
  clear b1 r1 HD d4 f6 f7 hk
  generalize w1.heap.size = gi at *
  rintro Y ⟨bY, rY, iY⟩
  obtain ⟨p0, p1⟩ := row2 rY
  go_wp2_with fail
  refine (HI.out _).mono ?_
  rintro e w2 ⟨rfl, g2⟩
  have b2 := bY.trans (g2.mono bY.size)
  have r2 := rY.under g2
  have i2 := iY.under g2
  clear g2 bY rY iY p0 p1
  obtain ⟨p0, p1⟩ := row2 r2
  obtain ⟨q0, q1, q2, q3⟩ := row4 i2
  have B2 := Lib.hid b2
  have R2 := Lib.hid r2
  have I2 := Lib.hid i2
  clear b2 r2 i2
  have hn : v.natAbs ≤ 99999 := by omega
  have HG := Lib.hid (fun W => refDigits_any v.natAbs k W hn (by omega))
  have S0 : w2.drew.cell? ⟨gi, 0, none⟩ = some (.string (S [Elt.lt c])) ∧ w2.drew.cell? ⟨gi, 3, none⟩ = some (.int .i64 k) ∧ w2.drew.cell? ⟨w.heap.size, 1, none⟩ = some (.int .i64 v) := ⟨q0, q3, p1⟩
  have SK : Hid (∀ W', Below w2.heap.size w2 W' → W'.cell? ⟨gi, 0, none⟩ = some (.string (S [Elt.lt c])) ∧ W'.cell? ⟨gi, 3, none⟩ = some (.int .i64 k) ∧ W'.cell? ⟨w.heap.size, 1, none⟩ = some (.int .i64 v)) := Lib.hid (fun W' hb => by
    have := row4 (I2.out.under hb)
    have h2 := row2 (R2.out.under hb)
    exact ⟨this.1, this.2.2.2, h2.2⟩)
  have hl := Elt.ddn_len v.natAbs k
  have kb1 : ¬ 9223372036854775807 < 1 + k := by omega
  have kb2 : ¬ 9223372036854775807 < 2 + k := by omega
  by_cases hv : v < 0
  · have x1 : IntKind.i64.wrap (-v) = ((v.natAbs : Nat) : Int) := by rw [show -v = ((v.natAbs : Nat) : Int) by omega]; exact IntWalk.i64_in _ (by omega)
    have s1 := Lib.hid (show Elt.sg v = [45] from if_pos hv)
    generalize Elt.ddn v.natAbs k = dl at *
    go_upto_region 7 with fail
    refine wp_region_held_drew (S := fun w' : World => w'.cell? ⟨gi, 0, none⟩ = some (.string (S [Elt.lt c])) ∧ w'.cell? ⟨gi, 3, none⟩ = some (.int .i64 k) ∧ w'.cell? ⟨w.heap.size, 1, none⟩ = some (.int .i64 v)) (by kernel_rfl) S0 (fun hHeld => ?_)
    refine wpAnyH_take (i := 0) (v := ?_) rfl (by kernel_rfl) (by kernel_rfl) (by kernel_rfl) (fun _ _ _ h => h) (Or.inl ⟨by rfl, ?_⟩) (by assumption) ?_
    case refine_2 => (intro wx hSx; (try dsimp only at hSx); go_simp; first | done | with_reducible rfl)
    try simp only [Act.put, List.setIfInBounds_toArray, List.set_cons_zero, List.set_cons_succ]
    refine wpAnyH_take (i := 1) (v := ?_) rfl (by kernel_rfl) (by kernel_rfl) (by kernel_rfl) (fun _ _ _ h => h) (Or.inl ⟨by rfl, ?_⟩) (by assumption) ?_
    case refine_2 => (intro wx hSx; (try dsimp only at hSx); go_simp; first | done | with_reducible rfl)
    try simp only [Act.put, List.setIfInBounds_toArray, List.set_cons_zero, List.set_cons_succ]
    refine wpAnyH_take (i := 2) (v := ?_) rfl (by kernel_rfl) (by kernel_rfl) (by kernel_rfl) (fun _ _ _ h => h) (Or.inl ⟨by rfl, ?_⟩) (by assumption) ?_
    case refine_2 => (intro wx hSx; (try dsimp only at hSx); go_simp; first | done | with_reducible rfl)
    try simp only [Act.put, List.setIfInBounds_toArray, List.set_cons_zero, List.set_cons_succ]
    refine wpAnyH_take (i := 3) (v := ?_) rfl (by kernel_rfl) (by kernel_rfl) (by kernel_rfl) (fun _ _ _ h => h) (Or.inl ⟨by rfl, ?_⟩) (by assumption) ?_
    case refine_2 => (intro wx hSx; (try dsimp only at hSx); go_simp; first | done | with_reducible rfl)
    try simp only [Act.put, List.setIfInBounds_toArray, List.set_cons_zero, List.set_cons_succ]
    refine wpAnyH_take (i := 4) (v := ?_) rfl (by kernel_rfl) (by kernel_rfl) (by kernel_rfl) (fun _ _ _ h => h) (Or.inl ⟨by rfl, ?_⟩) (by assumption) ?_
    case refine_2 => (intro wx hSx; (try dsimp only at hSx); go_simp; first | done | with_reducible rfl)
    try simp only [Act.put, List.setIfInBounds_toArray, List.set_cons_zero, List.set_cons_succ]
    refine wpAnyH_take (i := 5) (v := ?_) rfl (by kernel_rfl) (by kernel_rfl) (by kernel_rfl) (fun _ _ _ h => h) (Or.inl ⟨by rfl, ?_⟩) (by assumption) ?_
    case refine_2 => (intro wx hSx; (try dsimp only at hSx); go_simp; first | done | with_reducible rfl)
    try simp only [Act.put, List.setIfInBounds_toArray, List.set_cons_zero, List.set_cons_succ]
    refine wpAnyH_take (i := 6) (v := ?_) rfl (by kernel_rfl) (by kernel_rfl) (by kernel_rfl) (fun _ _ _ h => h) (Or.inl ⟨by rfl, ?_⟩) (by assumption) ?_
    case refine_2 => (intro wx hSx; (try dsimp only at hSx); go_simp; first | done | with_reducible rfl)
    try simp only [Act.put, List.setIfInBounds_toArray, List.set_cons_zero, List.set_cons_succ]
    refine wpAnyH_take (i := 7) (v := ?_) rfl (by kernel_rfl) (by kernel_rfl) (by kernel_rfl) (fun _ _ _ h => h) (Or.inl ⟨by rfl, ?_⟩) (by assumption) ?_
    case refine_2 => (intro wx hSx; (try dsimp only at hSx); go_simp; first | done | with_reducible rfl)
    try simp only [Act.put, List.setIfInBounds_toArray, List.set_cons_zero, List.set_cons_succ]
    refine wpAnyH_ready (rs := [8]) (by kernel_rfl) (by simp) ?_
    refine AllReadyH.cons rfl (fun K hK => ?_) AllReadyH.nil
    go_simp
    refine (HG.out _).mono ?_
    rintro e w3 ⟨rfl, g3⟩
    have G3 : Hid (Below w2.heap.size w2 w3) := Lib.hid (undrew g3)
    clear g3
    have SS := SK.out w3 G3.out
    go_wp2_with fail
    refine hK.out _ _ SS (fun hHeld2 => ?_)
    clear SS
    clear hK K hHeld
    try simp only [Act.put, List.setIfInBounds_toArray, List.set_cons_zero, List.set_cons_succ]
    refine wpAnyH_take (i := 9) (oi := ⟨some 30, _, _, _, _, none⟩) (v := ?_) rfl (by kernel_rfl) (by kernel_rfl) (by kernel_rfl) (fun _ _ _ h => h) (Or.inl ⟨by rfl, ?_⟩) (by assumption) ?_
    case refine_2 => (intro wx hSx; (try dsimp only at hSx); go_simp; first | done | with_reducible rfl)
    try simp only [Act.put, List.setIfInBounds_toArray, List.set_cons_zero, List.set_cons_succ]
    refine wpAnyH_take (i := 10) (oi := ⟨some 2, _, _, _, _, none⟩) (v := ?_) rfl (by kernel_rfl) (by kernel_rfl) (by kernel_rfl) (fun _ _ _ h => h) (Or.inl ⟨by rfl, ?_⟩) (by assumption) ?_
    case refine_2 => (intro wx hSx; (try dsimp only at hSx); go_simp; first | done | with_reducible rfl)
    try simp only [Act.put, List.setIfInBounds_toArray, List.set_cons_zero, List.set_cons_succ]
    refine wpAnyH_take (i := 11) (oi := ⟨some 3, _, _, _, _, none⟩) (v := ?_) rfl (by kernel_rfl) (by kernel_rfl) (by kernel_rfl) (fun _ _ _ h => h) (Or.inl ⟨by rfl, ?_⟩) (by assumption) ?_
    case refine_2 => (intro wx hSx; (try dsimp only at hSx); go_simp; first | done | with_reducible rfl)
    try simp only [Act.put, List.setIfInBounds_toArray, List.set_cons_zero, List.set_cons_succ]
    refine wpAnyH_done (by kernel_rfl) ?_ _
    go_wp2_with fail
    go_ret2
    exact ⟨ret_str2 (by rw [hsg.out, s1.out]; rfl), B2.out.trans (G3.out.mono B2.out.size)⟩
  · obtain ⟨n, rfl⟩ := Int.eq_ofNat_of_zero_le (show 0 ≤ v by omega)
    have s1 := Lib.hid (show Elt.sg (n : Int) = [] from if_neg hv)
    simp only [Int.natAbs_natCast] at HG hl hsg hn
    generalize Elt.ddn n k = dl at *
    go_upto_region 8 with fail
    refine wp_region_held_drew (S := fun w' : World => w'.cell? ⟨gi, 0, none⟩ = some (.string (S [Elt.lt c])) ∧ w'.cell? ⟨gi, 3, none⟩ = some (.int .i64 k) ∧ w'.cell? ⟨w.heap.size, 1, none⟩ = some (.int .i64 (n : Int))) (by kernel_rfl) S0 (fun hHeld => ?_)
    refine wpAnyH_take (i := 0) (v := ?_) rfl (by kernel_rfl) (by kernel_rfl) (by kernel_rfl) (fun _ _ _ h => h) (Or.inl ⟨by rfl, ?_⟩) (by assumption) ?_
    case refine_2 => (intro wx hSx; (try dsimp only at hSx); go_simp; first | done | with_reducible rfl)
    try simp only [Act.put, List.setIfInBounds_toArray, List.set_cons_zero, List.set_cons_succ]
    refine wpAnyH_take (i := 1) (v := ?_) rfl (by kernel_rfl) (by kernel_rfl) (by kernel_rfl) (fun _ _ _ h => h) (Or.inl ⟨by rfl, ?_⟩) (by assumption) ?_
    case refine_2 => (intro wx hSx; (try dsimp only at hSx); go_simp; first | done | with_reducible rfl)
    try simp only [Act.put, List.setIfInBounds_toArray, List.set_cons_zero, List.set_cons_succ]
    refine wpAnyH_take (i := 2) (v := ?_) rfl (by kernel_rfl) (by kernel_rfl) (by kernel_rfl) (fun _ _ _ h => h) (Or.inl ⟨by rfl, ?_⟩) (by assumption) ?_
    case refine_2 => (intro wx hSx; (try dsimp only at hSx); go_simp; first | done | with_reducible rfl)
    try simp only [Act.put, List.setIfInBounds_toArray, List.set_cons_zero, List.set_cons_succ]
    refine wpAnyH_take (i := 3) (v := ?_) rfl (by kernel_rfl) (by kernel_rfl) (by kernel_rfl) (fun _ _ _ h => h) (Or.inl ⟨by rfl, ?_⟩) (by assumption) ?_
    case refine_2 => (intro wx hSx; (try dsimp only at hSx); go_simp; first | done | with_reducible rfl)
    try simp only [Act.put, List.setIfInBounds_toArray, List.set_cons_zero, List.set_cons_succ]
    refine wpAnyH_take (i := 4) (v := ?_) rfl (by kernel_rfl) (by kernel_rfl) (by kernel_rfl) (fun _ _ _ h => h) (Or.inl ⟨by rfl, ?_⟩) (by assumption) ?_
    case refine_2 => (intro wx hSx; (try dsimp only at hSx); go_simp; first | done | with_reducible rfl)
    try simp only [Act.put, List.setIfInBounds_toArray, List.set_cons_zero, List.set_cons_succ]
    refine wpAnyH_take (i := 5) (v := ?_) rfl (by kernel_rfl) (by kernel_rfl) (by kernel_rfl) (fun _ _ _ h => h) (Or.inl ⟨by rfl, ?_⟩) (by assumption) ?_
    case refine_2 => (intro wx hSx; (try dsimp only at hSx); go_simp; first | done | with_reducible rfl)
    try simp only [Act.put, List.setIfInBounds_toArray, List.set_cons_zero, List.set_cons_succ]
    refine wpAnyH_ready (rs := [6]) (by kernel_rfl) (by simp) ?_
    refine AllReadyH.cons rfl (fun K hK => ?_) AllReadyH.nil
    go_simp
    refine (HG.out _).mono ?_
    rintro e w3 ⟨rfl, g3⟩
    have G3 : Hid (Below w2.heap.size w2 w3) := Lib.hid (undrew g3)
    clear g3
    have SS := SK.out w3 G3.out
    go_wp2_with fail
    refine hK.out _ _ SS (fun hHeld2 => ?_)
    clear SS
    clear hK K hHeld
    try simp only [Act.put, List.setIfInBounds_toArray, List.set_cons_zero, List.set_cons_succ]
    refine wpAnyH_take (i := 7) (oi := ⟨some 38, _, _, _, _, none⟩) (v := ?_) rfl (by kernel_rfl) (by kernel_rfl) (by kernel_rfl) (fun _ _ _ h => h) (Or.inl ⟨by rfl, ?_⟩) (by assumption) ?_
    case refine_2 => (intro wx hSx; (try dsimp only at hSx); go_simp; first | done | with_reducible rfl)
    try simp only [Act.put, List.setIfInBounds_toArray, List.set_cons_zero, List.set_cons_succ]
    refine wpAnyH_take (i := 8) (oi := ⟨some 2, _, _, _, _, none⟩) (v := ?_) rfl (by kernel_rfl) (by kernel_rfl) (by kernel_rfl) (fun _ _ _ h => h) (Or.inl ⟨by rfl, ?_⟩) (by assumption) ?_
    case refine_2 => (intro wx hSx; (try dsimp only at hSx); go_simp; first | done | with_reducible rfl)
    try simp only [Act.put, List.setIfInBounds_toArray, List.set_cons_zero, List.set_cons_succ]
    refine wpAnyH_take (i := 9) (oi := ⟨some 3, _, _, _, _, none⟩) (v := ?_) rfl (by kernel_rfl) (by kernel_rfl) (by kernel_rfl) (fun _ _ _ h => h) (Or.inl ⟨by rfl, ?_⟩) (by assumption) ?_
    case refine_2 => (intro wx hSx; (try dsimp only at hSx); go_simp; first | done | with_reducible rfl)
    try simp only [Act.put, List.setIfInBounds_toArray, List.set_cons_zero, List.set_cons_succ]
    refine wpAnyH_done (by kernel_rfl) ?_ _
    go_wp2_with fail
    go_ret2
    exact ⟨ret_str2 (by rw [hsg.out, s1.out, List.append_nil]; rfl), B2.out.trans (G3.out.mono B2.out.size)⟩
end Go.Proofs.YthlcpmkjemdhkaaDoor
