/- The contracts of within and Gross of the program and of Gross of the reference. -/
import Derived.Test.YtngbjccfmglbaaaDoorDesc
import Derived.Test.YtngbjccfmglbaaaDoorLmA
import Derived.Test.YtngbjccfmglbaaaDoorChk
namespace Go.Proofs.YtngbjccfmglbaaaDoor
open Go.RowKit

/-- The table of the gross limits as it lies in memory. -/
def Gro (w : World) : Prop := ∀ k : Nat, k < 11 → w.cell? ⟨0, k * 2, none⟩ = some (.int .i64 (Lm.gls.getD k 0)) ∧ w.cell? ⟨0, k * 2 + 1, none⟩ = some (.int .i64 (Lm.gms.getD k 0))
theorem Gro.pos {w : World} (h : Gro w) : 0 < w.heap.size := by
  have h0 := (h 0 (by omega)).1
  exact World.block_lt_of_cell? w _ h0
theorem Gro.under {w w' : World} (h : Gro w) (hb : Below w.heap.size w w') : Gro w' := fun k hk => by
  obtain ⟨a, b⟩ := h k hk
  exact ⟨(hb.cell (p := ⟨0, k * 2, none⟩) h.pos).trans a, (hb.cell (p := ⟨0, k * 2 + 1, none⟩) h.pos).trans b⟩
/-- Both tables. -/
structure Env (w : World) : Prop where
  tab : Tab w
  gro : Gro w
theorem Env.under {w w' : World} (h : Env w) (hb : Below w.heap.size w w') : Env w' := ⟨h.tab.under hb, h.gro.under hb⟩
set_option maxHeartbeats 1000000 in
theorem within_any (v a b : Int) (w : World) :
    Calls Tryd.prog 26 #[.int .i64 v, .agg #[.int .i64 a, .int .i64 b]] w fun e w' => e = .returned (.bool (decide (a ≤ v ∧ v ≤ b))) ∧ Below w.heap.size w w' := by
  have b0 : Below w.heap.size w (w.alloc (.cells #[.int .i64 a, .int .i64 b] 58)) := (Below.refl _ _).alloc (Nat.le_refl _) _
  have r0 := Row.new w #[.int .i64 a, .int .i64 b] 58
  by_cases h1 : a ≤ v
  · by_cases h2 : v ≤ b
    · have HD : Hid (decide (a ≤ v ∧ v ≤ b) = true) := Lib.hid (decide_eq_true ⟨h1, h2⟩)
      go_enter Tryd.func26, Tryd.ntmps26
      go_upto_region 1 with fail
      refine forget (fun Y => Below w.heap.size w Y ∧ Row Y w.heap.size 58 #[.int .i64 a, .int .i64 b]) ⟨b0, r0⟩ ?_
      clear b0 r0
      rintro Y ⟨bY, rY⟩
      obtain ⟨p0, p1⟩ := row2 rY
      have BY := Lib.hid bY; clear bY rY
      go_wp2_with fail
      go_ret
      exact ⟨ret_bool (by first | exact HD.out.symm | (simp; omega)), BY.out⟩
    · have HD : Hid (decide (a ≤ v ∧ v ≤ b) = false) := Lib.hid (decide_eq_false fun h => h2 h.2)
      go_enter Tryd.func26, Tryd.ntmps26
      go_upto_region 1 with fail
      refine forget (fun Y => Below w.heap.size w Y ∧ Row Y w.heap.size 58 #[.int .i64 a, .int .i64 b]) ⟨b0, r0⟩ ?_
      clear b0 r0
      rintro Y ⟨bY, rY⟩
      obtain ⟨p0, p1⟩ := row2 rY
      have BY := Lib.hid bY; clear bY rY
      go_wp2_with fail
      go_ret
      exact ⟨ret_bool (by first | exact HD.out.symm | (simp; omega)), BY.out⟩
  · have HD : Hid (decide (a ≤ v ∧ v ≤ b) = false) := Lib.hid (decide_eq_false fun h => h1 h.1)
    go_enter Tryd.func26, Tryd.ntmps26
    go_upto_region 1 with fail
    refine forget (fun Y => Below w.heap.size w Y ∧ Row Y w.heap.size 58 #[.int .i64 a, .int .i64 b]) ⟨b0, r0⟩ ?_
    clear b0 r0
    rintro Y ⟨bY, rY⟩
    obtain ⟨p0, p1⟩ := row2 rY
    have BY := Lib.hid bY; clear bY rY
    go_wp2_with fail
    go_ret
    exact ⟨ret_bool (by first | exact HD.out.symm | (simp; omega)), BY.out⟩
set_option maxHeartbeats 2000000 in
theorem gross_any (c v : Int) (w : World) (hE : Env w) :
    Calls Tryd.prog 16 #[rdV c v] w fun e w' => e = .returned (.bool (Lm.gr c v)) ∧ Below w.heap.size w w' := by
  have b0 : Below w.heap.size w (w.alloc (.cells #[.int .i64 c, .int .i64 v] 30)) := (Below.refl _ _).alloc (Nat.le_refl _) _
  have r0 := Row.new w #[.int .i64 c, .int .i64 v] 30
  have hE0 := hE.under b0
  by_cases h : Elt.Ex c
  · obtain ⟨k, rfl, hk⟩ : ∃ k : Nat, c = (k : Int) + 1 ∧ k < 11 := ⟨(c - 1).toNat, by unfold Elt.Ex at h; omega, by unfold Elt.Ex at h; omega⟩
    have HD : Hid (decide (Lm.gls.getD k 0 ≤ v ∧ v ≤ Lm.gms.getD k 0) = Lm.gr ((k : Int) + 1) v) := Lib.hid (by
      unfold Lm.gr Lm.gl Lm.gm
      rw [show ((k : Int) + 1 - 1).toNat = k by omega]
      exact decide_eq_decide.2 ⟨fun q => ⟨h, q⟩, fun q => q.2⟩)
    go_enter Tryd.func16, Tryd.ntmps16
    go_wp2_with fail
    refine (describe_yes ((k : Int) + 1) _ h hE0.tab).mono ?_
    rintro e w1 ⟨rfl, g1⟩
    have E1 := hE0.under g1
    go_upto_region 4 with fail
    refine forget (fun Y => Below w.heap.size w Y ∧ Row Y w.heap.size 30 #[.int .i64 ((k : Int) + 1), .int .i64 v] ∧ Env Y) ⟨(b0.trans (g1.mono (by simp))).alloc (Nat.le_trans b0.size g1.size) _, (r0.under g1).alloc _, E1.under ((Below.refl _ _).alloc (Nat.le_refl _) _)⟩ ?_
    clear g1 b0 r0 hE0 E1 h hE
    rintro Y ⟨bY, rY, eY⟩
    obtain ⟨p0, p1⟩ := row2 rY
    obtain ⟨q0, q1⟩ := eY.gro k hk
    have hp := eY.gro.pos
    have k0 : (0 : Int) ≤ (k : Int) := by omega
    have k1 : (k : Int) < 11 := by omega
    have x1 : IntKind.i64.wrap (k : Int) = (k : Int) := IntWalk.i64_in _ (by omega)
    generalize ha : Lm.gls.getD k 0 = a at *
    generalize hb : Lm.gms.getD k 0 = b at *
    have RY := Lib.hid rY
    have BY := Lib.hid bY
    have QY : Hid (∀ Z, Below Y.heap.size Y Z → Z.cell? ⟨0, k * 2, none⟩ = some (.int .i64 a) ∧ Z.cell? ⟨0, k * 2 + 1, none⟩ = some (.int .i64 b)) := Lib.hid (fun Z hZ => by
      have := (eY.gro.under hZ) k hk
      rw [ha, hb] at this
      exact this)
    clear bY rY eY ha hb
    refine wp_region_held_drew (S := fun w' : World => w'.cell? ⟨w.heap.size, 0, none⟩ = some (.int .i64 ((k : Int) + 1)) ∧ w'.cell? ⟨w.heap.size, 1, none⟩ = some (.int .i64 v) ∧ w'.cell? ⟨0, k * 2, none⟩ = some (.int .i64 a) ∧ w'.cell? ⟨0, k * 2 + 1, none⟩ = some (.int .i64 b)) (by kernel_rfl) ⟨p0, p1, q0, q1⟩ (fun hHeld => ?_)
    refine wpAnyH_take (i := 0) (v := ?_) rfl (by kernel_rfl) (by kernel_rfl) (by kernel_rfl) (fun _ _ _ h => h) (Or.inl ⟨by rfl, ?_⟩) (by assumption) ?_
    case refine_2 => (intro wx hSx; (try dsimp only at hSx); go_simp; first | done | with_reducible rfl)
    ((try simp only [Act.put]); (try simp only [List.setIfInBounds_toArray]); (try simp only [List.set_cons_succ]); (try simp only [List.set_cons_zero]))
    refine wpAnyH_take (i := 1) (v := ?_) rfl (by kernel_rfl) (by kernel_rfl) (by kernel_rfl) (fun _ _ _ h => h) (Or.inl ⟨by rfl, ?_⟩) (by assumption) ?_
    case refine_2 => (intro wx hSx; (try dsimp only at hSx); go_simp; first | done | with_reducible rfl)
    ((try simp only [Act.put]); (try simp only [List.setIfInBounds_toArray]); (try simp only [List.set_cons_succ]); (try simp only [List.set_cons_zero]))
    refine wpAnyH_take (i := 2) (v := ?_) rfl (by kernel_rfl) (by kernel_rfl) (by kernel_rfl) (fun _ _ _ h => h) (Or.inl ⟨by rfl, ?_⟩) (by assumption) ?_
    case refine_2 => (intro wx hSx; (try dsimp only at hSx); go_simp; first | done | with_reducible rfl)
    ((try simp only [Act.put]); (try simp only [List.setIfInBounds_toArray]); (try simp only [List.set_cons_succ]); (try simp only [List.set_cons_zero]))
    refine wpAnyH_take (i := 3) (v := ?_) rfl (by kernel_rfl) (by kernel_rfl) (by kernel_rfl) (fun _ _ _ h => h) (Or.inl ⟨by rfl, ?_⟩) (by assumption) ?_
    case refine_2 => (intro wx hSx; (try dsimp only at hSx); go_simp; first | done | with_reducible rfl)
    ((try simp only [Act.put]); (try simp only [List.setIfInBounds_toArray]); (try simp only [List.set_cons_succ]); (try simp only [List.set_cons_zero]))
    refine wpAnyH_take (i := 4) (v := ?_) rfl (by kernel_rfl) (by kernel_rfl) (by kernel_rfl) (fun _ _ _ h => h) (Or.inl ⟨by rfl, ?_⟩) (by assumption) ?_
    case refine_2 => (intro wx hSx; (try dsimp only at hSx); go_simp; first | done | with_reducible rfl)
    ((try simp only [Act.put]); (try simp only [List.setIfInBounds_toArray]); (try simp only [List.set_cons_succ]); (try simp only [List.set_cons_zero]))
    refine wpAnyH_take (i := 5) (v := ?_) rfl (by kernel_rfl) (by kernel_rfl) (by kernel_rfl) (fun _ _ _ h => h) (Or.inl ⟨by rfl, ?_⟩) (by assumption) ?_
    case refine_2 => (intro wx hSx; (try dsimp only at hSx); go_simp; first | done | with_reducible rfl)
    ((try simp only [Act.put]); (try simp only [List.setIfInBounds_toArray]); (try simp only [List.set_cons_succ]); (try simp only [List.set_cons_zero]))
    refine wpAnyH_take (i := 6) (v := ?_) rfl (by kernel_rfl) (by kernel_rfl) (by kernel_rfl) (fun _ _ _ h => h) (Or.inl ⟨by rfl, ?_⟩) (by assumption) ?_
    case refine_2 => (intro wx hSx; (try dsimp only at hSx); go_simp; first | done | with_reducible rfl)
    ((try simp only [Act.put]); (try simp only [List.setIfInBounds_toArray]); (try simp only [List.set_cons_succ]); (try simp only [List.set_cons_zero]))
    refine wpAnyH_ready (rs := [7]) (by kernel_rfl) (by simp) ?_
    refine AllReadyH.cons rfl (fun K hK => ?_) AllReadyH.nil
    go_simp
    refine (within_any v a b Y.drew).mono ?_
    rintro e w3 ⟨rfl, g3⟩
    have g3' := undrew g3
    go_wp2_with fail
    clear hHeld
    refine hK.out _ _ ⟨(row2 (RY.out.under g3')).1, (row2 (RY.out.under g3')).2, (QY.out _ g3').1, (QY.out _ g3').2⟩ (fun hHeld => ?_)
    clear hK K
    ((try simp only [Act.put]); (try simp only [List.setIfInBounds_toArray]); (try simp only [List.set_cons_succ]); (try simp only [List.set_cons_zero]))
    refine wpAnyH_take (i := 8) (oi := ⟨some 2, _, _, _, _, none⟩) (v := ?_) rfl (by kernel_rfl) (by kernel_rfl) (by kernel_rfl) (fun _ _ _ h => h) (Or.inl ⟨by rfl, ?_⟩) (by assumption) ?_
    case refine_2 => (intro wx hSx; (try dsimp only at hSx); go_simp; first | done | with_reducible rfl)
    ((try simp only [Act.put]); (try simp only [List.setIfInBounds_toArray]); (try simp only [List.set_cons_succ]); (try simp only [List.set_cons_zero]))
    refine wpAnyH_done (by kernel_rfl) ?_ _
    have B3 := Lib.hid (BY.out.trans (g3'.mono BY.out.size))
    clear g3 g3' p0 p1 q0 q1
    go_wp2_with fail
    go_ret
    exact ⟨ret_bool (by first | exact HD.out | (rw [← HD.out]; simp)), B3.out⟩
  · have HD : Hid (Lm.gr c v = false) := Lib.hid (Lm.gr_no fun q => h q.1)
    go_enter Tryd.func16, Tryd.ntmps16
    go_wp2_with fail
    refine (describe_no c _ h).mono ?_
    rintro e w1 ⟨rfl, g1⟩
    go_wp2_with fail
    go_ret
    exact ⟨ret_bool HD.out.symm, (b0.trans (g1.mono (by simp))).alloc (Nat.le_trans b0.size g1.size) _⟩
end Go.Proofs.YtngbjccfmglbaaaDoor

