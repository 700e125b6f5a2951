/- Texts of this proof. -/
import Derived.Test.YtejoabaanclcbaaGreatTkB
namespace Go.Proofs.YtejoabaanclcbaaGreat.Tk
open Go.RowKit

/-- The times ascend strictly up to an index. -/
def ascTo (L : List Sg) (k : Nat) : Prop := ∀ i, i + 1 < k → ∀ h : i + 1 < L.length, L[i].t < L[i + 1].t
def ascP (L : List Sg) : Prop := ascTo L L.length
/-- What ascending answers. -/
def AscO (L : List Sg) (w : World) (e : Ending) (w' : World) : Prop := (∃ b : Bool, e = .returned (.bool b) ∧ (b = true ↔ ascP L)) ∧ Below w.heap.size w w'
set_option maxRecDepth 100000 in
set_option maxHeartbeats 4000000 in
theorem ascending_any (v : Value) (L : List Sg) (w : World) (hL : SgIn w v L) (hl : L.length ≤ 100000) :
    Calls Tryz.prog 35 #[v] w (AscO L w) := by
  obtain ⟨A, cap, rfl, hc1, hc2, hat⟩ := hL
  have HA := Lib.hid hat; clear hat
  go_enter Tryz.func35, Tryz.ntmps35
  go_wp2_with fail
  go_loopw [3] (fun t wr => ∃ m : Nat, m ≤ L.length ∧ t = .int .i64 ((m : Int) + 1) ∧ Hid (ascTo L (m + 1)) ∧ Hid (Below w.heap.size w wr)) (fun t _ => L.length + 1 - (intOf t).toNat)
  case atStart => exact ⟨0, by omega, rfl, Lib.hid (fun i hi => by omega), Lib.hid (Below.refl _ _)⟩
  case round =>
    obtain ⟨m, hm, rfl, HT, HB⟩ := hrel
    by_cases hlt : m + 1 < L.length
    · obtain ⟨g, rfl, hg, h0⟩ := HA.out m (by omega)
      obtain ⟨g', e', hg', h1⟩ := HA.out (m + 1) hlt
      obtain rfl : g = g' := by injection e' with e'; injection e'
      clear e' hg'
      replace h0 := h0.under hg HB.out
      replace h1 := h1.under hg HB.out
      have HST := Lib.hid (show L[m].t < L[m + 1].t → ascTo L (m + 1 + 1) from fun h i hi hl' => by
        rcases (by omega : i + 1 < m + 1 ∨ i = m) with hi' | rfl
        · exact HT.out i hi' hl'
        · exact h)
      have HNO := Lib.hid (show ¬ L[m].t < L[m + 1].t → ¬ ascP L from fun h h' => h (h' m hlt hlt))
      obtain ⟨-, p1, -, -⟩ := h0
      obtain ⟨-, q1, -, -⟩ := h1
      generalize L[m].t = x at *
      generalize L[m + 1].t = y at *
      have k0 : (m : Int) + 1 < (L.length : Int) := by omega
      have k2 : (0 : Int) ≤ (m : Int) := by omega
      have k3 : (m : Int) < (L.length : Int) := by omega
      have k4 : (0 : Int) ≤ (m : Int) + 1 := by omega
      have kw : IntKind.i64.wrap (m : Int) = m := IntWalk.i64_in _ (by omega)
      go_upto_region 4 with fail
      refine wp_region_held_drew (S := fun w' : World => w'.cell? ⟨g, m * 4 + 1, none⟩ = some (.int .i64 x) ∧ w'.cell? ⟨g, (m + 1) * 4 + 1, none⟩ = some (.int .i64 y)) (by kernel_rfl) ⟨p1, q1⟩ (fun hHeld => ?_)
      have hx1 : ((m : Int) + 1 - 1) = (m : Int) := by omega
      refine wpAnyH_take (i := 0) (oi := ⟨some 10, _, _, _, _, none⟩) (v := ?_) rfl (by kernel_rfl) (by kernel_rfl) (by kernel_rfl) (fun _ _ _ h => h) (Or.inl ⟨by rfl, ?_⟩) (by assumption) ?_
      case refine_2 => (intro wx hSx; (try dsimp only at hSx); go_simp; first | done | with_reducible rfl)
      ((try simp only [Act.put]); (try simp only [List.setIfInBounds_toArray]); (try simp only [List.set_cons_succ]); (try simp only [List.set_cons_zero]))
      refine wpAnyH_take (i := 1) (oi := ⟨some 11, _, _, _, _, none⟩) (v := ?_) rfl (by kernel_rfl) (by kernel_rfl) (by kernel_rfl) (fun _ _ _ h => h) (Or.inl ⟨by rfl, ?_⟩) (by assumption) ?_
      case refine_2 => (intro wx hSx; (try dsimp only at hSx); go_simp; first | done | with_reducible rfl)
      ((try simp only [Act.put]); (try simp only [List.setIfInBounds_toArray]); (try simp only [List.set_cons_succ]); (try simp only [List.set_cons_zero]))
      refine wpAnyH_take (i := 2) (oi := ⟨some 12, _, _, _, _, none⟩) (v := ?_) rfl (by kernel_rfl) (by kernel_rfl) (by kernel_rfl) (fun _ _ _ h => h) (Or.inl ⟨by rfl, ?_⟩) (by assumption) ?_
      case refine_2 => (intro wx hSx; (try dsimp only at hSx); go_simp; first | done | with_reducible rfl)
      ((try simp only [Act.put]); (try simp only [List.setIfInBounds_toArray]); (try simp only [List.set_cons_succ]); (try simp only [List.set_cons_zero]))
      refine wpAnyH_take (i := 3) (oi := ⟨some 13, _, _, _, _, none⟩) (v := ?_) rfl (by kernel_rfl) (by kernel_rfl) (by kernel_rfl) (fun _ _ _ h => h) (Or.inl ⟨by rfl, ?_⟩) (by assumption) ?_
      case refine_2 => (intro wx hSx; (try dsimp only at hSx); go_simp; first | done | with_reducible rfl)
      ((try simp only [Act.put]); (try simp only [List.setIfInBounds_toArray]); (try simp only [List.set_cons_succ]); (try simp only [List.set_cons_zero]))
      refine wpAnyH_take (i := 4) (oi := ⟨some 14, _, _, _, _, none⟩) (v := ?_) rfl (by kernel_rfl) (by kernel_rfl) (by kernel_rfl) (fun _ _ _ h => h) (Or.inl ⟨by rfl, ?_⟩) (by assumption) ?_
      case refine_2 => (intro wx hSx; (try dsimp only at hSx); go_simp; first | done | with_reducible rfl)
      ((try simp only [Act.put]); (try simp only [List.setIfInBounds_toArray]); (try simp only [List.set_cons_succ]); (try simp only [List.set_cons_zero]))
      refine wpAnyH_take (i := 5) (oi := ⟨some 15, _, _, _, _, none⟩) (v := ?_) rfl (by kernel_rfl) (by kernel_rfl) (by kernel_rfl) (fun _ _ _ h => h) (Or.inl ⟨by rfl, ?_⟩) (by assumption) ?_
      case refine_2 => (intro wx hSx; (try dsimp only at hSx); go_simp; first | done | with_reducible rfl)
      ((try simp only [Act.put]); (try simp only [List.setIfInBounds_toArray]); (try simp only [List.set_cons_succ]); (try simp only [List.set_cons_zero]))
      refine wpAnyH_take (i := 6) (oi := ⟨some 16, _, _, _, _, none⟩) (v := ?_) rfl (by kernel_rfl) (by kernel_rfl) (by kernel_rfl) (fun _ _ _ h => h) (Or.inl ⟨by rfl, ?_⟩) (by assumption) ?_
      case refine_2 => (intro wx hSx; (try dsimp only at hSx); go_simp; first | done | with_reducible rfl)
      ((try simp only [Act.put]); (try simp only [List.setIfInBounds_toArray]); (try simp only [List.set_cons_succ]); (try simp only [List.set_cons_zero]))
      refine wpAnyH_take (i := 7) (oi := ⟨some 17, _, _, _, _, none⟩) (v := ?_) rfl (by kernel_rfl) (by kernel_rfl) (by kernel_rfl) (fun _ _ _ h => h) (Or.inl ⟨by rfl, ?_⟩) (by assumption) ?_
      case refine_2 => (intro wx hSx; (try dsimp only at hSx); go_simp; first | done | with_reducible rfl)
      ((try simp only [Act.put]); (try simp only [List.setIfInBounds_toArray]); (try simp only [List.set_cons_succ]); (try simp only [List.set_cons_zero]))
      refine wpAnyH_take (i := 8) (oi := ⟨some 18, _, _, _, _, none⟩) (v := ?_) rfl (by kernel_rfl) (by kernel_rfl) (by kernel_rfl) (fun _ _ _ h => h) (Or.inl ⟨by rfl, ?_⟩) (by assumption) ?_
      case refine_2 => (intro wx hSx; (try dsimp only at hSx); go_simp; first | done | with_reducible rfl)
      ((try simp only [Act.put]); (try simp only [List.setIfInBounds_toArray]); (try simp only [List.set_cons_succ]); (try simp only [List.set_cons_zero]))
      refine wpAnyH_take (i := 9) (oi := ⟨some 19, _, _, _, _, none⟩) (v := ?_) rfl (by kernel_rfl) (by kernel_rfl) (by kernel_rfl) (fun _ _ _ h => h) (Or.inl ⟨by rfl, ?_⟩) (by assumption) ?_
      case refine_2 => (intro wx hSx; (try dsimp only at hSx); go_simp; first | done | with_reducible rfl)
      ((try simp only [Act.put]); (try simp only [List.setIfInBounds_toArray]); (try simp only [List.set_cons_succ]); (try simp only [List.set_cons_zero]))
      refine wpAnyH_take (i := 10) (oi := ⟨some 20, _, _, _, _, none⟩) (v := ?_) rfl (by kernel_rfl) (by kernel_rfl) (by kernel_rfl) (fun _ _ _ h => h) (Or.inl ⟨by rfl, ?_⟩) (by assumption) ?_
      case refine_2 => (intro wx hSx; (try dsimp only at hSx); go_simp; first | done | with_reducible rfl)
      ((try simp only [Act.put]); (try simp only [List.setIfInBounds_toArray]); (try simp only [List.set_cons_succ]); (try simp only [List.set_cons_zero]))
      refine wpAnyH_take (i := 11) (oi := ⟨some 21, _, _, _, _, none⟩) (v := ?_) rfl (by kernel_rfl) (by kernel_rfl) (by kernel_rfl) (fun _ _ _ h => h) (Or.inl ⟨by rfl, ?_⟩) (by assumption) ?_
      case refine_2 => (intro wx hSx; (try dsimp only at hSx); go_simp; first | done | with_reducible rfl)
      ((try simp only [Act.put]); (try simp only [List.setIfInBounds_toArray]); (try simp only [List.set_cons_succ]); (try simp only [List.set_cons_zero]))
      refine wpAnyH_done (by kernel_rfl) ?_ _
      have HB2 := Lib.hid (HB.out.trans (show Below w.heap.size wr wr.drew from ⟨rfl, rfl, rfl, Nat.le_refl _, fun _ _ => rfl⟩))
      clear hHeld p1 q1
      by_cases hxy : x < y
      · have hc : ¬ y ≤ x := by omega
        have HS2 := Lib.hid (HST.out hxy)
        clear HST HNO
        go_wp2_with fail
        go_roundw
        case rel => exact ⟨m + 1, by omega, by go_num, HS2, HB2⟩
        case measure => simp [intOf]; omega
      · have hc : y ≤ x := by omega
        have HN := Lib.hid (HNO.out hxy)
        clear HST HNO
        go_wp2_with fail
        go_ret
        exact ⟨⟨false, rfl, ⟨fun h => (by cases h), fun h => absurd h HN.out⟩⟩, HB2.out⟩
    · have k0 : ¬ (m : Int) + 1 < (L.length : Int) := by omega
      have HY := Lib.hid (show ascP L from fun i hi hl' => HT.out i (by omega) hl')
      go_wp2_with fail
      go_ret
      exact ⟨⟨true, rfl, ⟨fun _ => HY.out, fun _ => rfl⟩⟩, HB.out⟩
/-- A station that was at one place can have come to another. -/
noncomputable def pls (h : Int) (x y : Sg) : Bool := decide (x.t < y.t ∧ 1440 * (hp x.nd y.nd : Int) ≤ h * (y.t - x.t) + 1440)
/-- A sighting in the range. -/
def Gd (x : Sg) : Prop := x.nd < 642 ∧ 0 ≤ x.t ∧ x.t ≤ 52595999
set_option maxRecDepth 100000 in
set_option maxHeartbeats 4000000 in
theorem plausible_any (nx : ByteArray) (tx : Int) (dx ix : Nat) (ny : ByteArray) (ty : Int) (dy iy : Nat) (h : Int) (w : World) (hx : Gd ⟨nx, tx, dx, ix⟩) (hy : Gd ⟨ny, ty, dy, iy⟩) (hh : 0 ≤ h ∧ h ≤ 1000) :
    Calls Tryz.prog 45 #[.agg #[.string nx, .int .i64 tx, .int .i64 dx, .int .i64 ix], .agg #[.string ny, .int .i64 ty, .int .i64 dy, .int .i64 iy], .int .i64 h] w fun e w' => e = .returned (.bool (pls h ⟨nx, tx, dx, ix⟩ ⟨ny, ty, dy, iy⟩)) ∧ Below w.heap.size w w' := by
  obtain ⟨hx1, hx2, hx3⟩ := hx
  obtain ⟨hy1, hy2, hy3⟩ := hy
  obtain ⟨h1, h2⟩ := hh
  simp only at hx1 hx2 hx3 hy1 hy2 hy3
  go_enter Tryz.func45, Tryz.ntmps45
  go_upto_region 1 with fail
  refine forget (fun Y => Below w.heap.size w Y ∧ Row Y w.heap.size 74 #[.string nx, .int .i64 tx, .int .i64 dx, .int .i64 ix] ∧ Row Y (w.heap.size + 1) 74 #[.string ny, .int .i64 ty, .int .i64 dy, .int .i64 iy])
    ⟨((Below.refl _ _).alloc (Nat.le_refl _) _).alloc (by simp) _, (Row.new _ _ _).alloc _, Row.newAt (by simp)⟩ ?_
  generalize w.heap.size + 1 = gy at *
  obtain ⟨gx, hgx⟩ : ∃ g, w.heap.size = g := ⟨_, rfl⟩
  rintro Y ⟨hb, rx, ry⟩
  rw [hgx] at rx
  rw [hgx]
  have HB := Lib.hid hb; clear hb hgx
  obtain ⟨a0, a1, a2, a3⟩ := row4 rx
  obtain ⟨b0, b1, b2, b3⟩ := row4 ry
  have HX := Lib.hid rx; clear rx
  have HY := Lib.hid ry; clear ry
  obtain ⟨z, hz⟩ : ∃ z, pls h ⟨nx, tx, dx, ix⟩ ⟨ny, ty, dy, iy⟩ = z := ⟨_, rfl⟩
  have HZ := Lib.hid hz
  clear hz
  by_cases ht : ty ≤ tx
  · have HF := Lib.hid (show z = false by rw [← HZ.out]; unfold pls; rw [decide_eq_false_iff_not]; simp only; omega)
    go_wp2_with fail
    go_ret
    exact ⟨by rw [HZ.out, HF.out]; rfl, HB.out⟩
  · have hd := hp_le hx1 hy1
    have HH := Lib.hid (fun W => hops8_any dx dy W hx1 hy1)
    have HZ2 := Lib.hid (show z = decide (1440 * (hp dx dy : Int) ≤ h * (ty - tx) + 1440) by rw [← HZ.out]; unfold pls; simp only; rw [decide_eq_decide]; exact ⟨fun h => h.2, fun h => ⟨by omega, h⟩⟩)
    generalize hp dx dy = d at *
    go_wp2_with fail
    refine (HH.out _).mono ?_
    rintro e w1 ⟨rfl, hb1⟩
    have HB1 := Lib.hid (HB.out.trans (hb1.mono HB.out.size))
    clear a0 a1 a2 a3 b0 b1 b2 b3
    obtain ⟨a0, a1, a2, a3⟩ := row4 (HX.out.under hb1)
    obtain ⟨b0, b1, b2, b3⟩ := row4 (HY.out.under hb1)
    have hm0 : 0 ≤ h * (ty - tx) := Int.mul_nonneg h1 (by omega)
    have hm1 : h * (ty - tx) ≤ 1000 * 52595999 := Int.mul_le_mul h2 (by omega) (by omega) (by omega)
    have w0 : IntKind.i64.wrap (ty - tx) = ty - tx := IntWalk.i64_in _ (by omega)
    have w1' : IntKind.i64.wrap (h * (ty - tx)) = h * (ty - tx) := by
      generalize h * (ty - tx) = q at *
      exact IntWalk.i64_in _ (by omega)
    have w2 : IntKind.i64.wrap (h * (ty - tx) + 1440) = h * (ty - tx) + 1440 := by
      generalize h * (ty - tx) = q at *
      exact IntWalk.i64_in _ (by omega)
    have w3 : IntKind.i64.wrap (1440 * (d : Int)) = 1440 * (d : Int) := IntWalk.i64_in _ (by omega)
    clear hb1 HH
    go_wp2_with fail
    go_ret
    exact ⟨by rw [HZ.out, HZ2.out]; rfl, HB1.out⟩
end Go.Proofs.YtejoabaanclcbaaGreat.Tk


namespace Go.Proofs.YtejoabaanclcbaaGreat.Tk
open Go.RowKit

/-- What a report says, with a number. -/
noncomputable def sgr (r : Rq) (i : Nat) : Sg := ⟨r.nm, r.t, nod r.F r.A r.B r.C, i⟩
theorem sgr_gd {r : Rq} {i : Nat} (h : okr r = true) : Gd (sgr r i) := by
  unfold okr at h
  obtain ⟨h1, h2⟩ := Bool.and_eq_true_iff.1 h
  have := of_decide_eq_true h2
  exact ⟨nod_lt h1, this.1, this.2⟩
end Go.Proofs.YtejoabaanclcbaaGreat.Tk

