/- The contract of newLattice: the walk. -/
import Derived.Test.YtehehhehilgnkaaLatA
import Derived.RegionTactic
import Derived.Deep.RegionHeld3
namespace Go.Proofs.Ytehehhehilgnkaa
open Go.RowKit Go.Maps

/-- What newLattice leaves. -/
def Made (W : World) (n : Nat) (e : Ending) (w : World) : Prop := ∃ gl gm, e = .returned (.pointer (some ⟨gl, 0, none⟩)) ∧ Mks W n gl gm (Lat.fin n) w
theorem mks_index {W w : World} {n gl gm f a b i : Nat} {s : Lat.St} (h : Mk W n gl gm (Lat.step n s (f, a, b)).rv (Lat.step n s (f, a, b)).cnt (Lat.step n s (f, a, b)).bor s.ix w) (hi : (Lat.step n s (f, a, b)).ix = (Lat.off f a b, i) :: s.ix)
    (hf : f < 20) (ha : a ≤ 8) (hb : b ≤ 8) : Mks W n gl gm (Lat.step n s (f, a, b)) (w.setCell ⟨gl, 1 + f * 81 + a * 9 + b, none⟩ (.int .i64 i)) := by
  have := h.index (Lat.off f a b) i (by unfold Lat.off; omega)
  rw [← hi] at this
  have e : Lat.off f a b + 1 = 1 + f * 81 + a * 9 + b := by unfold Lat.off; omega
  rw [e] at this
  exact this
theorem mks_row {W w : World} {n gl gm : Nat} {rv : List Lat.Pt} {cnt : Nat} {bor ix : List (Nat × Nat)} (h : Mk W n gl gm rv cnt bor ix w) (f a b : Nat) (hf : f < 20) (ha : a ≤ 8) (hb : b ≤ 8) : (∃ v, w.cell? ⟨gl, 1 + f * 81 + a * 9 + b, none⟩ = some v) ∧ w.frozen? ⟨gl, 1 + f * 81 + a * 9 + b, none⟩ = false := by
  obtain ⟨cs, g, cap, h1, h2, h3, h4, h5⟩ := h.lat
  refine ⟨⟨.int .i64 ((Lat.look (f * 81 + a * 9 + b) ix).getD 0 : Nat), (h1.cell _).trans ?_⟩, h1.thaw _⟩
  rw [show 1 + f * 81 + a * 9 + b = (f * 81 + a * 9 + b) + 1 by omega]
  exact h5 _ (by omega)
theorem started {w w1 : World} {n : Nat} (hown : w1.ownsRow w.heap.size 23 4 (.slice (some ⟨w.heap.size, 0, none⟩) 0 (cn n)) 0 []) (hg : w.grownBy w1 none):
    ∃ gl gm, gl = w1.heap.size ∧ gm = w1.heap.size + 1 ∧ Mks w n gl gm (at3 n 0 0 0) ((w1.alloc (.cells (Try.zeroCells86.setIfInBounds 0 (.slice (some ⟨w.heap.size, 0, none⟩) 0 (cn n))) 86)).alloc (.map #[] 0)) :=
  ⟨_, _, rfl, rfl, mks_start ⟨hg.os, hg.tape, hg.output, hg.size, fun i hi => hg.block i hi (by simp)⟩ hown hg.size⟩
set_option maxRecDepth 100000 in
set_option maxHeartbeats 4000000 in
theorem newLattice_any (n : Nat) (w : World) (h : Lat.frq n) :
    Calls Try.prog 35 #[.int .i64 n] w (Made w n) := by
  have hc := cn_le h
  have hn8 : n ≤ 8 := h.2
  obtain ⟨i0, hi, hz0, hz1, hz2⟩ := info_parts infoPlace
  have hmm := @run_makeMap Try.prog
  go_enter Try.func35, Try.ntmps35
  go_upto_region 3 with (first
    | (go_at_call 12; refine (count_yes _ _ h).mono ?_; rintro e w' ⟨rfl, rfl⟩)
    | (at_make; refine wpList_make_own _ rfl _ _ 30 rfl w.heap.size 23 i0 _ 4 Try.underlying30 hi hz0 hz1 .i64 .i64 _ (cn n) rfl rfl rfl (by rw [hz2]; omega) (by unfold maxLen; omega) (Nat.le_refl _) ?_; intro w1 hown1 hgrow1))
  obtain ⟨gl, gm, e1, e2, M0⟩ := started hown1 hgrow1
  refine forget (fun Y => Mks w n gl gm (at3 n 0 0 0) Y) M0 ?_
  rw [← e1, ← show gm = gl + 1 by rw [e2, e1]]
  clear M0 e1 e2 hown1 hgrow1 hmm hi hz0 hz1 hz2
  rintro Y M0
  have hn0 : 1 ≤ (n : Int) ∧ (n : Int) ≤ 8 := by unfold Lat.frq at h; omega
  obtain ⟨hn1, hn2⟩ := hn0
  have HF := Lib.hid h; clear h
  go_wp2_with fail
  go_loopw [14] (fun t wr => ∃ f : Nat, f ≤ 20 ∧ t = .int .i64 f ∧ Mks w n gl gm (at3 n f 0 0) wr) (fun t _ => 20 - (intOf t).toNat)
  case atStart => exact ⟨0, by omega, rfl, M0⟩
  case round =>
    clear M0
    obtain ⟨f, hf, rfl, M⟩ := hrel
    by_cases hlt : f < 20
    · have HM := Lib.hid M; clear M
      have f1 : (f : Int) < 20 := by omega
      go_wp2_with fail
      go_loopw [19] (fun t wr => ∃ a : Nat, a ≤ n + 1 ∧ t = .int .i64 a ∧ Mks w n gl gm (at3 n f a 0) wr) (fun t _ => n + 1 - (intOf t).toNat)
      case atStart => exact ⟨0, by omega, rfl, HM.out⟩
      case round =>
        clear HM
        obtain ⟨a, ha, rfl, M⟩ := hrel
        by_cases hla : a < n + 1
        · have HM := Lib.hid M; clear M
          have a1 : (a : Int) < (n : Int) + 1 := by omega
          go_wp2_with fail
          go_loopw [26] (fun t wr => ∃ b : Nat, b ≤ n + 1 - a ∧ t = .int .i64 b ∧ Mks w n gl gm (at3 n f a b) wr) (fun t _ => n + 1 - a - (intOf t).toNat)
          case atStart => exact ⟨0, by omega, rfl, HM.out⟩
          case round =>
            clear HM
            obtain ⟨b, hb, rfl, M⟩ := hrel
            by_cases hlb : b < n + 1 - a
            · have b1 : (b : Int) < (n : Int) + 1 - (a : Int) := by omega
              have a9 : (a : Int) < 9 := by omega
              have b9 : (b : Int) < 9 := by omega
              have HC := Lib.hid (show (n : Int) - (a : Int) - (b : Int) = ((n - a - b : Nat) : Int) by omega)
              have x1 : IntKind.i64.wrap ((n : Int) - (a : Int)) = (n : Int) - (a : Int) := IntWalk.i64_in _ (by omega)
              have x2 : IntKind.i64.wrap ((n : Int) - (a : Int) - (b : Int)) = (n : Int) - (a : Int) - (b : Int) := IntWalk.i64_in _ (by omega)
              have HM := Lib.hid M; clear M
              go_upto_region 12 with fail
              refine wp_region_held_drew (S := fun _ : World => True) (by kernel_rfl) trivial (fun hHeld => ?_)
              refine wpAnyH_take (i := 0) (v := ?_) rfl (by kernel_rfl) (by kernel_rfl) (by kernel_rfl) (fun _ _ _ h => h) (Or.inl ⟨by rfl, ?_⟩) (by assumption) ?_
              case refine_2 => (intro wx hSx; (try dsimp only at hSx); go_simp; first | done | with_reducible rfl)
              try simp only [Act.put, List.setIfInBounds_toArray, List.set_cons_zero, List.set_cons_succ]
              refine wpAnyH_take (i := 1) (v := ?_) rfl (by kernel_rfl) (by kernel_rfl) (by kernel_rfl) (fun _ _ _ h => h) (Or.inl ⟨by rfl, ?_⟩) (by assumption) ?_
              case refine_2 => (intro wx hSx; (try dsimp only at hSx); go_simp; first | done | with_reducible rfl)
              try simp only [Act.put, List.setIfInBounds_toArray, List.set_cons_zero, List.set_cons_succ]
              refine wpAnyH_take (i := 2) (v := ?_) rfl (by kernel_rfl) (by kernel_rfl) (by kernel_rfl) (fun _ _ _ h => h) (Or.inl ⟨by rfl, ?_⟩) (by assumption) ?_
              case refine_2 => (intro wx hSx; (try dsimp only at hSx); go_simp; first | done | with_reducible rfl)
              try simp only [Act.put, List.setIfInBounds_toArray, List.set_cons_zero, List.set_cons_succ]
              refine wpAnyH_take (i := 3) (v := ?_) rfl (by kernel_rfl) (by kernel_rfl) (by kernel_rfl) (fun _ _ _ h => h) (Or.inl ⟨by rfl, ?_⟩) (by assumption) ?_
              case refine_2 => (intro wx hSx; (try dsimp only at hSx); go_simp; first | done | with_reducible rfl)
              try simp only [Act.put, List.setIfInBounds_toArray, List.set_cons_zero, List.set_cons_succ]
              refine wpAnyH_take (i := 4) (v := ?_) rfl (by kernel_rfl) (by kernel_rfl) (by kernel_rfl) (fun _ _ _ h => h) (Or.inl ⟨by rfl, ?_⟩) (by assumption) ?_
              case refine_2 => (intro wx hSx; (try dsimp only at hSx); go_simp; first | done | with_reducible rfl)
              try simp only [Act.put, List.setIfInBounds_toArray, List.set_cons_zero, List.set_cons_succ]
              refine wpAnyH_take (i := 5) (v := ?_) rfl (by kernel_rfl) (by kernel_rfl) (by kernel_rfl) (fun _ _ _ h => h) (Or.inl ⟨by rfl, ?_⟩) (by assumption) ?_
              case refine_2 => (intro wx hSx; (try dsimp only at hSx); go_simp; first | done | with_reducible rfl)
              try simp only [Act.put, List.setIfInBounds_toArray, List.set_cons_zero, List.set_cons_succ]
              refine wpAnyH_take (i := 6) (v := ?_) rfl (by kernel_rfl) (by kernel_rfl) (by kernel_rfl) (fun _ _ _ h => h) (Or.inl ⟨by rfl, ?_⟩) (by assumption) ?_
              case refine_2 => (intro wx hSx; (try dsimp only at hSx); go_simp; first | done | with_reducible rfl)
              try simp only [Act.put, List.setIfInBounds_toArray, List.set_cons_zero, List.set_cons_succ]
              refine wpAnyH_take (i := 7) (v := ?_) rfl (by kernel_rfl) (by kernel_rfl) (by kernel_rfl) (fun _ _ _ h => h) (Or.inl ⟨by rfl, ?_⟩) (by assumption) ?_
              case refine_2 => (intro wx hSx; (try dsimp only at hSx); go_simp; first | done | with_reducible rfl)
              try simp only [Act.put, List.setIfInBounds_toArray, List.set_cons_zero, List.set_cons_succ]
              refine wpAnyH_take (i := 8) (v := ?_) rfl (by kernel_rfl) (by kernel_rfl) (by kernel_rfl) (fun _ _ _ h => h) (Or.inl ⟨by rfl, ?_⟩) (by assumption) ?_
              case refine_2 => (intro wx hSx; (try dsimp only at hSx); go_simp; first | done | with_reducible rfl)
              try simp only [Act.put, List.setIfInBounds_toArray, List.set_cons_zero, List.set_cons_succ]
              refine wpAnyH_take (i := 9) (v := ?_) rfl (by kernel_rfl) (by kernel_rfl) (by kernel_rfl) (fun _ _ _ h => h) (Or.inl ⟨by rfl, ?_⟩) (by assumption) ?_
              case refine_2 => (intro wx hSx; (try dsimp only at hSx); go_simp; first | done | with_reducible rfl)
              try simp only [Act.put, List.setIfInBounds_toArray, List.set_cons_zero, List.set_cons_succ]
              refine wpAnyH_take (i := 10) (v := ?_) rfl (by kernel_rfl) (by kernel_rfl) (by kernel_rfl) (fun _ _ _ h => h) (Or.inl ⟨by rfl, ?_⟩) (by assumption) ?_
              case refine_2 => (intro wx hSx; (try dsimp only at hSx); go_simp; first | done | with_reducible rfl)
              try simp only [Act.put, List.setIfInBounds_toArray, List.set_cons_zero, List.set_cons_succ]
              refine wpAnyH_take (i := 11) (v := ?_) rfl (by kernel_rfl) (by kernel_rfl) (by kernel_rfl) (fun _ _ _ h => h) (Or.inl ⟨by rfl, ?_⟩) (by assumption) ?_
              case refine_2 => (intro wx hSx; (try dsimp only at hSx); go_simp; first | done | with_reducible rfl)
              try simp only [Act.put, List.setIfInBounds_toArray, List.set_cons_zero, List.set_cons_succ]
              refine wpAnyH_take (i := 12) (v := ?_) rfl (by kernel_rfl) (by kernel_rfl) (by kernel_rfl) (fun _ _ _ h => h) (Or.inl ⟨by rfl, ?_⟩) (by assumption) ?_
              case refine_2 => (intro wx hSx; (try dsimp only at hSx); go_simp; first | done | with_reducible rfl)
              try simp only [Act.put, List.setIfInBounds_toArray, List.set_cons_zero, List.set_cons_succ]
              refine wpAnyH_take (i := 13) (v := ?_) rfl (by kernel_rfl) (by kernel_rfl) (by kernel_rfl) (fun _ _ _ h => h) (Or.inl ⟨by rfl, ?_⟩) (by assumption) ?_
              case refine_2 => (intro wx hSx; (try dsimp only at hSx); go_simp; first | done | with_reducible rfl)
              try simp only [Act.put, List.setIfInBounds_toArray, List.set_cons_zero, List.set_cons_succ]
              refine wpAnyH_take (i := 14) (v := ?_) rfl (by kernel_rfl) (by kernel_rfl) (by kernel_rfl) (fun _ _ _ h => h) (Or.inl ⟨by rfl, ?_⟩) (by assumption) ?_
              case refine_2 => (intro wx hSx; (try dsimp only at hSx); go_simp; first | done | with_reducible rfl)
              try simp only [Act.put, List.setIfInBounds_toArray, List.set_cons_zero, List.set_cons_succ]
              refine wpAnyH_take (i := 16) (v := ?_) rfl (by kernel_rfl) (by kernel_rfl) (by kernel_rfl) (fun _ _ _ h => h) (Or.inl ⟨by rfl, ?_⟩) (by assumption) ?_
              case refine_2 => (intro wx hSx; (try dsimp only at hSx); go_simp; first | done | with_reducible rfl)
              try simp only [Act.put, List.setIfInBounds_toArray, List.set_cons_zero, List.set_cons_succ]
              refine wpAnyH_take (i := 17) (v := ?_) rfl (by kernel_rfl) (by kernel_rfl) (by kernel_rfl) (fun _ _ _ h => h) (Or.inl ⟨by rfl, ?_⟩) (by assumption) ?_
              case refine_2 => (intro wx hSx; (try dsimp only at hSx); go_simp; first | done | with_reducible rfl)
              try simp only [Act.put, List.setIfInBounds_toArray, List.set_cons_zero, List.set_cons_succ]
              refine wpAnyH_take (i := 18) (v := ?_) rfl (by kernel_rfl) (by kernel_rfl) (by kernel_rfl) (fun _ _ _ h => h) (Or.inl ⟨by rfl, ?_⟩) (by assumption) ?_
              case refine_2 => (intro wx hSx; (try dsimp only at hSx); go_simp; first | done | with_reducible rfl)
              try simp only [Act.put, List.setIfInBounds_toArray, List.set_cons_zero, List.set_cons_succ]
              refine wpAnyH_take (i := 19) (v := ?_) rfl (by kernel_rfl) (by kernel_rfl) (by kernel_rfl) (fun _ _ _ h => h) (Or.inl ⟨by rfl, ?_⟩) (by assumption) ?_
              case refine_2 => (intro wx hSx; (try dsimp only at hSx); go_simp; first | done | with_reducible rfl)
              try simp only [Act.put, List.setIfInBounds_toArray, List.set_cons_zero, List.set_cons_succ]
              refine wpAnyH_ready (rs := [15]) (by kernel_rfl) (by simp) ?_
              refine AllReadyH.cons rfl (fun K hK => ?_) AllReadyH.nil
              go_simp
              rw [HC.out]
              refine (enter_any w n gl gm f a b (n - a - b) (at3 n f a b) _ (Mk.drew HM.out) HF.out hlt (by omega) rfl (at3_le hn8 hlt ha (by omega)).1 (at3_le hn8 hlt ha (by omega)).2).mono ?_
              rintro e w2 ⟨i, rfl, hix, hmk⟩
              have MK := Lib.hid hmk; clear hmk
              have IX := Lib.hid hix; clear hix
              go_wp2_with fail
              refine hK.out _ _ trivial (fun hHeld2 => ?_)
              clear hK K hHeld
              try simp only [Act.put, List.setIfInBounds_toArray, List.set_cons_zero, List.set_cons_succ]
              refine wpAnyH_take (i := 20) (v := ?_) rfl (by kernel_rfl) (by kernel_rfl) (by kernel_rfl) (fun _ _ _ h => h) (Or.inl ⟨by rfl, ?_⟩) (by assumption) ?_
              case refine_2 => (intro wx hSx; (try dsimp only at hSx); go_simp; first | done | with_reducible rfl)
              try simp only [Act.put, List.setIfInBounds_toArray, List.set_cons_zero, List.set_cons_succ]
              obtain ⟨⟨v0, k0⟩, k1⟩ := mks_row MK.out f a b hlt (by omega) (by omega)
              refine wpAnyH_ready (rs := [21]) (by kernel_rfl) (by simp) ?_
              refine AllReadyH.cons rfl (fun K hK => ?_) AllReadyH.nil
              go_simp
              refine hK.out _ _ trivial (fun hHeld3 => ?_)
              clear hK K hHeld2
              try simp only [Act.put, List.setIfInBounds_toArray, List.set_cons_zero, List.set_cons_succ]
              refine wpAnyH_done (by kernel_rfl) ?_ _
              clear k0 k1
              go_wp2_with fail
              go_roundw
              case rel => exact ⟨b + 1, by omega, by go_num, by rw [at3_b]; exact mks_index MK.out IX.out hlt (by omega) (by omega)⟩
              case measure => simp [intOf]; omega
            · have hbe : b = n + 1 - a := by omega
              have HBE := Lib.hid hbe; clear hbe
              have b1 : ¬ ((b : Int) < (n : Int) + 1 - (a : Int)) := by omega
              have HM := Lib.hid M; clear M
              go_wp2_with fail
              go_roundw
              case rel => exact ⟨a + 1, by omega, by go_num, by have := HM.out; rw [HBE.out, at3_a] at this; exact this⟩
              case measure => simp [intOf]; omega
        · have hae : a = n + 1 := by omega
          have HAE := Lib.hid hae; clear hae
          have a1 : ¬ ((a : Int) < (n : Int) + 1) := by omega
          have HM := Lib.hid M; clear M
          go_wp2_with fail
          go_roundw
          case rel => exact ⟨f + 1, by omega, by go_num, by have := HM.out; rw [HAE.out, at3_f] at this; exact this⟩
          case measure => simp [intOf]; omega
    · have hfe : f = 20 := by omega
      have HFE := Lib.hid hfe; clear hfe
      have f1 : ¬ ((f : Int) < 20) := by omega
      have HM := Lib.hid M; clear M
      go_wp2_with fail
      go_ret
      exact ⟨gl, gm, rfl, by have := HM.out; rw [HFE.out, at3_fin] at this; exact this⟩
end Go.Proofs.Ytehehhehilgnkaa
