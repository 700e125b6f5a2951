/- Texts of this proof. -/
import Derived.Test.YtejoabaanclcbaaGreatBord
import Derived.RegionTactic
import Derived.Deep.RegionHeld3
namespace Go.Proofs.YtejoabaanclcbaaGreat
open Go.RowKit Go.Maps

theorem isFrequency_any (n : Int) (w : World) :
    Calls Tryz.prog 92 #[.int .i64 n] w fun e w' => e = .returned (.bool (decide (1 ≤ n ∧ n ≤ 8))) ∧ w = w' := by
  by_cases h1 : 1 ≤ n
  · by_cases h2 : n ≤ 8
    · have hd : decide (1 ≤ n ∧ n ≤ 8) = true := decide_eq_true ⟨h1, h2⟩
      rw [hd]; clear hd
      go_enter Tryz.func92, Tryz.ntmps92
      go_wp2
      go_ret
      exact ⟨rfl, rfl⟩
    · have hd : decide (1 ≤ n ∧ n ≤ 8) = false := decide_eq_false (fun h => h2 h.2)
      rw [hd]; clear hd
      go_enter Tryz.func92, Tryz.ntmps92
      go_wp2
      go_ret
      exact ⟨rfl, rfl⟩
  · have hd : decide (1 ≤ n ∧ n ≤ 8) = false := decide_eq_false (fun h => h1 h.1)
    rw [hd]; clear hd
    go_enter Tryz.func92, Tryz.ntmps92
    go_wp2
    go_ret
    exact ⟨rfl, rfl⟩
theorem isFrequency_yes (n : Nat) (w : World) (h : Lat.frq n) :
    Calls Tryz.prog 92 #[.int .i64 n] w fun e w' => e = .returned (.bool true) ∧ w = w' := by
  have := isFrequency_any n w
  rwa [decide_eq_true (by unfold Lat.frq at h; omega)] at this
theorem isFrequency_no (n : Int) (w : World) (h : ¬ (1 ≤ n ∧ n ≤ 8)) :
    Calls Tryz.prog 92 #[.int .i64 n] w fun e w' => e = .returned (.bool false) ∧ w = w' := by
  have := isFrequency_any n w
  rwa [decide_eq_false h] at this
/-- How many nodes. -/
def cn (n : Nat) : Nat := 10 * n * n + 2
theorem cn_le {n : Nat} (h : Lat.frq n) : cn n ≤ 642 := by
  rcases Lat.eight h with rfl | rfl | rfl | rfl | rfl | rfl | rfl | rfl <;> decide
theorem count_no (n : Int) (w : World) (h : ¬ (1 ≤ n ∧ n ≤ 8)) :
    Calls Tryz.prog 110 #[.int .i64 n] w fun e w' => e = .returned (.int .i64 0) ∧ w = w' := by
  go_enter Tryz.func110, Tryz.ntmps110
  go_wp2_with (go_at_call 92; refine (isFrequency_no _ _ h).mono ?_; rintro e w' ⟨rfl, rfl⟩)
  go_ret
  exact ⟨rfl, rfl⟩
theorem count_yes (n : Nat) (w : World) (h : Lat.frq n) :
    Calls Tryz.prog 110 #[.int .i64 n] w fun e w' => e = .returned (.int .i64 (cn n)) ∧ w = w' := by
  rcases Lat.eight h with rfl | rfl | rfl | rfl | rfl | rfl | rfl | rfl <;>
  (go_enter Tryz.func110, Tryz.ntmps110
   go_wp2_with (go_at_call 92; refine (isFrequency_yes _ _ h).mono ?_; rintro e w' ⟨rfl, rfl⟩)
   go_ret
   exact ⟨rfl, rfl⟩)
end Go.Proofs.YtejoabaanclcbaaGreat



namespace Go.Proofs.YtejoabaanclcbaaGreat
open Go.RowKit Go.Maps

/-- All of these are 0. -/
def allZ : List Value → Bool
  | [] => true
  | .int .i64 (.ofNat 0) :: r => allZ r
  | _ => false
theorem allZ_get : ∀ {l : List Value} {j : Nat}, allZ l = true → j < l.length → l[j]? = some (.int .i64 0)
  | [], _, _, h => by simp at h
  | v :: r, j, h, hj => by
    unfold allZ at h
    split at h
    · rename_i e; cases e
    · rename_i r' e
      injection e with e1 e2
      subst e1 e2
      cases j with
      | zero => rfl
      | succ j => simpa using allZ_get h (by simpa using hj)
    · cases h
theorem zeroLat0 : allZ (Tryz.zeroCells171.toList.drop 1) = true := by kernel_rfl
theorem zeroLat (j : Nat) (hj : j < 1620) : Tryz.zeroCells171[j + 1]? = some (.int .i64 0) := by
  have h := allZ_get (j := j) zeroLat0 (by simp only [List.length_drop, Array.length_toList]; rw [Tryz.zeroCells171_size]; omega)
  rw [List.getElem?_drop, Array.getElem?_toList, Nat.add_comm] at h
  exact h
def Mks (W : World) (n gl gm : Nat) (s : Lat.St) (w : World) : Prop := Mk W n gl gm s.rv s.cnt s.bor s.ix w
theorem run_le (n : Nat) (l : List Lat.Pt) : (Lat.run n l).cnt ≤ l.length ∧ (Lat.run n l).bor.length ≤ l.length := by
  suffices h : ∀ (l : List Lat.Pt) (s : Lat.St), (l.foldl (Lat.step n) s).cnt ≤ s.cnt + l.length ∧ (l.foldl (Lat.step n) s).bor.length ≤ s.bor.length + l.length by
    have := h l Lat.St.none
    simpa [Lat.run, Lat.St.none] using this
  intro l
  induction l with
  | nil => intro s; simp
  | cons p r ih =>
    intro s
    have h1 := ih (Lat.step n s p)
    have h2 : (Lat.step n s p).cnt ≤ s.cnt + 1 ∧ (Lat.step n s p).bor.length ≤ s.bor.length + 1 := by
      unfold Lat.step
      split
      · split <;> simp [Lat.fresh]
      · simp [Lat.fresh]
    simp only [List.foldl_cons, List.length_cons]
    omega
theorem pts_len {n : Nat} (hn : n ≤ 8) (k : Nat) : (Lat.pts n k).length ≤ k * 81 := by
  induction k with
  | zero => simp [Lat.pts]
  | succ k ih =>
    rw [Lat.pts_succ, List.length_append]
    have : ∀ j, j ≤ n + 1 → (Lat.face n k j).length ≤ j * 9 := by
      intro j
      induction j with
      | zero => simp [Lat.face]
      | succ j ih2 =>
        intro hj
        rw [Lat.face_succ, List.length_append]
        have := ih2 (by omega)
        simp [Lat.row]; omega
    have := this (n + 1) (Nat.le_refl _)
    omega
theorem face_len {n : Nat} (hn : n ≤ 8) (f j : Nat) (hj : j ≤ n + 1) : (Lat.face n f j).length ≤ j * 9 := by
  induction j with
  | zero => simp [Lat.face]
  | succ j ih2 =>
    rw [Lat.face_succ, List.length_append]
    have := ih2 (by omega)
    simp [Lat.row]; omega
/-- What is behind some points of a face. -/
def at3 (n f a b : Nat) : Lat.St := Lat.run n (Lat.pts n f ++ Lat.face n f a ++ Lat.row n f a b)
theorem at3_le {n f a b : Nat} (hn : n ≤ 8) (hf : f < 20) (ha : a ≤ n + 1) (hb : b ≤ 9) : (at3 n f a b).cnt ≤ 100000 ∧ (at3 n f a b).bor.length ≤ 100000 := by
  have h := run_le n (Lat.pts n f ++ Lat.face n f a ++ Lat.row n f a b)
  have h1 := pts_len hn f
  have h2 := face_len hn f a ha
  simp only [List.length_append] at h
  have h3 : (Lat.row n f a b).length = b := by simp [Lat.row]
  unfold at3
  omega
theorem at3_b (n f a b : Nat) : at3 n f a (b + 1) = Lat.step n (at3 n f a b) (f, a, b) := by
  unfold at3; rw [Lat.row_succ, ← List.append_assoc, Lat.run_snoc]
theorem at3_a (n f a : Nat) : at3 n f a (n + 1 - a) = at3 n f (a + 1) 0 := by
  unfold at3; rw [Lat.face_succ]; simp [Lat.row]
theorem at3_f (n f : Nat) : at3 n f (n + 1) 0 = at3 n (f + 1) 0 0 := by
  unfold at3; rw [Lat.pts_succ]; simp [Lat.row, Lat.face]
theorem at3_0 (n : Nat) : at3 n 0 0 0 = Lat.St.none := by simp [at3, Lat.pts, Lat.face, Lat.row, Lat.run]
theorem at3_fin (n : Nat) : at3 n 20 0 0 = Lat.fin n := by simp [at3, Lat.face, Lat.row, Lat.fin]
/-- What enter leaves: the point's index, everything but the table of indexes as the step has it. -/
def Ent (W : World) (n gl gm : Nat) (s : Lat.St) (p : Lat.Pt) (e : Ending) (w' : World) : Prop :=
  ∃ i : Nat, e = .returned (.int .i64 i) ∧ (Lat.step n s p).ix = (Lat.off p.1 p.2.1 p.2.2, i) :: s.ix ∧ Mk W n gl gm (Lat.step n s p).rv (Lat.step n s p).cnt (Lat.step n s p).bor s.ix w'
theorem enter_any (W : World) (n gl gm f a b c : Nat) (s : Lat.St) (w : World) (h : Mks W n gl gm s w) (hn : Lat.frq n) (hf : f < 20) (hab : a + b ≤ n) (hc : c = n - a - b) (h1 : s.cnt ≤ 100000) (h2 : s.bor.length ≤ 100000) :
    Calls Tryz.prog 127 #[.pointer (some ⟨gl, 0, none⟩), .agg #[.int .i64 f, .int .i64 a, .int .i64 b, .int .i64 c], .map (some gm)] w (Ent W n gl gm s (f, a, b)) := by
  unfold Lat.frq at hn
  subst hc
  by_cases hz : a = 0 ∨ b = 0 ∨ n - a - b = 0
  · cases hl : Lat.look (Lat.pk f a b (n - a - b)) s.bor with
    | some i =>
      have hs : Lat.step n s (f, a, b) = { s with ix := (Lat.off f a b, i) :: s.ix } := by simp only [Lat.step, if_pos hz, hl]
      exact (enter_known W n gl gm f a b (n - a - b) i s.rv s.cnt s.bor s.ix w h hf (by omega) (by omega) (by omega) hz hl).mono fun e w' ⟨he, hm⟩ => ⟨i, he, by rw [hs], by rw [hs]; exact hm⟩
    | none =>
      have hs : Lat.step n s (f, a, b) = Lat.fresh (f, a, b) s ((Lat.pk f a b (n - a - b), s.cnt) :: s.bor) := by simp only [Lat.step, if_pos hz, hl]
      exact (enter_new W n gl gm f a b (n - a - b) s.rv s.cnt s.bor s.ix w h hf (by omega) (by omega) (by omega) hz hl (by omega) (by omega) h1 h2).mono fun e w' ⟨he, hm⟩ => ⟨s.cnt, he, by rw [hs]; rfl, by rw [hs]; exact hm⟩
  · have hs : Lat.step n s (f, a, b) = Lat.fresh (f, a, b) s s.bor := by simp only [Lat.step, if_neg hz]
    exact (enter_in W n gl gm f a b (n - a - b) s.rv s.cnt s.bor s.ix w h hf (by omega) (by omega) (by omega) (by omega) (by omega) (by omega) (by omega) h1).mono fun e w' ⟨he, hm⟩ => ⟨s.cnt, he, by rw [hs]; rfl, by rw [hs]; exact hm⟩
/-- The start. -/
theorem mks_start {W w1 : World} {n : Nat} (hb : Below W.heap.size W w1) (hown : w1.ownsRow W.heap.size 32 4 (.slice (some ⟨W.heap.size, 0, none⟩) 0 (cn n)) 0 []) (hg : W.heap.size ≤ w1.heap.size) :
    Mks W n w1.heap.size (w1.heap.size + 1) (at3 n 0 0 0) ((w1.alloc (.cells (Tryz.zeroCells171.setIfInBounds 0 (.slice (some ⟨W.heap.size, 0, none⟩) 0 (cn n))) 171)).alloc (.map #[] 0)) := by
  rw [at3_0]
  have hz := Tryz.zeroCells171_size
  refine ⟨(hb.alloc hb.size _).alloc (by have := hb.size; simp; omega) _, by omega, by omega, ⟨_, W.heap.size, cn n, (Row.new _ _ _).alloc _, by simp [hz], by simp [hz, Lat.St.none], ?_, fun j hj => ?_⟩, .map [], 0, ?_, Bor.start, Nat.le_refl _⟩
  · exact (hown.alloc _).alloc _
  · rw [Array.getElem?_setIfInBounds, if_neg (by omega), zeroLat j hj]
    simp [Lat.St.none, Lat.look]
  · have := World.ownsMap_made (H := Unit) (w1.alloc (.cells (Tryz.zeroCells171.setIfInBounds 0 (.slice (some ⟨W.heap.size, 0, none⟩) 0 (cn n))) 171)) Tryz.prog 178 (plainElem Tryz.prog 3)
    simpa using this
end Go.Proofs.YtejoabaanclcbaaGreat



namespace Go.Proofs.YtejoabaanclcbaaGreat
open Go.RowKit Go.Maps

/-- What newLattice leaves. -/
def Made (W : World) (n : Nat) (e : Ending) (w : World) : Prop := ∃ gl gm, e = .returned (.pointer (some ⟨gl, 0, none⟩)) ∧ Mks W n gl gm (Lat.fin n) w
theorem mks_index {W w : World} {n gl gm f a b i : Nat} {s : Lat.St} (h : Mk W n gl gm (Lat.step n s (f, a, b)).rv (Lat.step n s (f, a, b)).cnt (Lat.step n s (f, a, b)).bor s.ix w) (hi : (Lat.step n s (f, a, b)).ix = (Lat.off f a b, i) :: s.ix)
    (hf : f < 20) (ha : a ≤ 8) (hb : b ≤ 8) : Mks W n gl gm (Lat.step n s (f, a, b)) (w.setCell ⟨gl, 1 + f * 81 + a * 9 + b, none⟩ (.int .i64 i)) := by
  have := h.index (Lat.off f a b) i (by unfold Lat.off; omega)
  rw [← hi] at this
  have e : Lat.off f a b + 1 = 1 + f * 81 + a * 9 + b := by unfold Lat.off; omega
  rw [e] at this
  exact this
theorem mks_row {W w : World} {n gl gm : Nat} {rv : List Lat.Pt} {cnt : Nat} {bor ix : List (Nat × Nat)} (h : Mk W n gl gm rv cnt bor ix w) (f a b : Nat) (hf : f < 20) (ha : a ≤ 8) (hb : b ≤ 8) : (∃ v, w.cell? ⟨gl, 1 + f * 81 + a * 9 + b, none⟩ = some v) ∧ w.frozen? ⟨gl, 1 + f * 81 + a * 9 + b, none⟩ = false := by
  obtain ⟨cs, g, cap, h1, h2, h3, h4, h5⟩ := h.lat
  refine ⟨⟨.int .i64 ((Lat.look (f * 81 + a * 9 + b) ix).getD 0 : Nat), (h1.cell _).trans ?_⟩, h1.thaw _⟩
  rw [show 1 + f * 81 + a * 9 + b = (f * 81 + a * 9 + b) + 1 by omega]
  exact h5 _ (by omega)
theorem started {w w1 : World} {n : Nat} (hown : w1.ownsRow w.heap.size 32 4 (.slice (some ⟨w.heap.size, 0, none⟩) 0 (cn n)) 0 []) (hg : w.grownBy w1 none):
    ∃ gl gm, gl = w1.heap.size ∧ gm = w1.heap.size + 1 ∧ Mks w n gl gm (at3 n 0 0 0) ((w1.alloc (.cells (Tryz.zeroCells171.setIfInBounds 0 (.slice (some ⟨w.heap.size, 0, none⟩) 0 (cn n))) 171)).alloc (.map #[] 0)) :=
  ⟨_, _, rfl, rfl, mks_start ⟨hg.os, hg.tape, hg.output, hg.size, fun i hi => hg.block i hi (by simp)⟩ hown hg.size⟩
set_option maxRecDepth 100000 in
set_option maxHeartbeats 4000000 in
theorem newLattice_any (n : Nat) (w : World) (h : Lat.frq n) :
    Calls Tryz.prog 118 #[.int .i64 n] w (Made w n) := by
  have hc := cn_le h
  have hn8 : n ≤ 8 := h.2
  obtain ⟨i0, hi, hz0, hz1, hz2⟩ := info_parts infoPlace
  have hmm := @run_makeMap Tryz.prog
  go_enter Tryz.func118, Tryz.ntmps118
  go_upto_region 3 with (first
    | (go_at_call 110; refine (count_yes _ _ h).mono ?_; rintro e w' ⟨rfl, rfl⟩)
    | (at_make; refine wpList_make_own _ rfl _ _ 86 rfl w.heap.size 32 i0 _ 4 Tryz.underlying86 hi hz0 hz1 .i64 .i64 _ (cn n) rfl rfl rfl (by rw [hz2]; omega) (by unfold maxLen; omega) (Nat.le_refl _) ?_; intro w1 hown1 hgrow1))
  obtain ⟨gl, gm, e1, e2, M0⟩ := started hown1 hgrow1
  refine forget (fun Y => Mks w n gl gm (at3 n 0 0 0) Y) M0 ?_
  rw [← e1, ← show gm = gl + 1 by rw [e2, e1]]
  clear M0 e1 e2 hown1 hgrow1 hmm hi hz0 hz1 hz2
  rintro Y M0
  have hn0 : 1 ≤ (n : Int) ∧ (n : Int) ≤ 8 := by unfold Lat.frq at h; omega
  obtain ⟨hn1, hn2⟩ := hn0
  have HF := Lib.hid h; clear h
  go_wp2_with fail
  go_loopw [14] (fun t wr => ∃ f : Nat, f ≤ 20 ∧ t = .int .i64 f ∧ Mks w n gl gm (at3 n f 0 0) wr) (fun t _ => 20 - (intOf t).toNat)
  case atStart => exact ⟨0, by omega, rfl, M0⟩
  case round =>
    clear M0
    obtain ⟨f, hf, rfl, M⟩ := hrel
    by_cases hlt : f < 20
    · have HM := Lib.hid M; clear M
      have f1 : (f : Int) < 20 := by omega
      go_wp2_with fail
      go_loopw [19] (fun t wr => ∃ a : Nat, a ≤ n + 1 ∧ t = .int .i64 a ∧ Mks w n gl gm (at3 n f a 0) wr) (fun t _ => n + 1 - (intOf t).toNat)
      case atStart => exact ⟨0, by omega, rfl, HM.out⟩
      case round =>
        clear HM
        obtain ⟨a, ha, rfl, M⟩ := hrel
        by_cases hla : a < n + 1
        · have HM := Lib.hid M; clear M
          have a1 : (a : Int) < (n : Int) + 1 := by omega
          go_wp2_with fail
          go_loopw [26] (fun t wr => ∃ b : Nat, b ≤ n + 1 - a ∧ t = .int .i64 b ∧ Mks w n gl gm (at3 n f a b) wr) (fun t _ => n + 1 - a - (intOf t).toNat)
          case atStart => exact ⟨0, by omega, rfl, HM.out⟩
          case round =>
            clear HM
            obtain ⟨b, hb, rfl, M⟩ := hrel
            by_cases hlb : b < n + 1 - a
            · have b1 : (b : Int) < (n : Int) + 1 - (a : Int) := by omega
              have a9 : (a : Int) < 9 := by omega
              have b9 : (b : Int) < 9 := by omega
              have HC := Lib.hid (show (n : Int) - (a : Int) - (b : Int) = ((n - a - b : Nat) : Int) by omega)
              have x1 : IntKind.i64.wrap ((n : Int) - (a : Int)) = (n : Int) - (a : Int) := IntWalk.i64_in _ (by omega)
              have x2 : IntKind.i64.wrap ((n : Int) - (a : Int) - (b : Int)) = (n : Int) - (a : Int) - (b : Int) := IntWalk.i64_in _ (by omega)
              have HM := Lib.hid M; clear M
              go_upto_region 12 with fail
              refine wp_region_held_drew (S := fun _ : World => True) (by kernel_rfl) trivial (fun hHeld => ?_)
              refine tk 0 rfl ?_
              try go_frame
              refine tk 1 rfl ?_
              try go_frame
              refine tk 2 rfl ?_
              try go_frame
              refine tk 3 rfl ?_
              try go_frame
              refine tk 4 rfl ?_
              try go_frame
              refine tk 5 rfl ?_
              try go_frame
              refine tk 6 rfl ?_
              try go_frame
              refine tk 7 rfl ?_
              try go_frame
              refine tk 8 rfl ?_
              try go_frame
              refine tk 9 rfl ?_
              try go_frame
              refine tk 10 rfl ?_
              try go_frame
              refine tk 11 rfl ?_
              try go_frame
              refine tk 12 rfl ?_
              try go_frame
              refine tk 13 rfl ?_
              try go_frame
              refine tk 14 rfl ?_
              try go_frame
              refine tk 16 rfl ?_
              try go_frame
              refine tk 17 rfl ?_
              try go_frame
              refine tk 18 rfl ?_
              try go_frame
              refine tk 19 rfl ?_
              try go_frame
              refine wpAnyH_ready (rs := [15]) (by kernel_rfl) (by simp) ?_
              refine AllReadyH.cons rfl (fun K hK => ?_) AllReadyH.nil
              go_simp
              rw [HC.out]
              refine (enter_any w n gl gm f a b (n - a - b) (at3 n f a b) _ (Mk.drew HM.out) HF.out hlt (by omega) rfl (at3_le hn8 hlt ha (by omega)).1 (at3_le hn8 hlt ha (by omega)).2).mono ?_
              rintro e w2 ⟨i, rfl, hix, hmk⟩
              have MK := Lib.hid hmk; clear hmk
              have IX := Lib.hid hix; clear hix
              go_wp2_with fail
              refine hK.out _ _ trivial (fun hHeld2 => ?_)
              clear hK K hHeld
              try go_frame
              refine tk 20 rfl ?_
              try go_frame
              obtain ⟨⟨v0, k0⟩, k1⟩ := mks_row MK.out f a b hlt (by omega) (by omega)
              refine wpAnyH_ready (rs := [21]) (by kernel_rfl) (by simp) ?_
              refine AllReadyH.cons rfl (fun K hK => ?_) AllReadyH.nil
              go_simp
              refine hK.out _ _ trivial (fun hHeld3 => ?_)
              clear hK K hHeld2
              try go_frame
              refine wpAnyH_done (by kernel_rfl) ?_ _
              clear k0 k1
              go_wp2_with fail
              go_roundw
              case rel => exact ⟨b + 1, by omega, by go_num, by rw [at3_b]; exact mks_index MK.out IX.out hlt (by omega) (by omega)⟩
              case measure => simp [intOf]; omega
            · have hbe : b = n + 1 - a := by omega
              have HBE := Lib.hid hbe; clear hbe
              have b1 : ¬ ((b : Int) < (n : Int) + 1 - (a : Int)) := by omega
              have HM := Lib.hid M; clear M
              go_wp2_with fail
              go_roundw
              case rel => exact ⟨a + 1, by omega, by go_num, by have := HM.out; rw [HBE.out, at3_a] at this; exact this⟩
              case measure => simp [intOf]; omega
        · have hae : a = n + 1 := by omega
          have HAE := Lib.hid hae; clear hae
          have a1 : ¬ ((a : Int) < (n : Int) + 1) := by omega
          have HM := Lib.hid M; clear M
          go_wp2_with fail
          go_roundw
          case rel => exact ⟨f + 1, by omega, by go_num, by have := HM.out; rw [HAE.out, at3_f] at this; exact this⟩
          case measure => simp [intOf]; omega
    · have hfe : f = 20 := by omega
      have HFE := Lib.hid hfe; clear hfe
      have f1 : ¬ ((f : Int) < 20) := by omega
      have HM := Lib.hid M; clear M
      go_wp2_with fail
      go_ret
      exact ⟨gl, gm, rfl, by have := HM.out; rw [HFE.out, at3_fin] at this; exact this⟩
end Go.Proofs.YtejoabaanclcbaaGreat


