/- The law's sanity check: the chapter's first example. -/
import Derived.Test.YtejoabaanclcbaaGreatQar
import Derived.Test.YtejoabaanclcbaaGreatQay
import Derived.Test.YtejoabaanclcbaaGreatQav
namespace Go.Proofs.YtejoabaanclcbaaGreat.Tk
open Go.RowKit

theorem vldA : Ico.Vld 0 840 0 0 := by unfold Ico.Vld; omega
theorem vldB : Ico.Vld 0 315 525 0 := by unfold Ico.Vld; omega
theorem at_a (t : Int) (w : World) : Calls Tryz.prog 28 #[.int .i64 t, .agg #[.int .i64 0, .int .i64 840, .int .i64 0, .int .i64 0]] w fun e w' => e = .returned (rqV 2 dl t 0 840 0 0 none 0 0) ∧ Below w.heap.size w w' := by
  have h := at_any t 0 840 0 0 w vldA
  rw [show Ico.nf 0 840 0 0 = 0 by decide +kernel, show nw 0 840 0 0 0 = 840 by decide +kernel, show nw 0 840 0 0 1 = 0 by decide +kernel, show nw 0 840 0 0 2 = 0 by decide +kernel] at h
  exact h
theorem at_b (t : Int) (w : World) : Calls Tryz.prog 28 #[.int .i64 t, .agg #[.int .i64 0, .int .i64 315, .int .i64 525, .int .i64 0]] w fun e w' => e = .returned (rqV 2 dl t 0 315 525 0 none 0 0) ∧ Below w.heap.size w w' := by
  have h := at_any t 0 315 525 0 w vldB
  rw [show Ico.nf 0 315 525 0 = 0 by decide +kernel, show nw 0 315 525 0 0 = 315 by decide +kernel, show nw 0 315 525 0 1 = 525 by decide +kernel, show nw 0 315 525 0 2 = 0 by decide +kernel] at h
  exact h
def ra (t : Int) : Rq := ⟨2, dl, t, 0, 840, 0, 0, none, 0, 0⟩
def rb (t : Int) : Rq := ⟨2, dl, t, 0, 315, 525, 0, none, 0, 0⟩
theorem hp_aa : hp nA nA = 0 := hp_self nA_lt
theorem sgr_a (t : Int) (i : Nat) : sgr (ra t) i = ⟨dl, t, nA, i⟩ := by
  have h : nod (ra t).F (ra t).A (ra t).B (ra t).C = nA := nod_a
  unfold sgr
  rw [h]
  rfl
theorem sgr_b (t : Int) (i : Nat) : sgr (rb t) i = ⟨dl, t, nB, i⟩ := by
  have h : nod (rb t).F (rb t).A (rb t).B (rb t).C = nB := nod_b
  unfold sgr
  rw [h]
  rfl
theorem pls_ab {h s t : Int} : pls h (sgr (ra s) 0) (sgr (rb t) 0) = decide (s < t ∧ 1440 * (hp nA nB : Int) ≤ h * (t - s) + 1440) := by
  rw [sgr_a, sgr_b]
  unfold pls
  rfl
theorem pls_aa {h s t : Int} : pls h (sgr (ra s) 0) (sgr (ra t) 0) = decide (s < t ∧ 1440 * ((0 : Nat) : Int) ≤ h * (t - s) + 1440) := by
  rw [sgr_a, sgr_a]
  unfold pls
  rw [show hp (Sg.nd ⟨dl, s, nA, 0⟩) (Sg.nd ⟨dl, t, nA, 0⟩) = 0 from hp_aa]
/-- The best chain of the example. -/
theorem best_3 {P : Nat → Nat → Bool} (h01 : P 0 1 = false) (h02 : P 0 2 = true) : Best 3 P [0, 2] := by
  have l2 : ln 3 P 2 = 1 := by
    have := ln_le (n := 3) (P := P) 3 2 (by omega) (by omega)
    have := ln_pos (n := 3) (P := P) (show 2 < 3 by omega)
    omega
  have l1 : ln 3 P 1 ≤ 2 := ln_le (n := 3) 3 1 (by omega) (by omega)
  have l0 : ln 3 P 0 = 2 := by
    obtain ⟨h1, h2, h3⟩ := ln_mx (P := P) (show 0 < 3 by omega)
    have a := h1 2 (by omega) (by omega) h02
    rcases h2 with h2 | ⟨k, k1, k2, k3, k4⟩
    · omega
    · rcases (by omega : k = 1 ∨ k = 2) with rfl | rfl
      · rw [h01] at k3; cases k3
      · omega
  refine .inr ⟨0, ⟨⟨Nat.le_refl _, by omega⟩, fun j h1 h2 => ?_, fun j h1 h2 => by omega⟩, ?_⟩
  · rcases (by omega : j = 0 ∨ j = 1 ∨ j = 2) with rfl | rfl | rfl <;> omega
  · rw [chn_cons (k := 2) (by omega) (by omega) h02 (by omega) (fun j h1 h2 h3 => by
      obtain rfl : j = 1 := by omega
      rw [h01] at h3; cases h3.1), chn_one l2]
theorem okr_a {t : Int} (h : 0 ≤ t ∧ t ≤ 52595999) : okr (ra t) = true := by
  show (vb 0 840 0 0 && tOk t) = true
  rw [show vb 0 840 0 0 = true from by decide +kernel]
  simpa [tOk] using h
theorem okr_b {t : Int} (h : 0 ≤ t ∧ t ≤ 52595999) : okr (rb t) = true := by
  show (vb 0 315 525 0 && tOk t) = true
  rw [show vb 0 315 525 0 = true from by decide +kernel]
  simpa [tOk] using h
theorem oks_3 {p : Int → Bool} {x y z : Rq} (hx : okr x = true) (hy : okr y = true) (hz : okr z = true) : oks p [x, y, z] := by
  intro r hr _
  simp only [List.mem_cons, List.not_mem_nil, or_false] at hr
  rcases hr with rfl | rfl | rfl <;> assumption
theorem p_01 : pls 24 (sgr (ra 0) 0) (sgr (rb 60) 0) = false := by
  rw [pls_ab, decide_eq_false_iff_not]
  have := hp_ab.1
  omega
theorem p_02 : pls 24 (sgr (ra 0) 0) (sgr (ra 120) 0) = true := by
  rw [pls_aa, decide_eq_true_iff]
  omega
theorem ctag_3 {l : List Nat} {c : Int} (h : CTag 24 [ra 0, rb 60, ra 120] l c) : l = [0, 2] ∧ c = 0 := by
  refine ctag_one h (.inr (.inr (.inr ⟨by decide, ⟨by omega, oks_3 (okr_a (by omega)) (okr_b (by omega)) (okr_a (by omega))⟩, fun i hi => ?_, best_3 p_01 p_02, rfl⟩)))
  have hi3 : i + 1 < 3 := hi
  rcases (by omega : i = 0 ∨ i = 1) with rfl | rfl
  · show (0 : Int) < 60; omega
  · show (60 : Int) < 120; omega
theorem sus_3 {l : List Nat} {c : Int} (h : SusT 24 [ra 120, rb 60, ra 0] l c) : l = [1] ∧ c = 0 := by
  have ho : oks sea [ra 120, rb 60, ra 0] := oks_3 (okr_a (by omega)) (okr_b (by omega)) (okr_a (by omega))
  have e : sgl sea 0 [ra 120, rb 60, ra 0] = [⟨dl, 120, nod 0 840 0 0, 0⟩, ⟨dl, 60, nod 0 315 525 0, 1⟩, ⟨dl, 0, nod 0 840 0 0, 2⟩] := rfl
  obtain ⟨rfl, hs⟩ := sus_ok h (by omega) ho (by rw [e]; simp)
  refine ⟨susL_one hs ?_, rfl⟩
  rw [e]
  refine ⟨[⟨dl, 0, nod 0 840 0 0, 2⟩, ⟨dl, 60, nod 0 315 525 0, 1⟩, ⟨dl, 120, nod 0 840 0 0, 0⟩], ?_, ?_, ?_, ?_, ?_⟩
  · exact (List.reverse_perm [(⟨dl, 120, nod 0 840 0 0, 0⟩ : Sg), ⟨dl, 60, nod 0 315 525 0, 1⟩, ⟨dl, 0, nod 0 840 0 0, 2⟩])
  · simp
  · intro k
    rw [asc_lt]
    refine List.Pairwise.filter _ ?_
    simp
  · simp
  · have hg : gr [(⟨dl, 0, nod 0 840 0 0, 2⟩ : Sg), ⟨dl, 60, nod 0 315 525 0, 1⟩, ⟨dl, 120, nod 0 840 0 0, 0⟩] dl = [⟨dl, 0, nod 0 840 0 0, 2⟩, ⟨dl, 60, nod 0 315 525 0, 1⟩, ⟨dl, 120, nod 0 840 0 0, 0⟩] := by simp [gr]
    have hb : Best 3 (pL 24 [(⟨dl, 0, nod 0 840 0 0, 2⟩ : Sg), ⟨dl, 60, nod 0 315 525 0, 1⟩, ⟨dl, 120, nod 0 840 0 0, 0⟩]) [0, 2] := best_3 p_01 p_02
    have ho : ∀ i, outC 24 [(⟨dl, 0, nod 0 840 0 0, 2⟩ : Sg), ⟨dl, 60, nod 0 315 525 0, 1⟩, ⟨dl, 120, nod 0 840 0 0, 0⟩] i ↔ i ∉ [2, 0] := fun i => by
      constructor
      · rintro ⟨ch, hc, hn⟩
        rw [best_uniq hc hb] at hn
        exact hn
      · intro hn
        exact ⟨[0, 2], hb, hn⟩
    intro i
    constructor
    · intro hi
      obtain rfl := List.mem_singleton.1 hi
      exact ⟨_, List.mem_cons_of_mem _ (List.mem_cons_self ..), rfl, by rw [hg, ho]; decide⟩
    · rintro ⟨x, hx, rfl, hc⟩
      have hxn : x.nm = dl := by
        simp only [List.mem_cons, List.not_mem_nil, or_false] at hx
        rcases hx with rfl | rfl | rfl <;> rfl
      rw [hxn, hg, ho] at hc
      simp only [List.mem_cons, List.not_mem_nil, or_false] at hx
      rcases hx with rfl | rfl | rfl
      · exact absurd (List.mem_cons_self ..) hc
      · exact List.mem_singleton_self _
      · exact absurd (List.mem_cons_of_mem _ (List.mem_cons_self ..)) hc
theorem plB_3 : plB 24 (ra 0) (rb 300) = true := by
  unfold plB
  rw [okr_a (by omega), okr_b (by omega), pls_ab, show decide ((0 : Int) ≤ 24 ∧ (24 : Int) ≤ 1000) = true from rfl]
  simp only [Bool.true_and]
  rw [decide_eq_true_iff]
  have := hp_ab.2
  omega
theorem il_02 (W : World) : IlIn (W.alloc (.cells #[.int .i64 0, .int .i64 2] 3)) (.slice (some ⟨W.heap.size, 0, none⟩) 2 2) [0, 2] :=
  ⟨rfl, .inr ⟨W.heap.size, 2, #[.int .i64 0, .int .i64 2], rfl, Nat.zero_le _, World.alloc_heap_new W _, Nat.le_refl _, by unfold maxLen; omega, rfl, rfl⟩⟩
theorem ints_is (u v : Value) (a : List Nat) (w : World) (ha : IlIn w u a) (hb : IlIn w v a) (hl : a.length ≤ 100000) :
    Calls Tryz.prog 18 #[u, v] w fun e w' => e = .returned (.bool true) ∧ Below w.heap.size w w' :=
  (ints_any u v a a w ha hb hl).mono fun e w' ⟨h1, h2⟩ => ⟨by rw [h1, decide_eq_true rfl], h2⟩
theorem plaus_3 (w : World) : Calls Tryz.prog 19 #[rqV 2 dl 0 0 840 0 0 none 0 0, rqV 2 dl 300 0 315 525 0 none 0 0, .int .i64 24] w fun e w' => e = .returned (.bool true) ∧ Below w.heap.size w w' :=
  (plausibleP_any 2 dl 0 0 840 0 0 none 0 0 2 dl 300 0 315 525 0 none 0 0 24 w).mono fun e w' ⟨h1, h2⟩ => ⟨by rw [h1]; exact congrArg (fun b => Ending.returned (.bool b)) plB_3, h2⟩
/-- The two places in memory. -/
structure Aw (w : World) (ga gb : Nat) (Y : World) : Prop where
  below : Below w.heap.size w Y
  ra : Row Y ga 32 #[.int .i64 0, .int .i64 840, .int .i64 0, .int .i64 0]
  rb : Row Y gb 32 #[.int .i64 0, .int .i64 315, .int .i64 525, .int .i64 0]
theorem Aw.under {w Y Y' : World} {ga gb : Nat} (h : Aw w ga gb Y) (hb : Below Y.heap.size Y Y') : Aw w ga gb Y' := ⟨h.below.trans (hb.mono h.below.size), h.ra.under hb, h.rb.under hb⟩
set_option maxRecDepth 100000 in
set_option maxHeartbeats 8000000 in
theorem awake_any (w : World) : Calls Tryz.prog 9 #[] w fun e w' => e = .returned (.bool true) ∧ Below w.heap.size w w' := by
  go_enter Tryz.func9, Tryz.ntmps9
  go_upto_region 2 with fail
  refine forget (Aw w w.heap.size (w.heap.size + 1)) ⟨((Below.refl _ _).alloc (Nat.le_refl _) _).alloc (by simp) _, (Row.new _ _ _).alloc _, Row.newAt (by simp)⟩ ?_
  generalize w.heap.size + 1 = gb at *
  obtain ⟨ga, hga⟩ : ∃ g, w.heap.size = g := ⟨_, rfl⟩
  rw [hga]
  clear hga
  rintro Y hY
  refine wp_region_held_drew (S := (fun w' : World => (w'.cell? ⟨ga, 0, none⟩ = some (.int .i64 0) ∧ w'.cell? ⟨ga, 1, none⟩ = some (.int .i64 840) ∧ w'.cell? ⟨ga, 2, none⟩ = some (.int .i64 0) ∧ w'.cell? ⟨ga, 3, none⟩ = some (.int .i64 0)) ∧ (w'.cell? ⟨gb, 0, none⟩ = some (.int .i64 0) ∧ w'.cell? ⟨gb, 1, none⟩ = some (.int .i64 315) ∧ w'.cell? ⟨gb, 2, none⟩ = some (.int .i64 525) ∧ w'.cell? ⟨gb, 3, none⟩ = some (.int .i64 0)))) (by kernel_rfl) ⟨row4 hY.ra, row4 hY.rb⟩ (fun hHeld => ?_)
  have HY := Lib.hid (hY.under (below_drewN (Below.refl _ _) 1) : Aw w ga gb Y.drew)
  clear hY
  generalize Y.drew = X at *
  refine tk 0 (oi := ⟨some 10, _, _, _, _, none⟩) rfl ?_
  try go_frame
  refine tk 2 (oi := ⟨some 12, _, _, _, _, none⟩) rfl ?_
  try go_frame
  refine tk 4 (oi := ⟨some 14, _, _, _, _, none⟩) rfl ?_
  try go_frame
  refine wpAnyH_ready (rs := [1]) (by kernel_rfl) (by simp) ?_
  refine AllReadyH.cons (o := ⟨some 11, _, _, _, _, none⟩) rfl (fun K hK => ?_) AllReadyH.nil
  go_simp
  refine (at_a 0 _).mono ?_
  rintro e X2 ⟨rfl, hb⟩
  go_wp2_with fail
  clear hHeld
  have HY2 := Lib.hid (HY.out.under hb)
  clear HY
  have HY := HY2
  clear HY2
  clear hb
  refine hK.out _ _ ⟨row4 HY.out.ra, row4 HY.out.rb⟩ (fun hHeld => ?_)
  clear hK K
  try simp only [Act.put]
  generalize X2 = X3 at *
  clear X
  generalize X3 = X at *
  refine wpAnyH_ready (rs := [3]) (by kernel_rfl) (by simp) ?_
  refine AllReadyH.cons (o := ⟨some 13, _, _, _, _, none⟩) rfl (fun K hK => ?_) AllReadyH.nil
  go_simp
  refine (at_b 60 _).mono ?_
  rintro e X2 ⟨rfl, hb⟩
  go_wp2_with fail
  clear hHeld
  have HY2 := Lib.hid (HY.out.under hb)
  clear HY
  have HY := HY2
  clear HY2
  clear hb
  refine hK.out _ _ ⟨row4 HY.out.ra, row4 HY.out.rb⟩ (fun hHeld => ?_)
  clear hK K
  try simp only [Act.put]
  generalize X2 = X3 at *
  clear X
  generalize X3 = X at *
  refine wpAnyH_ready (rs := [5]) (by kernel_rfl) (by simp) ?_
  refine AllReadyH.cons (o := ⟨some 15, _, _, _, _, none⟩) rfl (fun K hK => ?_) AllReadyH.nil
  go_simp
  refine (at_a 120 _).mono ?_
  rintro e X2 ⟨rfl, hb⟩
  go_wp2_with fail
  clear hHeld
  have HY2 := Lib.hid (HY.out.under hb)
  clear HY
  have HY := HY2
  clear HY2
  clear hb
  refine hK.out _ _ ⟨row4 HY.out.ra, row4 HY.out.rb⟩ (fun hHeld => ?_)
  clear hK K
  try simp only [Act.put]
  generalize X2 = X3 at *
  clear X
  generalize X3 = X at *
  refine wpAnyH_ready (rs := [6]) (by kernel_rfl) (by simp) ?_
  refine AllReadyH.cons (o := ⟨some 16, _, _, _, _, none⟩) rfl (fun K hK => ?_) AllReadyH.nil
  go_simp
  clear hHeld
  have hb : Below X.heap.size X (X.alloc (.cells #[.int .i64 2, .string dl, .int .i64 0, .int .i64 0, .int .i64 840, .int .i64 0, .int .i64 0, .slice none 0 0, .int .i64 2, .string dl, .int .i64 60, .int .i64 0, .int .i64 315, .int .i64 525, .int .i64 0, .slice none 0 0, .int .i64 2, .string dl, .int .i64 120, .int .i64 0, .int .i64 840, .int .i64 0, .int .i64 0, .slice none 0 0] 35)) := (Below.refl _ _).alloc (Nat.le_refl _) _
  have HR := Lib.hid (RqIn.row (R := [ra 0, rb 60, ra 120]) (Row.new X #[.int .i64 2, .string dl, .int .i64 0, .int .i64 0, .int .i64 840, .int .i64 0, .int .i64 0, .slice none 0 0, .int .i64 2, .string dl, .int .i64 60, .int .i64 0, .int .i64 315, .int .i64 525, .int .i64 0, .slice none 0 0, .int .i64 2, .string dl, .int .i64 120, .int .i64 0, .int .i64 840, .int .i64 0, .int .i64 0, .slice none 0 0] 35 : Row (X.alloc (.cells #[.int .i64 2, .string dl, .int .i64 0, .int .i64 0, .int .i64 840, .int .i64 0, .int .i64 0, .slice none 0 0, .int .i64 2, .string dl, .int .i64 60, .int .i64 0, .int .i64 315, .int .i64 525, .int .i64 0, .slice none 0 0, .int .i64 2, .string dl, .int .i64 120, .int .i64 0, .int .i64 840, .int .i64 0, .int .i64 0, .slice none 0 0] 35)) X.heap.size 35 (rqc [ra 0, rb 60, ra 120]).toArray) (by decide))
  have HY2 := Lib.hid (HY.out.under hb)
  clear HY
  have HY := HY2
  clear HY2
  clear hb
  refine hK.out _ _ ⟨row4 HY.out.ra, row4 HY.out.rb⟩ (fun hHeld => ?_)
  clear hK K
  try simp only [Act.put]
  generalize X.heap.size = gs at *
  generalize X.alloc (.cells #[.int .i64 2, .string dl, .int .i64 0, .int .i64 0, .int .i64 840, .int .i64 0, .int .i64 0, .slice none 0 0, .int .i64 2, .string dl, .int .i64 60, .int .i64 0, .int .i64 315, .int .i64 525, .int .i64 0, .slice none 0 0, .int .i64 2, .string dl, .int .i64 120, .int .i64 0, .int .i64 840, .int .i64 0, .int .i64 0, .slice none 0 0] 35) = X3 at *
  clear X
  generalize X3 = X at *
  refine wpAnyH_ready (rs := [7]) (by kernel_rfl) (by simp) ?_
  refine AllReadyH.cons (o := ⟨some 17, _, _, _, _, none⟩) rfl (fun K hK => ?_) AllReadyH.nil
  go_simp
  refine (chainP_any _ [ra 0, rb 60, ra 120] 24 _ HR.out (by decide)).mono ?_
  rintro e X2 ⟨l, c, v1, ht, rfl, hi, hb⟩
  obtain ⟨rfl, rfl⟩ := ctag_3 ht
  have I1 := Lib.hid hi
  clear hi ht HR
  go_wp2_with fail
  clear hHeld
  have HY2 := Lib.hid (HY.out.under hb)
  clear HY
  have HY := HY2
  clear HY2
  clear hb
  refine hK.out _ _ ⟨row4 HY.out.ra, row4 HY.out.rb⟩ (fun hHeld => ?_)
  clear hK K
  try simp only [Act.put]
  generalize X2 = X3 at *
  clear X
  generalize X3 = X at *
  refine tk 8 (oi := ⟨some 9, _, _, _, _, none⟩) rfl ?_
  try go_frame
  refine tk 9 (oi := ⟨some 18, _, _, _, _, none⟩) rfl ?_
  try go_frame
  refine tk 10 (oi := ⟨some 19, _, _, _, _, none⟩) rfl ?_
  try go_frame
  refine tk 11 (oi := ⟨some 3, _, _, _, _, none⟩) rfl ?_
  try go_frame
  refine tk 12 (oi := ⟨some 4, _, _, _, _, none⟩) rfl ?_
  try go_frame
  refine wpAnyH_done (by kernel_rfl) ?_ _
  clear hHeld
  have hY := HY.out
  clear HY
  generalize X = Y at *
  go_upto_region 3 with fail
  refine wp_region_held_drew (S := (fun w' : World => (w'.cell? ⟨ga, 0, none⟩ = some (.int .i64 0) ∧ w'.cell? ⟨ga, 1, none⟩ = some (.int .i64 840) ∧ w'.cell? ⟨ga, 2, none⟩ = some (.int .i64 0) ∧ w'.cell? ⟨ga, 3, none⟩ = some (.int .i64 0)) ∧ (w'.cell? ⟨gb, 0, none⟩ = some (.int .i64 0) ∧ w'.cell? ⟨gb, 1, none⟩ = some (.int .i64 315) ∧ w'.cell? ⟨gb, 2, none⟩ = some (.int .i64 525) ∧ w'.cell? ⟨gb, 3, none⟩ = some (.int .i64 0)))) (by kernel_rfl) ⟨row4 hY.ra, row4 hY.rb⟩ (fun hHeld => ?_)
  have HY := Lib.hid (hY.under (below_drewN (Below.refl _ _) 1) : Aw w ga gb Y.drew)
  clear hY
  have I12 := Lib.hid (I1.out.under (below_drewN (Below.refl _ _) 1) : IlIn Y.drew _ _)
  clear I1
  have I1 := I12
  clear I12
  generalize Y.drew = X at *
  refine tk 0 (oi := ⟨some 21, _, _, _, _, none⟩) rfl ?_
  try go_frame
  refine tk 2 (oi := ⟨some 23, _, _, _, _, none⟩) rfl ?_
  try go_frame
  refine tk 4 (oi := ⟨some 25, _, _, _, _, none⟩) rfl ?_
  try go_frame
  refine wpAnyH_ready (rs := [1]) (by kernel_rfl) (by simp) ?_
  refine AllReadyH.cons (o := ⟨some 22, _, _, _, _, none⟩) rfl (fun K hK => ?_) AllReadyH.nil
  go_simp
  refine (at_a 120 _).mono ?_
  rintro e X2 ⟨rfl, hb⟩
  go_wp2_with fail
  clear hHeld
  have HY2 := Lib.hid (HY.out.under hb)
  clear HY
  have HY := HY2
  clear HY2
  have I12 := Lib.hid (I1.out.under hb)
  clear I1
  have I1 := I12
  clear I12
  clear hb
  refine hK.out _ _ ⟨row4 HY.out.ra, row4 HY.out.rb⟩ (fun hHeld => ?_)
  clear hK K
  try simp only [Act.put]
  generalize X2 = X3 at *
  clear X
  generalize X3 = X at *
  refine wpAnyH_ready (rs := [3]) (by kernel_rfl) (by simp) ?_
  refine AllReadyH.cons (o := ⟨some 24, _, _, _, _, none⟩) rfl (fun K hK => ?_) AllReadyH.nil
  go_simp
  refine (at_b 60 _).mono ?_
  rintro e X2 ⟨rfl, hb⟩
  go_wp2_with fail
  clear hHeld
  have HY2 := Lib.hid (HY.out.under hb)
  clear HY
  have HY := HY2
  clear HY2
  have I12 := Lib.hid (I1.out.under hb)
  clear I1
  have I1 := I12
  clear I12
  clear hb
  refine hK.out _ _ ⟨row4 HY.out.ra, row4 HY.out.rb⟩ (fun hHeld => ?_)
  clear hK K
  try simp only [Act.put]
  generalize X2 = X3 at *
  clear X
  generalize X3 = X at *
  refine wpAnyH_ready (rs := [5]) (by kernel_rfl) (by simp) ?_
  refine AllReadyH.cons (o := ⟨some 26, _, _, _, _, none⟩) rfl (fun K hK => ?_) AllReadyH.nil
  go_simp
  refine (at_a 0 _).mono ?_
  rintro e X2 ⟨rfl, hb⟩
  go_wp2_with fail
  clear hHeld
  have HY2 := Lib.hid (HY.out.under hb)
  clear HY
  have HY := HY2
  clear HY2
  have I12 := Lib.hid (I1.out.under hb)
  clear I1
  have I1 := I12
  clear I12
  clear hb
  refine hK.out _ _ ⟨row4 HY.out.ra, row4 HY.out.rb⟩ (fun hHeld => ?_)
  clear hK K
  try simp only [Act.put]
  generalize X2 = X3 at *
  clear X
  generalize X3 = X at *
  refine wpAnyH_ready (rs := [6]) (by kernel_rfl) (by simp) ?_
  refine AllReadyH.cons (o := ⟨some 27, _, _, _, _, none⟩) rfl (fun K hK => ?_) AllReadyH.nil
  go_simp
  clear hHeld
  have hb : Below X.heap.size X (X.alloc (.cells #[.int .i64 2, .string dl, .int .i64 120, .int .i64 0, .int .i64 840, .int .i64 0, .int .i64 0, .slice none 0 0, .int .i64 2, .string dl, .int .i64 60, .int .i64 0, .int .i64 315, .int .i64 525, .int .i64 0, .slice none 0 0, .int .i64 2, .string dl, .int .i64 0, .int .i64 0, .int .i64 840, .int .i64 0, .int .i64 0, .slice none 0 0] 35)) := (Below.refl _ _).alloc (Nat.le_refl _) _
  have HR := Lib.hid (RqIn.row (R := [ra 120, rb 60, ra 0]) (Row.new X #[.int .i64 2, .string dl, .int .i64 120, .int .i64 0, .int .i64 840, .int .i64 0, .int .i64 0, .slice none 0 0, .int .i64 2, .string dl, .int .i64 60, .int .i64 0, .int .i64 315, .int .i64 525, .int .i64 0, .slice none 0 0, .int .i64 2, .string dl, .int .i64 0, .int .i64 0, .int .i64 840, .int .i64 0, .int .i64 0, .slice none 0 0] 35 : Row (X.alloc (.cells #[.int .i64 2, .string dl, .int .i64 120, .int .i64 0, .int .i64 840, .int .i64 0, .int .i64 0, .slice none 0 0, .int .i64 2, .string dl, .int .i64 60, .int .i64 0, .int .i64 315, .int .i64 525, .int .i64 0, .slice none 0 0, .int .i64 2, .string dl, .int .i64 0, .int .i64 0, .int .i64 840, .int .i64 0, .int .i64 0, .slice none 0 0] 35)) X.heap.size 35 (rqc [ra 120, rb 60, ra 0]).toArray) (by decide))
  have HY2 := Lib.hid (HY.out.under hb)
  clear HY
  have HY := HY2
  clear HY2
  have I12 := Lib.hid (I1.out.under hb)
  clear I1
  have I1 := I12
  clear I12
  clear hb
  refine hK.out _ _ ⟨row4 HY.out.ra, row4 HY.out.rb⟩ (fun hHeld => ?_)
  clear hK K
  try simp only [Act.put]
  generalize X.heap.size = gs at *
  generalize X.alloc (.cells #[.int .i64 2, .string dl, .int .i64 120, .int .i64 0, .int .i64 840, .int .i64 0, .int .i64 0, .slice none 0 0, .int .i64 2, .string dl, .int .i64 60, .int .i64 0, .int .i64 315, .int .i64 525, .int .i64 0, .slice none 0 0, .int .i64 2, .string dl, .int .i64 0, .int .i64 0, .int .i64 840, .int .i64 0, .int .i64 0, .slice none 0 0] 35) = X3 at *
  clear X
  generalize X3 = X at *
  refine wpAnyH_ready (rs := [7]) (by kernel_rfl) (by simp) ?_
  refine AllReadyH.cons (o := ⟨some 28, _, _, _, _, none⟩) rfl (fun K hK => ?_) AllReadyH.nil
  go_simp
  refine (suspectsP_any _ [ra 120, rb 60, ra 0] 24 _ HR.out (by decide) (fun r hr => by simp only [List.mem_cons, List.not_mem_nil, or_false] at hr; rcases hr with rfl | rfl | rfl <;> exact (by decide : 5 ≤ maxLen))).mono ?_
  rintro e X2 ⟨l, c, v2, ht, rfl, hi, hb⟩
  obtain ⟨rfl, rfl⟩ := sus_3 ht
  have I2 := Lib.hid hi
  clear hi ht HR
  go_wp2_with fail
  clear hHeld
  have HY2 := Lib.hid (HY.out.under hb)
  clear HY
  have HY := HY2
  clear HY2
  have I12 := Lib.hid (I1.out.under hb)
  clear I1
  have I1 := I12
  clear I12
  clear hb
  refine hK.out _ _ ⟨row4 HY.out.ra, row4 HY.out.rb⟩ (fun hHeld => ?_)
  clear hK K
  try simp only [Act.put]
  generalize X2 = X3 at *
  clear X
  generalize X3 = X at *
  refine tk 8 (oi := ⟨some 20, _, _, _, _, none⟩) rfl ?_
  try go_frame
  refine tk 9 (oi := ⟨some 29, _, _, _, _, none⟩) rfl ?_
  try go_frame
  refine tk 10 (oi := ⟨some 30, _, _, _, _, none⟩) rfl ?_
  try go_frame
  refine tk 11 (oi := ⟨some 5, _, _, _, _, none⟩) rfl ?_
  try go_frame
  refine tk 12 (oi := ⟨some 6, _, _, _, _, none⟩) rfl ?_
  try go_frame
  refine wpAnyH_done (by kernel_rfl) ?_ _
  clear hHeld
  have hY := HY.out
  clear HY
  generalize X = Y at *
  obtain ⟨A1, c1, rfl⟩ := il_form I1.out
  obtain ⟨A2, c2, rfl⟩ := il_form I2.out
  go_upto_region 4 with fail
  refine wp_region_held_drew (S := (fun w' : World => (w'.cell? ⟨ga, 0, none⟩ = some (.int .i64 0) ∧ w'.cell? ⟨ga, 1, none⟩ = some (.int .i64 840) ∧ w'.cell? ⟨ga, 2, none⟩ = some (.int .i64 0) ∧ w'.cell? ⟨ga, 3, none⟩ = some (.int .i64 0)) ∧ (w'.cell? ⟨gb, 0, none⟩ = some (.int .i64 0) ∧ w'.cell? ⟨gb, 1, none⟩ = some (.int .i64 315) ∧ w'.cell? ⟨gb, 2, none⟩ = some (.int .i64 525) ∧ w'.cell? ⟨gb, 3, none⟩ = some (.int .i64 0)))) (by kernel_rfl) ⟨row4 hY.ra, row4 hY.rb⟩ (fun hHeld => ?_)
  have HY := Lib.hid (hY.under (below_drewN (Below.refl _ _) 1) : Aw w ga gb Y.drew)
  clear hY
  have I12 := Lib.hid (I1.out.under (below_drewN (Below.refl _ _) 1) : IlIn Y.drew _ _)
  clear I1
  have I1 := I12
  clear I12
  have I22 := Lib.hid (I2.out.under (below_drewN (Below.refl _ _) 1) : IlIn Y.drew _ _)
  clear I2
  have I2 := I22
  clear I22
  generalize Y.drew = X at *
  refine tk 0 (oi := ⟨some 31, _, _, _, _, none⟩) rfl ?_
  try go_frame
  refine tk 1 (oi := ⟨some 32, _, _, _, _, none⟩) rfl ?_
  try go_frame
  refine tk 2 (oi := ⟨some 33, _, _, _, _, none⟩) rfl ?_
  try go_frame
  refine tk 3 (oi := ⟨some 34, _, _, _, _, some _⟩) rfl ?_
  try go_frame
  refine tk 4 (oi := ⟨some 35, _, _, _, _, some _⟩) rfl ?_
  try go_frame
  refine tk 5 (oi := ⟨some 36, _, _, _, _, none⟩) rfl ?_
  try go_frame
  refine tk 6 (oi := ⟨some 37, _, _, _, _, none⟩) rfl ?_
  try go_frame
  refine tk 7 (oi := ⟨some 38, _, _, _, _, some _⟩) rfl ?_
  try go_frame
  refine wpAnyH_ready (rs := [8]) (by kernel_rfl) (by simp) ?_
  refine AllReadyH.cons (o := ⟨some 39, _, _, _, _, some _⟩) rfl (fun K hK => ?_) AllReadyH.nil
  go_simp
  clear hHeld
  have hb : Below X.heap.size X (X.alloc (.cells #[.int .i64 0, .int .i64 2] 3)) := (Below.refl _ _).alloc (Nat.le_refl _) _
  have I3 := Lib.hid (il_02 X)
  have HY2 := Lib.hid (HY.out.under hb)
  clear HY
  have HY := HY2
  clear HY2
  have I12 := Lib.hid (I1.out.under hb)
  clear I1
  have I1 := I12
  clear I12
  have I22 := Lib.hid (I2.out.under hb)
  clear I2
  have I2 := I22
  clear I22
  clear hb
  refine hK.out _ _ ⟨row4 HY.out.ra, row4 HY.out.rb⟩ (fun hHeld => ?_)
  clear hK K
  try simp only [Act.put]
  generalize X.heap.size = gs at *
  generalize X.alloc (.cells #[.int .i64 0, .int .i64 2] 3) = X3 at *
  clear X
  generalize X3 = X at *
  refine wpAnyH_ready (rs := [9]) (by kernel_rfl) (by simp) ?_
  refine AllReadyH.cons (o := ⟨some 40, _, _, _, _, some _⟩) rfl (fun K hK => ?_) AllReadyH.nil
  go_simp
  refine (ints_is _ _ [0, 2] _ I1.out I3.out (by decide)).mono ?_
  rintro e X2 ⟨rfl, hb⟩
  clear I1 I3
  go_wp2_with fail
  clear hHeld
  have HY2 := Lib.hid (HY.out.under hb)
  clear HY
  have HY := HY2
  clear HY2
  have I22 := Lib.hid (I2.out.under hb)
  clear I2
  have I2 := I22
  clear I22
  clear hb
  refine hK.out _ _ ⟨row4 HY.out.ra, row4 HY.out.rb⟩ (fun hHeld => ?_)
  clear hK K
  try simp only [Act.put]
  generalize X2 = X3 at *
  clear X
  generalize X3 = X at *
  refine tk 10 (oi := ⟨some 41, _, _, _, _, none⟩) rfl ?_
  try go_frame
  refine tk 11 (oi := ⟨some 42, _, _, _, _, none⟩) rfl ?_
  try go_frame
  refine tk 12 (oi := ⟨some 43, _, _, _, _, some _⟩) rfl ?_
  try go_frame
  refine wpAnyH_ready (rs := [13]) (by kernel_rfl) (by simp) ?_
  refine AllReadyH.cons (o := ⟨some 44, _, _, _, _, some _⟩) rfl (fun K hK => ?_) AllReadyH.nil
  go_simp
  clear hHeld
  have hb : Below X.heap.size X (X.alloc (.cells #[.int .i64 1] 3)) := (Below.refl _ _).alloc (Nat.le_refl _) _
  have I4 := Lib.hid (il_one (B := 0) X 1)
  have HY2 := Lib.hid (HY.out.under hb)
  clear HY
  have HY := HY2
  clear HY2
  have I22 := Lib.hid (I2.out.under hb)
  clear I2
  have I2 := I22
  clear I22
  clear hb
  refine hK.out _ _ ⟨row4 HY.out.ra, row4 HY.out.rb⟩ (fun hHeld => ?_)
  clear hK K
  try simp only [Act.put]
  generalize X.heap.size = gs at *
  generalize X.alloc (.cells #[.int .i64 1] 3) = X3 at *
  clear X
  generalize X3 = X at *
  refine wpAnyH_ready (rs := [14]) (by kernel_rfl) (by simp) ?_
  refine AllReadyH.cons (o := ⟨some 45, _, _, _, _, some _⟩) rfl (fun K hK => ?_) AllReadyH.nil
  go_simp
  refine (ints_is _ _ [1] _ I2.out I4.out (by decide)).mono ?_
  rintro e X2 ⟨rfl, hb⟩
  clear I2 I4
  go_wp2_with fail
  clear hHeld
  have HY2 := Lib.hid (HY.out.under hb)
  clear HY
  have HY := HY2
  clear HY2
  clear hb
  refine hK.out _ _ ⟨row4 HY.out.ra, row4 HY.out.rb⟩ (fun hHeld => ?_)
  clear hK K
  try simp only [Act.put]
  generalize X2 = X3 at *
  clear X
  generalize X3 = X at *
  refine tk 15 (oi := ⟨some 46, _, _, _, _, none⟩) rfl ?_
  try go_frame
  refine tk 16 (oi := ⟨some 47, _, _, _, _, none⟩) rfl ?_
  try go_frame
  refine tk 17 (oi := ⟨some 48, _, _, _, _, some _⟩) rfl ?_
  try go_frame
  refine tk 19 (oi := ⟨some 50, _, _, _, _, some _⟩) rfl ?_
  try go_frame
  refine wpAnyH_ready (rs := [18]) (by kernel_rfl) (by simp) ?_
  refine AllReadyH.cons (o := ⟨some 49, _, _, _, _, some _⟩) rfl (fun K hK => ?_) AllReadyH.nil
  go_simp
  refine (at_a 0 _).mono ?_
  rintro e X2 ⟨rfl, hb⟩
  go_wp2_with fail
  clear hHeld
  have HY2 := Lib.hid (HY.out.under hb)
  clear HY
  have HY := HY2
  clear HY2
  clear hb
  refine hK.out _ _ ⟨row4 HY.out.ra, row4 HY.out.rb⟩ (fun hHeld => ?_)
  clear hK K
  try simp only [Act.put]
  generalize X2 = X3 at *
  clear X
  generalize X3 = X at *
  refine wpAnyH_ready (rs := [20]) (by kernel_rfl) (by simp) ?_
  refine AllReadyH.cons (o := ⟨some 51, _, _, _, _, some _⟩) rfl (fun K hK => ?_) AllReadyH.nil
  go_simp
  refine (at_b 300 _).mono ?_
  rintro e X2 ⟨rfl, hb⟩
  go_wp2_with fail
  clear hHeld
  have HY2 := Lib.hid (HY.out.under hb)
  clear HY
  have HY := HY2
  clear HY2
  clear hb
  refine hK.out _ _ ⟨row4 HY.out.ra, row4 HY.out.rb⟩ (fun hHeld => ?_)
  clear hK K
  try simp only [Act.put]
  generalize X2 = X3 at *
  clear X
  generalize X3 = X at *
  refine wpAnyH_ready (rs := [21]) (by kernel_rfl) (by simp) ?_
  refine AllReadyH.cons (o := ⟨some 52, _, _, _, _, some _⟩) rfl (fun K hK => ?_) AllReadyH.nil
  go_simp
  refine (plaus_3 _).mono ?_
  rintro e X2 ⟨rfl, hb⟩
  go_wp2_with fail
  clear hHeld
  have HY2 := Lib.hid (HY.out.under hb)
  clear HY
  have HY := HY2
  clear HY2
  clear hb
  refine hK.out _ _ ⟨row4 HY.out.ra, row4 HY.out.rb⟩ (fun hHeld => ?_)
  clear hK K
  try simp only [Act.put]
  generalize X2 = X3 at *
  clear X
  generalize X3 = X at *
  refine tk 22 (oi := ⟨some 53, _, _, _, _, none⟩) rfl ?_
  try go_frame
  refine tk 23 (oi := ⟨some 0, _, _, _, _, none⟩) rfl ?_
  try go_frame
  refine wpAnyH_done (by kernel_rfl) ?_ _
  go_wp2_with fail
  go_ret
  exact ⟨rfl, HY.out.below⟩
end Go.Proofs.YtejoabaanclcbaaGreat.Tk

