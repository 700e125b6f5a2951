/- A normal is searched for by its key. -/
import Derived.Test.YtlakgkoohdfiaaaDoorQal
namespace Go.Proofs.YtlakgkoohdfiaaaDoor
open Go.RowKit

/-- What the search answers. -/
def SrchR (w : World) (N : List Cm.N5) (k : Cm.K3) (e : Ending) (w' : World) : Prop :=
  Below w.heap.size w w' ∧ ((∃ i, ∃ h : i < N.length, Cm.key N[i] = k ∧ e = .returned (.tuple #[.int .i64 (i : Nat), .bool true])) ∨ ((∀ i, ∀ h : i < N.length, Cm.key N[i] ≠ k) ∧ ∃ i : Nat, e = .returned (.tuple #[.int .i64 i, .bool false])))
set_option maxRecDepth 100000 in
set_option maxHeartbeats 4000000 in
theorem search_any (v : Value) (N : List Cm.N5) (t : Cm.N5) (w : World) (hN : NrIn w v N) (hA : Cm.AscN N) (hl : N.length ≤ 200) :
    Calls Tryd.prog 64 #[v, nV t, .func (.func 58) #[] #[]] w (SrchR w N (Cm.key t)) := by
  have b0 : Below w.heap.size w (w.alloc (.cells (encN t).toArray 50)) := (Below.refl _ _).alloc (Nat.le_refl _) _
  have r0 := Row.new w (encN t).toArray 50
  obtain ⟨A, cap, rfl, h1, h2, -⟩ := id hN
  have HA := Lib.hid hA
  have IN : Hid (NrIn (w.alloc (.cells (encN t).toArray 50)) (.slice A N.length cap) N ∧ Row (w.alloc (.cells (encN t).toArray 50)) w.heap.size 50 (encN t).toArray ∧ Below w.heap.size w (w.alloc (.cells (encN t).toArray 50))) := Lib.hid ⟨hN.under b0, r0, b0⟩
  obtain ⟨t0, t1, t2, t3, t4⟩ := t
  clear hN b0 r0 hA
  show Calls Tryd.prog 64 #[.slice A N.length cap, .agg #[.int .i64 t0, .int .i64 t1, .int .i64 t2, .int .i64 t3, .int .i64 t4], .func (.func 58) #[] #[]] w (SrchR w N (t0, t1, t2))
  go_enter Tryd.func64, Tryd.ntmps64
  go_upto_region 1 with fail
  refine forget (fun Y => Hid (NrIn Y (.slice A N.length cap) N ∧ Row Y w.heap.size 50 #[.int .i64 t0, .int .i64 t1, .int .i64 t2, .int .i64 t3, .int .i64 t4] ∧ Below w.heap.size w Y)) IN ?_
  clear IN
  generalize hB : w.heap.size = gb at *
  rintro Y IY
  go_wp2_with fail
  go_loopw [9, 10] (fun p q wr => ∃ a b : Nat, p = .int .i64 a ∧ q = .int .i64 b ∧ a ≤ b ∧ b ≤ N.length ∧ Hid (NrIn wr (.slice A N.length cap) N ∧ Row wr gb 50 #[.int .i64 t0, .int .i64 t1, .int .i64 t2, .int .i64 t3, .int .i64 t4] ∧ Below gb w wr) ∧ Hid ((∀ j, ∀ h : j < N.length, j < a → Cm.lt3 (Cm.key N[j]) (t0, t1, t2)) ∧ ∀ j, ∀ h : j < N.length, b ≤ j → ¬ Cm.lt3 (Cm.key N[j]) (t0, t1, t2))) (fun p q _ => (intOf q - intOf p).toNat)
  case atStart => exact ⟨0, N.length, rfl, rfl, Nat.zero_le _, Nat.le_refl _, IY, Lib.hid ⟨fun j h h' => by omega, fun j h h' => by omega⟩⟩
  case round =>
    clear IY
    obtain ⟨a, b, rfl, rfl, hab, hb, IR, HI⟩ := hrel
    by_cases hlt : a < b
    · obtain ⟨m, hm⟩ : ∃ m, (a + b) / 2 = m := ⟨_, rfl⟩
      have k0 : (a : Int) < (b : Int) := by omega
      have x1 : IntKind.i64.wrap ((a : Int) + (b : Int)) = (a : Int) + (b : Int) := IntWalk.i64_in _ (by omega)
      go_upto_region 5 with fail
      --MARK
      have e9 : ((a : Int) + (b : Int)) / 2 = (m : Int) := by omega
      rw [e9]
      have hml : m < N.length := by omega
      have hma : a ≤ m := by omega
      have hmb : m < b := by omega
      clear hm e9 x1
      obtain ⟨g, off, rfl, hgl, a0, a1, a2, a3, a4⟩ := IR.out.1.at (i := m) hml
      obtain ⟨q0, q1, q2, q3, q4⟩ := row5 IR.out.2.1
      have HK : Hid ((Cm.lt3 (Cm.key N[m]) (t0, t1, t2) → (∀ j, ∀ h : j < N.length, j < m + 1 → Cm.lt3 (Cm.key N[j]) (t0, t1, t2))) ∧ (¬ Cm.lt3 (Cm.key N[m]) (t0, t1, t2) → ∀ j, ∀ h : j < N.length, m ≤ j → ¬ Cm.lt3 (Cm.key N[j]) (t0, t1, t2))) := Lib.hid ⟨fun hk j h h' => by
        rcases (by omega : j < m ∨ j = m) with q | rfl
        · exact Cm.lt3_trans (Cm.ascN_at HA.out q hml) hk
        · exact hk, fun hk j h h' hj => by
        rcases (by omega : m < j ∨ j = m) with q | rfl
        · exact hk (Cm.lt3_trans (Cm.ascN_at HA.out q h) hj)
        · exact hk hj⟩
      have k1 : (0 : Int) ≤ (m : Int) := by omega
      have k2 : (m : Int) < (N.length : Int) := by omega
      have x2 : IntKind.i64.wrap (m : Int) = (m : Int) := IntWalk.i64_in _ (by omega)
      generalize N[m] = x at *
      obtain ⟨x0, x3, x4, x5, x6⟩ := x
      simp only at a0 a1 a2 a3 a4
      have HO := Lib.hid (order_any (x0, x3, x4, x5, x6) (t0, t1, t2, t3, t4) wr.drew)
      refine wp_region_held_drew (S := fun w' : World => (w'.cell? ⟨gb, 0, none⟩ = some (.int .i64 t0) ∧ w'.cell? ⟨gb, 1, none⟩ = some (.int .i64 t1) ∧ w'.cell? ⟨gb, 2, none⟩ = some (.int .i64 t2) ∧ w'.cell? ⟨gb, 3, none⟩ = some (.int .i64 t3) ∧ w'.cell? ⟨gb, 4, none⟩ = some (.int .i64 t4)) ∧ (w'.cell? ⟨g, off + m * 5, none⟩ = some (.int .i64 x0) ∧ w'.cell? ⟨g, off + m * 5 + 1, none⟩ = some (.int .i64 x3) ∧ w'.cell? ⟨g, off + m * 5 + 2, none⟩ = some (.int .i64 x4) ∧ w'.cell? ⟨g, off + m * 5 + 3, none⟩ = some (.int .i64 x5) ∧ w'.cell? ⟨g, off + m * 5 + 4, none⟩ = some (.int .i64 x6))) (by kernel_rfl) ⟨⟨q0, q1, q2, q3, q4⟩, a0, a1, a2, a3, a4⟩ (fun hHeld => ?_)
      refine tk 0 rfl ?_
      try go_frame
      refine tk 1 rfl ?_
      try go_frame
      refine tk 2 rfl ?_
      try go_frame
      refine tk 3 rfl ?_
      try go_frame
      refine tk 4 rfl ?_
      try go_frame
      refine tk 5 rfl ?_
      try go_frame
      refine wpAnyH_ready (rs := [6]) (by kernel_rfl) (by simp) ?_
      refine AllReadyH.cons rfl (fun K hK => ?_) AllReadyH.nil
      go_simp
      rcases Cm.cmp3_cases (x0, x3, x4) (t0, t1, t2) with ⟨hlt3, hcm⟩ | hge
      · have HA2 := Lib.hid (HK.out.1 hlt3)
        have HE : Hid (Cm.cmp3 (Cm.key (x0, x3, x4, x5, x6)) (Cm.key (t0, t1, t2, t3, t4)) = -1) := Lib.hid hcm
        clear hlt3 hcm HK
        refine HO.out.mono ?_
        rintro e w3 ⟨rfl, g3⟩
        rw [HE.out]
        have G3 : Hid (Below wr.heap.size wr w3) := Lib.hid (undrew g3.below)
        clear g3 HO
        have C := fun j => G3.out.cell (p := ⟨g, j, none⟩) hgl
        have SS := And.intro (row5 (IR.out.2.1.under G3.out)) (And.intro ((C _).trans a0) (And.intro ((C _).trans a1) (And.intro ((C _).trans a2) (And.intro ((C _).trans a3) ((C _).trans a4)))))
        clear C
        have I3 := Lib.hid (And.intro (IR.out.1.under G3.out) (And.intro (IR.out.2.1.under G3.out) (IR.out.2.2.trans (G3.out.mono (hB ▸ IR.out.2.2.size)))))
        go_wp2_with fail
        refine hK.out _ _ SS (fun hHeld2 => ?_)
        clear hK K hHeld SS
        try go_frame
        refine tk 7 (oi := ⟨some 31, _, _, _, _, none⟩) rfl ?_
        try go_frame
        refine wpAnyH_done (by kernel_rfl) ?_ _
        clear hHeld2 a0 a1 a2 a3 a4 q0 q1 q2 q3 q4
        go_wp2_with fail
        go_roundw
        case rel => exact ⟨m + 1, b, by go_num, rfl, by omega, hb, I3, Lib.hid ⟨HA2.out, HI.out.2⟩⟩
        case measure => simp [intOf]; omega
      · have HA2 := Lib.hid (HK.out.2 (fun h => by
          rcases hge with ⟨e, -⟩ | ⟨h2, -⟩
          · have h' : Cm.lt3 (x0, x3, x4) (t0, t1, t2) := h
            rw [e] at h'
            exact Cm.lt3_irr h'
          · exact Cm.lt3_irr (Cm.lt3_trans h h2)))
        obtain ⟨q, HE, hq⟩ : ∃ q : Int, Hid (Cm.cmp3 (Cm.key (x0, x3, x4, x5, x6)) (Cm.key (t0, t1, t2, t3, t4)) = q) ∧ 0 ≤ q := by
          rcases hge with ⟨-, e⟩ | ⟨-, e⟩
          · exact ⟨0, Lib.hid e, by omega⟩
          · exact ⟨1, Lib.hid e, by omega⟩
        clear hge HK
        refine HO.out.mono ?_
        rintro e w3 ⟨rfl, g3⟩
        rw [HE.out]
        have G3 : Hid (Below wr.heap.size wr w3) := Lib.hid (undrew g3.below)
        clear g3 HO
        have C := fun j => G3.out.cell (p := ⟨g, j, none⟩) hgl
        have SS := And.intro (row5 (IR.out.2.1.under G3.out)) (And.intro ((C _).trans a0) (And.intro ((C _).trans a1) (And.intro ((C _).trans a2) (And.intro ((C _).trans a3) ((C _).trans a4)))))
        clear C
        have I3 := Lib.hid (And.intro (IR.out.1.under G3.out) (And.intro (IR.out.2.1.under G3.out) (IR.out.2.2.trans (G3.out.mono (hB ▸ IR.out.2.2.size)))))
        go_wp2_with fail
        refine hK.out _ _ SS (fun hHeld2 => ?_)
        clear hK K hHeld SS
        try go_frame
        refine tk 7 (oi := ⟨some 31, _, _, _, _, none⟩) rfl ?_
        try go_frame
        refine wpAnyH_done (by kernel_rfl) ?_ _
        clear hHeld2 a0 a1 a2 a3 a4 q0 q1 q2 q3 q4
        have hq' : ¬ q < 0 := by omega
        go_wp2_with fail
        go_roundw
        case rel => exact ⟨a, m, rfl, rfl, hma, by omega, I3, Lib.hid ⟨HI.out.1, HA2.out⟩⟩
        case measure => simp [intOf]; omega
    · obtain rfl : a = b := by omega
      have k0 : ¬ (a : Int) < (a : Int) := by omega
      by_cases hal : a < N.length
      · obtain ⟨g, off, rfl, hgl, a0, a1, a2, a3, a4⟩ := IR.out.1.at (i := a) hal
        obtain ⟨q0, q1, q2, q3, q4⟩ := row5 IR.out.2.1
        have HK := Lib.hid (HI.out.2 a hal (Nat.le_refl _))
        have HF : Hid ((Cm.key N[a] = (t0, t1, t2) → ∃ i, ∃ h : i < N.length, Cm.key N[i] = (t0, t1, t2) ∧ i = a) ∧ (Cm.lt3 (t0, t1, t2) (Cm.key N[a]) → ∀ i, ∀ h : i < N.length, Cm.key N[i] ≠ (t0, t1, t2))) := Lib.hid ⟨fun h => ⟨a, hal, h, rfl⟩, fun h i hi e => by
          rcases Nat.lt_or_ge i a with q | q
          · have := HI.out.1 i hi q
            rw [e] at this
            exact Cm.lt3_irr this
          · rcases (by omega : a < i ∨ a = i) with q2 | rfl
            · have := Cm.ascN_at HA.out q2 hi
              rw [e] at this
              exact Cm.lt3_irr (Cm.lt3_trans h this)
            · rw [e] at h; exact Cm.lt3_irr h⟩
        have k1 : (0 : Int) ≤ (a : Int) := by omega
        have k2 : (a : Int) < (N.length : Int) := by omega
        generalize N[a] = x at *
        obtain ⟨x0, x3, x4, x5, x6⟩ := x
        simp only at a0 a1 a2 a3 a4
        have HO := Lib.hid (order_any (x0, x3, x4, x5, x6) (t0, t1, t2, t3, t4) wr.drew)
        go_upto_region 8 with fail
        refine wp_region_held_drew (S := fun w' : World => (w'.cell? ⟨gb, 0, none⟩ = some (.int .i64 t0) ∧ w'.cell? ⟨gb, 1, none⟩ = some (.int .i64 t1) ∧ w'.cell? ⟨gb, 2, none⟩ = some (.int .i64 t2) ∧ w'.cell? ⟨gb, 3, none⟩ = some (.int .i64 t3) ∧ w'.cell? ⟨gb, 4, none⟩ = some (.int .i64 t4)) ∧ (w'.cell? ⟨g, off + a * 5, none⟩ = some (.int .i64 x0) ∧ w'.cell? ⟨g, off + a * 5 + 1, none⟩ = some (.int .i64 x3) ∧ w'.cell? ⟨g, off + a * 5 + 2, none⟩ = some (.int .i64 x4) ∧ w'.cell? ⟨g, off + a * 5 + 3, none⟩ = some (.int .i64 x5) ∧ w'.cell? ⟨g, off + a * 5 + 4, none⟩ = some (.int .i64 x6))) (by kernel_rfl) ⟨⟨q0, q1, q2, q3, q4⟩, a0, a1, a2, a3, a4⟩ (fun hHeld => ?_)
        refine tk 0 (oi := ⟨some 35, _, _, _, _, none⟩) rfl ?_
        try go_frame
        refine tk 1 (oi := ⟨some 36, _, _, _, _, none⟩) rfl ?_
        try go_frame
        refine tk 2 (oi := ⟨some 37, _, _, _, _, none⟩) rfl ?_
        try go_frame
        refine tk 3 (oi := ⟨some 38, _, _, _, _, none⟩) rfl ?_
        try go_frame
        refine tk 4 (oi := ⟨some 39, _, _, _, _, none⟩) rfl ?_
        try go_frame
        refine tk 5 (oi := ⟨some 40, _, _, _, _, some _⟩) rfl ?_
        try go_frame
        refine tk 6 (oi := ⟨some 41, _, _, _, _, some _⟩) rfl ?_
        try go_frame
        refine tk 7 (oi := ⟨some 42, _, _, _, _, some _⟩) rfl ?_
        try go_frame
        refine tk 8 (oi := ⟨some 43, _, _, _, _, some _⟩) rfl ?_
        try go_frame
        refine tk 9 (oi := ⟨some 44, _, _, _, _, some _⟩) rfl ?_
        try go_frame
        refine tk 10 (oi := ⟨some 45, _, _, _, _, some _⟩) rfl ?_
        try go_frame
        refine wpAnyH_ready (rs := [11]) (by kernel_rfl) (by simp) ?_
        refine AllReadyH.cons (o := ⟨some 46, _, _, _, _, some _⟩) rfl (fun K hK => ?_) AllReadyH.nil
        go_simp
        rcases Cm.cmp3_cases (x0, x3, x4) (t0, t1, t2) with ⟨hlt3, -⟩ | ⟨heq, hcm⟩ | ⟨hgt, hcm⟩
        · exact absurd hlt3 HK.out
        · have HA2 := Lib.hid (HF.out.1 heq)
          have HE : Hid (Cm.cmp3 (Cm.key (x0, x3, x4, x5, x6)) (Cm.key (t0, t1, t2, t3, t4)) = 0) := Lib.hid hcm
          clear heq hcm HK HF
          refine HO.out.mono ?_
          rintro e w3 ⟨rfl, g3⟩
          rw [HE.out]
          have G3 : Hid (Below wr.heap.size wr w3) := Lib.hid (undrew g3.below)
          clear g3 HO
          have C := fun j => G3.out.cell (p := ⟨g, j, none⟩) hgl
          have SS := And.intro (row5 (IR.out.2.1.under G3.out)) (And.intro ((C _).trans a0) (And.intro ((C _).trans a1) (And.intro ((C _).trans a2) (And.intro ((C _).trans a3) ((C _).trans a4)))))
          clear C
          have I3 := Lib.hid (And.intro (IR.out.1.under G3.out) (And.intro (IR.out.2.1.under G3.out) (IR.out.2.2.trans (G3.out.mono (hB ▸ IR.out.2.2.size)))))
          go_wp2_with fail
          refine hK.out _ _ SS (fun hHeld2 => ?_)
          clear hK K hHeld SS
          try go_frame
          refine tk 12 (oi := ⟨some 47, _, _, _, _, some _⟩) rfl ?_
          try go_frame
          refine tk 13 (oi := ⟨some 48, _, _, _, _, none⟩) rfl ?_
          try go_frame
          refine tk 14 (oi := ⟨some 6, _, _, _, _, none⟩) rfl ?_
          try go_frame
          refine tk 15 (oi := ⟨some 7, _, _, _, _, none⟩) rfl ?_
          try go_frame
          refine wpAnyH_done (by kernel_rfl) ?_ _
          clear hHeld2 a0 a1 a2 a3 a4 q0 q1 q2 q3 q4
          go_wp2_with fail
          go_ret2
          obtain ⟨i, hi, e1, rfl⟩ := HA2.out
          exact ⟨by first | exact I3.out.2.2 | (rw [hB]; exact I3.out.2.2), .inl ⟨i, hi, e1, rfl⟩⟩
        · have HA2 := Lib.hid (HF.out.2 hgt)
          have HE : Hid (Cm.cmp3 (Cm.key (x0, x3, x4, x5, x6)) (Cm.key (t0, t1, t2, t3, t4)) = 1) := Lib.hid hcm
          clear hgt hcm HK HF
          refine HO.out.mono ?_
          rintro e w3 ⟨rfl, g3⟩
          rw [HE.out]
          have G3 : Hid (Below wr.heap.size wr w3) := Lib.hid (undrew g3.below)
          clear g3 HO
          have C := fun j => G3.out.cell (p := ⟨g, j, none⟩) hgl
          have SS := And.intro (row5 (IR.out.2.1.under G3.out)) (And.intro ((C _).trans a0) (And.intro ((C _).trans a1) (And.intro ((C _).trans a2) (And.intro ((C _).trans a3) ((C _).trans a4)))))
          clear C
          have I3 := Lib.hid (And.intro (IR.out.1.under G3.out) (And.intro (IR.out.2.1.under G3.out) (IR.out.2.2.trans (G3.out.mono (hB ▸ IR.out.2.2.size)))))
          go_wp2_with fail
          refine hK.out _ _ SS (fun hHeld2 => ?_)
          clear hK K hHeld SS
          try go_frame
          refine tk 12 (oi := ⟨some 47, _, _, _, _, some _⟩) rfl ?_
          try go_frame
          refine tk 13 (oi := ⟨some 48, _, _, _, _, none⟩) rfl ?_
          try go_frame
          refine tk 14 (oi := ⟨some 6, _, _, _, _, none⟩) rfl ?_
          try go_frame
          refine tk 15 (oi := ⟨some 7, _, _, _, _, none⟩) rfl ?_
          try go_frame
          refine wpAnyH_done (by kernel_rfl) ?_ _
          clear hHeld2 a0 a1 a2 a3 a4 q0 q1 q2 q3 q4
          go_wp2_with fail
          go_ret2
          exact ⟨by first | exact I3.out.2.2 | (rw [hB]; exact I3.out.2.2), .inr ⟨HA2.out, a, rfl⟩⟩
      · have k2 : ¬ (a : Int) < (N.length : Int) := by omega
        have HNo : Hid (∀ i, ∀ h : i < N.length, Cm.key N[i] ≠ (t0, t1, t2)) := Lib.hid (fun i hi e => by
          have := HI.out.1 i hi (by omega)
          rw [e] at this
          exact Cm.lt3_irr this)
        go_upto_region 8 with fail
        refine wp_region_held_drew (S := fun _ : World => True) (by kernel_rfl) trivial (fun hHeld => ?_)
        refine tk 0 (oi := ⟨some 35, _, _, _, _, none⟩) rfl ?_
        try go_frame
        refine tk 1 (oi := ⟨some 36, _, _, _, _, none⟩) rfl ?_
        try go_frame
        refine tk 2 (oi := ⟨some 37, _, _, _, _, none⟩) rfl ?_
        try go_frame
        refine tk 3 (oi := ⟨some 38, _, _, _, _, none⟩) rfl ?_
        try go_frame
        refine tk 4 (oi := ⟨some 39, _, _, _, _, none⟩) rfl ?_
        try go_frame
        refine sk 5 rfl ?_
        try go_frame
        refine sk 6 rfl ?_
        try go_frame
        refine sk 7 rfl ?_
        try go_frame
        refine sk 8 rfl ?_
        try go_frame
        refine sk 9 rfl ?_
        try go_frame
        refine sk 10 rfl ?_
        try go_frame
        refine sk 11 rfl ?_
        try go_frame
        refine sk 12 rfl ?_
        try go_frame
        refine tk 13 (oi := ⟨some 48, _, _, _, _, none⟩) rfl ?_
        try go_frame
        refine tk 14 (oi := ⟨some 6, _, _, _, _, none⟩) rfl ?_
        try go_frame
        refine tk 15 (oi := ⟨some 7, _, _, _, _, none⟩) rfl ?_
        try go_frame
        refine wpAnyH_done (by kernel_rfl) ?_ _
        clear hHeld
        go_wp2_with fail
        go_ret2
        exact ⟨by first | exact IR.out.2.2.drew | (rw [hB]; exact IR.out.2.2.drew), .inr ⟨HNo.out, a, rfl⟩⟩
end Go.Proofs.YtlakgkoohdfiaaaDoor
