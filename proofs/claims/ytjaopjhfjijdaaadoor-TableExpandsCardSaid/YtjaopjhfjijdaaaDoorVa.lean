/- The contract of Validate of the program. -/
import Derived.Test.YtjaopjhfjijdaaaDoorBy
namespace Go.Proofs.YtjaopjhfjijdaaaDoor
open Go.RowKit Go.Maps

theorem any_true {α : Type} {p : α → Prop} [DecidablePred p] {f : α → Bool} (hf : ∀ x, f x = decide (p x)) {L : List α} : L.any f = true ↔ ∃ x ∈ L, p x := by
  rw [List.any_eq_true]
  exact ⟨fun ⟨x, h, e⟩ => ⟨x, h, of_decide_eq_true ((hf x).symm.trans e)⟩, fun ⟨x, h, e⟩ => ⟨x, h, (hf x).trans (decide_eq_true e)⟩⟩
theorem any_false {α : Type} {p : α → Prop} [DecidablePred p] {f : α → Bool} (hf : ∀ x, f x = decide (p x)) {L : List α} (h : L.any f = false) : ¬ ∃ x ∈ L, p x := fun q => by
  rw [(any_true hf).2 q] at h
  cases h
set_option maxRecDepth 100000 in
set_option maxHeartbeats 1000000 in
theorem validate_any (tv : Value) (v : Int) (es : List En) (ss : List Sq) (w : World) (hT : TbIn w tv v es ss) (hR : Tab w) :
    Calls Tryd.prog 18 #[tv] w fun e w' => e = .returned (.int .i64 (tbl v es ss)) ∧ Below w.heap.size w w' := by
  obtain ⟨z, hz⟩ : ∃ z, tbl v es ss = z := ⟨_, rfl⟩
  rw [hz]
  have HZ := Lib.hid hz; clear hz
  have HT := Lib.hid hT
  have HR := Lib.hid hR
  obtain ⟨a, b, rfl, hE, hS⟩ := hT
  have HE := Lib.hid hE
  have HS := Lib.hid hS
  obtain ⟨A, cap, rfl, h1, h2, -⟩ := hE
  obtain ⟨Bq, cbp, rfl, g1, g2, -⟩ := hS
  have b1 : Below w.heap.size w (w.alloc (.cells #[.int .i64 v, .slice A es.length cap, .slice Bq ss.length cbp] 25)) := (Below.refl _ _).alloc (Nat.le_refl _) _
  have r1 := Row.new w #[.int .i64 v, .slice A es.length cap, .slice Bq ss.length cbp] 25
  clear hR
  go_enter Tryd.func18, Tryd.ntmps18
  go_upto_region 1 with fail
  generalize w.alloc (.cells #[.int .i64 v, .slice A es.length cap, .slice Bq ss.length cbp] 25) = W at *
  generalize w.heap.size = gb at r1 ⊢
  have B := Lib.hid b1
  have R := Lib.hid r1
  obtain ⟨p0, p1, p2⟩ := row3 r1
  clear r1 b1
  by_cases a1 : 1 ≤ v ∧ v ≤ 99
  case neg =>
    have HN : Hid (z = 1) := Lib.hid (by rw [← HZ.out]; exact tbl_range a1)
    have d1 := decide_eq_false a1
    go_wp2_with fail
    refine (within_any v 1 99 _).mono ?_
    rintro e w1 ⟨rfl, rfl⟩
    rw [d1]
    go_wp2_with fail
    go_ret
    exact ⟨ret_i64 HN.out.symm, B.out⟩
  have d1 := decide_eq_true a1
  go_wp2_with fail
  refine (within_any v 1 99 _).mono ?_
  rintro e w1 ⟨rfl, rfl⟩
  rw [d1]
  clear d1
  have A1 := Lib.hid a1
  by_cases a2 : 40 < es.length
  case pos =>
    have HN : Hid (z = 2) := Lib.hid (by rw [← HZ.out]; exact tbl_limit a1 (.inl a2))
    have i2 : (40 : Int) < (es.length : Int) := by omega
    go_wp2_with fail
    go_ret
    exact ⟨ret_i64 HN.out.symm, B.out⟩
  have i2 : ¬ (40 : Int) < (es.length : Int) := by omega
  by_cases a3 : 40 < ss.length
  case pos =>
    have HN : Hid (z = 2) := Lib.hid (by rw [← HZ.out]; exact tbl_limit a1 (.inr (.inl a3)))
    have i3 : (40 : Int) < (ss.length : Int) := by omega
    go_wp2_with fail
    go_ret
    exact ⟨ret_i64 HN.out.symm, B.out⟩
  have i3 : ¬ (40 : Int) < (ss.length : Int) := by omega
  have HC := contains_long _ ss W (HS.out.under B.out) (HR.out.under B.out)
  cases ha : ss.any p_long with
  | true =>
    have HN : Hid (z = 2) := Lib.hid (by rw [← HZ.out]; exact tbl_limit a1 (.inr (.inr ((any_true (p := fun s : Sq => 20 < s.2.length) (fun _ => rfl)).1 ha))))
    rw [ha] at HC
    have HC := Lib.hid HC
    clear ha
    go_wp2_with fail
    refine HC.out.mono ?_
    rintro e w2 ⟨rfl, g2⟩
    have B := Lib.hid (B.out.trans (g2.mono B.out.size))
    clear g2
    go_wp2_with fail
    go_ret
    exact ⟨ret_i64 HN.out.symm, B.out⟩
  | false =>
  have A2 : Hid (¬ (40 < es.length ∨ 40 < ss.length ∨ ∃ s ∈ ss, 20 < s.2.length)) := Lib.hid (fun q => by
    rcases q with q | q | q
    · exact a2 q
    · exact a3 q
    · exact any_false (p := fun s : Sq => 20 < s.2.length) (fun _ => rfl) ha q)
  rw [ha] at HC
  have HC := Lib.hid HC
  clear ha a1 a2 a3
  go_wp2_with fail
  refine HC.out.mono ?_
  rintro e w2 ⟨rfl, g2⟩
  have B := Lib.hid (B.out.trans (g2.mono B.out.size))
  have R := Lib.hid (R.out.under g2)
  clear g2 p0 p1 p2 HC
  obtain ⟨p0, p1, p2⟩ := row3 R.out
  have HC := contains_lacks _ es w2 (HE.out.under B.out) (HR.out.under B.out)
  cases ha : es.any p_lacks with
  | true =>
    have HN : Hid (z = 4) := Lib.hid (by rw [← HZ.out]; exact tbl_kind A1.out A2.out ((any_true (p := fun e : En => ¬ Elt.Ex e.2.1) (fun _ => rfl)).1 ha))
    rw [ha] at HC
    have HC := Lib.hid HC
    clear ha
    go_wp2_with fail
    refine HC.out.mono ?_
    rintro e w3 ⟨rfl, g3⟩
    have B := Lib.hid (B.out.trans (g3.mono B.out.size))
    clear g3
    go_wp2_with fail
    go_ret
    exact ⟨ret_i64 HN.out.symm, B.out⟩
  | false =>
  have A3 : Hid (¬ ∃ e ∈ es, ¬ Elt.Ex e.2.1) := Lib.hid (any_false (p := fun e : En => ¬ Elt.Ex e.2.1) (fun _ => rfl) ha)
  rw [ha] at HC
  have HC := Lib.hid HC
  clear ha
  go_wp2_with fail
  refine HC.out.mono ?_
  rintro e w3 ⟨rfl, g3⟩
  have B := Lib.hid (B.out.trans (g3.mono B.out.size))
  have R := Lib.hid (R.out.under g3)
  clear g3 p0 p1 p2 HC
  obtain ⟨p0, p1, p2⟩ := row3 R.out
  have HC := contains_faulty _ es w3 (HE.out.under B.out) (HR.out.under B.out)
  cases ha : es.any p_faulty with
  | true =>
    have HN : Hid (z = 1) := Lib.hid (by
      rw [← HZ.out]
      obtain ⟨e, he, q⟩ := (any_true (p := fun e : En => ¬ okE e) (fun _ => rfl)).1 ha
      exact tbl_range2 A1.out A2.out A3.out (.inl ⟨e, he, fun q' => q ⟨Decidable.byContradiction fun q'' => A3.out ⟨e, he, q''⟩, q'⟩⟩))
    rw [ha] at HC
    have HC := Lib.hid HC
    clear ha
    go_wp2_with fail
    refine HC.out.mono ?_
    rintro e w4 ⟨rfl, g4⟩
    have B := Lib.hid (B.out.trans (g4.mono B.out.size))
    clear g4
    go_wp2_with fail
    go_ret
    exact ⟨ret_i64 HN.out.symm, B.out⟩
  | false =>
  have A4 : Hid (¬ ∃ e ∈ es, ¬ vE e) := Lib.hid (fun ⟨e, he, q⟩ => any_false (p := fun e : En => ¬ okE e) (fun _ => rfl) ha ⟨e, he, fun q' => q q'.2⟩)
  rw [ha] at HC
  have HC := Lib.hid HC
  clear ha
  go_wp2_with fail
  refine HC.out.mono ?_
  rintro e w4 ⟨rfl, g4⟩
  have B := Lib.hid (B.out.trans (g4.mono B.out.size))
  have R := Lib.hid (R.out.under g4)
  clear g4 p0 p1 p2 HC
  obtain ⟨p0, p1, p2⟩ := row3 R.out
  have HC := contains_mis _ ss w4 (HS.out.under B.out) (HR.out.under B.out)
  cases ha : ss.any p_mis with
  | true =>
    have HN : Hid (z = 1) := Lib.hid (by rw [← HZ.out]; exact tbl_range2 A1.out A2.out A3.out (.inr ((any_true (p := badS) (fun _ => rfl)).1 ha)))
    rw [ha] at HC
    have HC := Lib.hid HC
    clear ha
    go_wp2_with fail
    refine HC.out.mono ?_
    rintro e w5 ⟨rfl, g5⟩
    have B := Lib.hid (B.out.trans (g5.mono B.out.size))
    clear g5
    go_wp2_with fail
    go_ret
    exact ⟨ret_i64 HN.out.symm, B.out⟩
  | false =>
  have A5 : Hid (¬ ((∃ e ∈ es, ¬ vE e) ∨ ∃ s ∈ ss, badS s)) := Lib.hid (fun q => q.elim A4.out (any_false (p := badS) (fun _ => rfl) ha))
  rw [ha] at HC
  have HC := Lib.hid HC
  clear ha A4
  go_wp2_with fail
  refine HC.out.mono ?_
  rintro e w5 ⟨rfl, g5⟩
  have B := Lib.hid (B.out.trans (g5.mono B.out.size))
  have R := Lib.hid (R.out.under g5)
  clear g5 p0 p1 p2 HC
  obtain ⟨p0, p1, p2⟩ := row3 R.out
  go_upto_region 9 with fail
  have HC1 := Lib.hid (entries_any _ v es ss w5.drew (HT.out.under B.out.drew))
  have HC2 := Lib.hid (fun W (h : Below w.heap.size w W) => sequences_any _ v es ss W (HT.out.under h))
  refine wp_region_held_drew (S := fun w' : World => w'.cell? ⟨gb, 0, none⟩ = some (.int .i64 v) ∧ w'.cell? ⟨gb, 1, none⟩ = some (.slice A es.length cap) ∧ w'.cell? ⟨gb, 2, none⟩ = some (.slice Bq ss.length cbp)) (by kernel_rfl) ⟨p0, p1, p2⟩ (fun hHeld => ?_)
  refine wpAnyH_take (i := 0) (oi := ⟨some 38, _, _, _, _, none⟩) (v := ?_) rfl (by kernel_rfl) (by kernel_rfl) (by kernel_rfl) (fun _ _ _ h => h) (Or.inl ⟨by rfl, ?_⟩) (by assumption) ?_
  case refine_2 => (intro wx hSx; (try dsimp only at hSx); go_simp; first | done | with_reducible rfl)
  ((try simp only [Act.put]); (try simp only [List.setIfInBounds_toArray]); (try simp only [List.set_cons_succ]); (try simp only [List.set_cons_zero]))
  refine wpAnyH_take (i := 3) (oi := ⟨some 41, _, _, _, _, none⟩) (v := ?_) rfl (by kernel_rfl) (by kernel_rfl) (by kernel_rfl) (fun _ _ _ h => h) (Or.inl ⟨by rfl, ?_⟩) (by assumption) ?_
  case refine_2 => (intro wx hSx; (try dsimp only at hSx); go_simp; first | done | with_reducible rfl)
  ((try simp only [Act.put]); (try simp only [List.setIfInBounds_toArray]); (try simp only [List.set_cons_succ]); (try simp only [List.set_cons_zero]))
  refine wpAnyH_take (i := 4) (oi := ⟨some 42, _, _, _, _, none⟩) (v := ?_) rfl (by kernel_rfl) (by kernel_rfl) (by kernel_rfl) (fun _ _ _ h => h) (Or.inl ⟨by rfl, ?_⟩) (by assumption) ?_
  case refine_2 => (intro wx hSx; (try dsimp only at hSx); go_simp; first | done | with_reducible rfl)
  ((try simp only [Act.put]); (try simp only [List.setIfInBounds_toArray]); (try simp only [List.set_cons_succ]); (try simp only [List.set_cons_zero]))
  refine wpAnyH_take (i := 5) (oi := ⟨some 43, _, _, _, _, none⟩) (v := ?_) rfl (by kernel_rfl) (by kernel_rfl) (by kernel_rfl) (fun _ _ _ h => h) (Or.inl ⟨by rfl, ?_⟩) (by assumption) ?_
  case refine_2 => (intro wx hSx; (try dsimp only at hSx); go_simp; first | done | with_reducible rfl)
  ((try simp only [Act.put]); (try simp only [List.setIfInBounds_toArray]); (try simp only [List.set_cons_succ]); (try simp only [List.set_cons_zero]))
  refine wpAnyH_ready (rs := [1]) (by kernel_rfl) (by simp) ?_
  refine AllReadyH.cons (o := ⟨some 39, _, _, _, _, none⟩) rfl (fun K hK => ?_) AllReadyH.nil
  go_simp
  refine HC1.out.mono ?_
  rintro e w6 ⟨be, fe, se, rfl, hm, hf, hn, hlo, g6⟩
  have G6 : Hid (Below w5.heap.size w5 w6) := Lib.hid (undrew g6)
  have B := Lib.hid (B.out.trans (G6.out.mono B.out.size))
  have R := Lib.hid (R.out.under G6.out)
  have SS := row3 R.out
  have HN0 := Lib.hid hn
  have hl := fun ty => hm.run_len Tryd.underlying68 ty
  clear hm hf hn hlo g6 G6 HC1
  go_wp2_with fail
  refine hK.out _ _ SS (fun hHeld2 => ?_)
  clear hK K hHeld
  ((try simp only [Act.put]); (try simp only [List.setIfInBounds_toArray]); (try simp only [List.set_cons_succ]); (try simp only [List.set_cons_zero]))
  refine wpAnyH_ready (rs := [2]) (by kernel_rfl) (by simp) ?_
  refine AllReadyH.cons (o := ⟨some 40, _, _, _, _, none⟩) rfl (fun K hK => ?_) AllReadyH.nil
  go_simp
  refine hK.out _ _ SS (fun hHeld3 => ?_)
  clear hK K hHeld2 hl
  ((try simp only [Act.put]); (try simp only [List.setIfInBounds_toArray]); (try simp only [List.set_cons_succ]); (try simp only [List.set_cons_zero]))
  by_cases a6 : (es.map (·.1)).Nodup
  case neg =>
    have HN : Hid (z = 5) := Lib.hid (by rw [← HZ.out]; exact tbl_dup A1.out A2.out A3.out A5.out (.inl a6))
    have i6 : (se : Int) < (es.length : Int) := by
      have h := HN0.out
      unfold Num at h
      rw [List.length_map] at h
      have : se ≠ es.length := fun q => a6 (h.2.1 q)
      omega
    clear a6
    refine wpAnyH_take (i := 6) (oi := ⟨some 44, _, _, _, _, none⟩) (v := ?_) rfl (by kernel_rfl) (by kernel_rfl) (by kernel_rfl) (fun _ _ _ h => h) (Or.inl ⟨by rfl, ?_⟩) (by assumption) ?_
    case refine_2 => (intro wx hSx; (try dsimp only at hSx); go_simp; first | done | with_reducible rfl)
    ((try simp only [Act.put]); (try simp only [List.setIfInBounds_toArray]); (try simp only [List.set_cons_succ]); (try simp only [List.set_cons_zero]))
    refine wpAnyH_take (i := 7) (oi := ⟨some 45, _, _, _, _, none⟩) (v := ?_) rfl (by kernel_rfl) (by kernel_rfl) (by kernel_rfl) (fun _ _ _ h => h) (Or.inl ⟨by rfl, ?_⟩) (by assumption) ?_
    case refine_2 => (intro wx hSx; (try dsimp only at hSx); go_simp; first | done | with_reducible rfl)
    ((try simp only [Act.put]); (try simp only [List.setIfInBounds_toArray]); (try simp only [List.set_cons_succ]); (try simp only [List.set_cons_zero]))
    refine wpAnyH_take (i := 8) (oi := ⟨some 46, _, _, _, _, some _⟩) (v := undef) rfl (by kernel_rfl) (by kernel_rfl) (by kernel_rfl) (fun _ _ _ h => h) (Or.inr ⟨by rfl, rfl⟩) (by assumption) ?_
    ((try simp only [Act.put]); (try simp only [List.setIfInBounds_toArray]); (try simp only [List.set_cons_succ]); (try simp only [List.set_cons_zero]))
    refine wpAnyH_take (i := 9) (oi := ⟨some 47, _, _, _, _, some _⟩) (v := undef) rfl (by kernel_rfl) (by kernel_rfl) (by kernel_rfl) (fun _ _ _ h => h) (Or.inr ⟨by rfl, rfl⟩) (by assumption) ?_
    ((try simp only [Act.put]); (try simp only [List.setIfInBounds_toArray]); (try simp only [List.set_cons_succ]); (try simp only [List.set_cons_zero]))
    refine wpAnyH_take (i := 10) (oi := ⟨some 48, _, _, _, _, some _⟩) (v := undef) rfl (by kernel_rfl) (by kernel_rfl) (by kernel_rfl) (fun _ _ _ h => h) (Or.inr ⟨by rfl, rfl⟩) (by assumption) ?_
    ((try simp only [Act.put]); (try simp only [List.setIfInBounds_toArray]); (try simp only [List.set_cons_succ]); (try simp only [List.set_cons_zero]))
    refine wpAnyH_take (i := 11) (oi := ⟨some 49, _, _, _, _, some _⟩) (v := undef) rfl (by kernel_rfl) (by kernel_rfl) (by kernel_rfl) (fun _ _ _ h => h) (Or.inr ⟨by rfl, rfl⟩) (by assumption) ?_
    ((try simp only [Act.put]); (try simp only [List.setIfInBounds_toArray]); (try simp only [List.set_cons_succ]); (try simp only [List.set_cons_zero]))
    refine wpAnyH_take (i := 12) (oi := ⟨some 50, _, _, _, _, some _⟩) (v := undef) rfl (by kernel_rfl) (by kernel_rfl) (by kernel_rfl) (fun _ _ _ h => h) (Or.inr ⟨by rfl, rfl⟩) (by assumption) ?_
    ((try simp only [Act.put]); (try simp only [List.setIfInBounds_toArray]); (try simp only [List.set_cons_succ]); (try simp only [List.set_cons_zero]))
    refine wpAnyH_take (i := 13) (oi := ⟨some 51, _, _, _, _, some _⟩) (v := undef) rfl (by kernel_rfl) (by kernel_rfl) (by kernel_rfl) (fun _ _ _ h => h) (Or.inr ⟨by rfl, rfl⟩) (by assumption) ?_
    ((try simp only [Act.put]); (try simp only [List.setIfInBounds_toArray]); (try simp only [List.set_cons_succ]); (try simp only [List.set_cons_zero]))
    refine wpAnyH_take (i := 14) (oi := ⟨some 52, _, _, _, _, some _⟩) (v := undef) rfl (by kernel_rfl) (by kernel_rfl) (by kernel_rfl) (fun _ _ _ h => h) (Or.inr ⟨by rfl, rfl⟩) (by assumption) ?_
    ((try simp only [Act.put]); (try simp only [List.setIfInBounds_toArray]); (try simp only [List.set_cons_succ]); (try simp only [List.set_cons_zero]))
    refine wpAnyH_take (i := 15) (oi := ⟨some 53, _, _, _, _, none⟩) (v := ?_) rfl (by kernel_rfl) (by kernel_rfl) (by kernel_rfl) (fun _ _ _ h => h) (Or.inl ⟨by rfl, ?_⟩) (by assumption) ?_
    case refine_2 => (intro wx hSx; (try dsimp only at hSx); go_simp; first | done | with_reducible rfl)
    ((try simp only [Act.put]); (try simp only [List.setIfInBounds_toArray]); (try simp only [List.set_cons_succ]); (try simp only [List.set_cons_zero]))
    refine wpAnyH_take (i := 16) (oi := ⟨some 37, _, _, _, _, none⟩) (v := ?_) rfl (by kernel_rfl) (by kernel_rfl) (by kernel_rfl) (fun _ _ _ h => h) (Or.inl ⟨by rfl, ?_⟩) (by assumption) ?_
    case refine_2 => (intro wx hSx; (try dsimp only at hSx); go_simp; first | done | with_reducible rfl)
    ((try simp only [Act.put]); (try simp only [List.setIfInBounds_toArray]); (try simp only [List.set_cons_succ]); (try simp only [List.set_cons_zero]))
    refine wpAnyH_done (by kernel_rfl) ?_ _
    clear SS hHeld3 HC2 p0 p1 p2
    go_wp2_with fail
    go_ret
    exact ⟨ret_i64 HN.out.symm, B.out⟩
  have A6 := Lib.hid a6
  have i6 : (se : Int) = (es.length : Int) := by
    have h := HN0.out
    unfold Num at h
    rw [List.length_map] at h
    have := h.2.2 a6
    omega
  have i7 : ¬ (es.length : Int) < (es.length : Int) := by omega
  rw [i6]
  clear a6 i6
  refine wpAnyH_take (i := 6) (oi := ⟨some 44, _, _, _, _, none⟩) (v := ?_) rfl (by kernel_rfl) (by kernel_rfl) (by kernel_rfl) (fun _ _ _ h => h) (Or.inl ⟨by rfl, ?_⟩) (by assumption) ?_
  case refine_2 => (intro wx hSx; (try dsimp only at hSx); go_simp; first | done | with_reducible rfl)
  ((try simp only [Act.put]); (try simp only [List.setIfInBounds_toArray]); (try simp only [List.set_cons_succ]); (try simp only [List.set_cons_zero]))
  refine wpAnyH_take (i := 7) (oi := ⟨some 45, _, _, _, _, none⟩) (v := ?_) rfl (by kernel_rfl) (by kernel_rfl) (by kernel_rfl) (fun _ _ _ h => h) (Or.inl ⟨by rfl, ?_⟩) (by assumption) ?_
  case refine_2 => (intro wx hSx; (try dsimp only at hSx); go_simp; first | done | with_reducible rfl)
  ((try simp only [Act.put]); (try simp only [List.setIfInBounds_toArray]); (try simp only [List.set_cons_succ]); (try simp only [List.set_cons_zero]))
  refine wpAnyH_take (i := 8) (oi := ⟨some 46, _, _, _, _, some _⟩) (v := ?_) rfl (by kernel_rfl) (by kernel_rfl) (by kernel_rfl) (fun _ _ _ h => h) (Or.inl ⟨by rfl, ?_⟩) (by assumption) ?_
  case refine_2 => (intro wx hSx; (try dsimp only at hSx); go_simp; first | done | with_reducible rfl)
  ((try simp only [Act.put]); (try simp only [List.setIfInBounds_toArray]); (try simp only [List.set_cons_succ]); (try simp only [List.set_cons_zero]))
  refine wpAnyH_take (i := 11) (oi := ⟨some 49, _, _, _, _, some _⟩) (v := ?_) rfl (by kernel_rfl) (by kernel_rfl) (by kernel_rfl) (fun _ _ _ h => h) (Or.inl ⟨by rfl, ?_⟩) (by assumption) ?_
  case refine_2 => (intro wx hSx; (try dsimp only at hSx); go_simp; first | done | with_reducible rfl)
  ((try simp only [Act.put]); (try simp only [List.setIfInBounds_toArray]); (try simp only [List.set_cons_succ]); (try simp only [List.set_cons_zero]))
  refine wpAnyH_take (i := 12) (oi := ⟨some 50, _, _, _, _, some _⟩) (v := ?_) rfl (by kernel_rfl) (by kernel_rfl) (by kernel_rfl) (fun _ _ _ h => h) (Or.inl ⟨by rfl, ?_⟩) (by assumption) ?_
  case refine_2 => (intro wx hSx; (try dsimp only at hSx); go_simp; first | done | with_reducible rfl)
  ((try simp only [Act.put]); (try simp only [List.setIfInBounds_toArray]); (try simp only [List.set_cons_succ]); (try simp only [List.set_cons_zero]))
  refine wpAnyH_take (i := 13) (oi := ⟨some 51, _, _, _, _, some _⟩) (v := ?_) rfl (by kernel_rfl) (by kernel_rfl) (by kernel_rfl) (fun _ _ _ h => h) (Or.inl ⟨by rfl, ?_⟩) (by assumption) ?_
  case refine_2 => (intro wx hSx; (try dsimp only at hSx); go_simp; first | done | with_reducible rfl)
  ((try simp only [Act.put]); (try simp only [List.setIfInBounds_toArray]); (try simp only [List.set_cons_succ]); (try simp only [List.set_cons_zero]))
  refine wpAnyH_ready (rs := [9]) (by kernel_rfl) (by simp) ?_
  refine AllReadyH.cons (o := ⟨some 47, _, _, _, _, some _⟩) rfl (fun K hK => ?_) AllReadyH.nil
  go_simp
  refine (HC2.out _ B.out).mono ?_
  rintro e w7 ⟨bs, fs, s2, rfl, hm, hf, hn, hlo, g7⟩
  have B := Lib.hid (B.out.trans (g7.mono B.out.size))
  have R := Lib.hid (R.out.under g7)
  have SS := row3 R.out
  have HN1 := Lib.hid hn
  have hl := fun ty => hm.run_len Tryd.underlying70 ty
  clear hm hf hn hlo g7 HC2
  go_wp2_with fail
  refine hK.out _ _ SS (fun hHeld4 => ?_)
  clear hK K hHeld3
  ((try simp only [Act.put]); (try simp only [List.setIfInBounds_toArray]); (try simp only [List.set_cons_succ]); (try simp only [List.set_cons_zero]))
  refine wpAnyH_ready (rs := [10]) (by kernel_rfl) (by simp) ?_
  refine AllReadyH.cons (o := ⟨some 48, _, _, _, _, some _⟩) rfl (fun K hK => ?_) AllReadyH.nil
  go_simp
  refine hK.out _ _ SS (fun hHeld5 => ?_)
  clear hK K hHeld4 hl
  ((try simp only [Act.put]); (try simp only [List.setIfInBounds_toArray]); (try simp only [List.set_cons_succ]); (try simp only [List.set_cons_zero]))
  by_cases a7 : (ss.map (·.1)).Nodup
  case neg =>
    have HN : Hid (z = 5) := Lib.hid (by rw [← HZ.out]; exact tbl_dup A1.out A2.out A3.out A5.out (.inr a7))
    have i6 : (s2 : Int) < (ss.length : Int) := by
      have h := HN1.out
      unfold Num at h
      rw [List.length_map] at h
      have : s2 ≠ ss.length := fun q => a7 (h.2.1 q)
      omega
    clear a7
    refine wpAnyH_take (i := 14) (oi := ⟨some 52, _, _, _, _, some _⟩) (v := ?_) rfl (by kernel_rfl) (by kernel_rfl) (by kernel_rfl) (fun _ _ _ h => h) (Or.inl ⟨by rfl, ?_⟩) (by assumption) ?_
    case refine_2 => (intro wx hSx; (try dsimp only at hSx); go_simp; first | done | with_reducible rfl)
    ((try simp only [Act.put]); (try simp only [List.setIfInBounds_toArray]); (try simp only [List.set_cons_succ]); (try simp only [List.set_cons_zero]))
    refine wpAnyH_take (i := 15) (oi := ⟨some 53, _, _, _, _, none⟩) (v := ?_) rfl (by kernel_rfl) (by kernel_rfl) (by kernel_rfl) (fun _ _ _ h => h) (Or.inl ⟨by rfl, ?_⟩) (by assumption) ?_
    case refine_2 => (intro wx hSx; (try dsimp only at hSx); go_simp; first | done | with_reducible rfl)
    ((try simp only [Act.put]); (try simp only [List.setIfInBounds_toArray]); (try simp only [List.set_cons_succ]); (try simp only [List.set_cons_zero]))
    refine wpAnyH_take (i := 16) (oi := ⟨some 37, _, _, _, _, none⟩) (v := ?_) rfl (by kernel_rfl) (by kernel_rfl) (by kernel_rfl) (fun _ _ _ h => h) (Or.inl ⟨by rfl, ?_⟩) (by assumption) ?_
    case refine_2 => (intro wx hSx; (try dsimp only at hSx); go_simp; first | done | with_reducible rfl)
    ((try simp only [Act.put]); (try simp only [List.setIfInBounds_toArray]); (try simp only [List.set_cons_succ]); (try simp only [List.set_cons_zero]))
    refine wpAnyH_done (by kernel_rfl) ?_ _
    go_wp2_with fail
    go_ret
    exact ⟨ret_i64 HN.out.symm, B.out⟩
  have HN : Hid (z = 0) := Lib.hid (by rw [← HZ.out]; exact tbl_ok A1.out A2.out A3.out A5.out (fun q => q.elim (fun q => q A6.out) (fun q => q a7)))
  have i6 : (s2 : Int) = (ss.length : Int) := by
    have h := HN1.out
    unfold Num at h
    rw [List.length_map] at h
    have := h.2.2 a7
    omega
  have i8 : ¬ (ss.length : Int) < (ss.length : Int) := by omega
  rw [i6]
  clear a7 i6
  refine wpAnyH_take (i := 14) (oi := ⟨some 52, _, _, _, _, some _⟩) (v := ?_) rfl (by kernel_rfl) (by kernel_rfl) (by kernel_rfl) (fun _ _ _ h => h) (Or.inl ⟨by rfl, ?_⟩) (by assumption) ?_
  case refine_2 => (intro wx hSx; (try dsimp only at hSx); go_simp; first | done | with_reducible rfl)
  ((try simp only [Act.put]); (try simp only [List.setIfInBounds_toArray]); (try simp only [List.set_cons_succ]); (try simp only [List.set_cons_zero]))
  refine wpAnyH_take (i := 15) (oi := ⟨some 53, _, _, _, _, none⟩) (v := ?_) rfl (by kernel_rfl) (by kernel_rfl) (by kernel_rfl) (fun _ _ _ h => h) (Or.inl ⟨by rfl, ?_⟩) (by assumption) ?_
  case refine_2 => (intro wx hSx; (try dsimp only at hSx); go_simp; first | done | with_reducible rfl)
  ((try simp only [Act.put]); (try simp only [List.setIfInBounds_toArray]); (try simp only [List.set_cons_succ]); (try simp only [List.set_cons_zero]))
  refine wpAnyH_take (i := 16) (oi := ⟨some 37, _, _, _, _, none⟩) (v := ?_) rfl (by kernel_rfl) (by kernel_rfl) (by kernel_rfl) (fun _ _ _ h => h) (Or.inl ⟨by rfl, ?_⟩) (by assumption) ?_
  case refine_2 => (intro wx hSx; (try dsimp only at hSx); go_simp; first | done | with_reducible rfl)
  ((try simp only [Act.put]); (try simp only [List.setIfInBounds_toArray]); (try simp only [List.set_cons_succ]); (try simp only [List.set_cons_zero]))
  refine wpAnyH_done (by kernel_rfl) ?_ _
  go_wp2_with fail
  go_ret
  exact ⟨ret_i64 HN.out.symm, B.out⟩
end Go.Proofs.YtjaopjhfjijdaaaDoor
