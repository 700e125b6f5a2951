/- The reference's Validate, heading and Format of a valid bulletin. -/
import Derived.Test.YtfnlgfacadmjpaaGreatDoorBRa
import Derived.Test.YtfnlgfacadmjpaaGreatDoorBFt
import Derived.Test.YtfnlgfacadmjpaaGreatDoorGRf
import Derived.Test.YtfnlgfacadmjpaaGreatDoorGRy
import Derived.BigQuiet
namespace Go.Proofs.YtfnlgfacadmjpaaGreatDoor.Bu
open Go.RowKit
theorem S_three (a b c : UInt8) : (⟨#[a, b, c]⟩ : ByteArray) = S [a, b, c] := rfl
theorem S_six (a b c d e f : UInt8) : (⟨#[a, b, c, d, e, f]⟩ : ByteArray) = S [a, b, c, d, e, f] := rfl
attribute [local go_sem] S_add S_size Ck.S_one S_two S_three S_six

set_option maxRecDepth 100000 in
set_option maxHeartbeats 4000000 in
theorem refValidate6 (c : ByteArray) (t cor del : Int) (v : Value) (R : List Rp) (w : World) (hR : RpsIn w v R) (hV : VdB c t cor del R) :
    Calls Tryz.prog 18 #[bulV c t cor del v] w fun e w' => e = .returned (.int .i64 0) ∧ Below w.heap.size w w' := by
  have HR := Lib.hid hR
  have HV := Lib.hid hV
  obtain ⟨A, cap, rfl, hlc, hcm, -⟩ := hR
  have hJ := Bx.new w c t cor del (.slice A R.length cap)
  have hcs : c.size ≤ 9223372036854775807 := by
    have h := hV.hctr
    unfold ctr at h
    rw [Bool.and_eq_true, decide_eq_true_iff] at h
    rw [h.1]; decide
  have HC := Lib.hid (fun W => refCentre_any c W hcs)
  rw [hV.hctr] at HC
  have HIN := Lib.hid (fun W => Ck.refIn_any t W)
  rw [Ck.Cal.rng_yes hV.htime.1 hV.htime.2] at HIN
  have hl := hV.hlen
  have h1 := hV.hone
  have a1 : ¬ cor < 0 := by have := hV.hcor; omega
  have a2 : ¬ 26 < cor := by have := hV.hcor; omega
  have a3 : ¬ del < 0 := by have := hV.hdel; omega
  have a4 : ¬ 26 < del := by have := hV.hdel; omega
  have hl6 : ¬ (60 : Int) < (R.length : Int) := by omega
  clear hV hcs
  have HJ := Lib.hid hJ
  clear hJ
  go_enter Tryz.func18, Tryz.ntmps18
  go_upto_region 1 with fail
  refine forget (fun V => Hid (Bx w w.heap.size c t cor del (.slice A R.length cap) V)) HJ ?_
  clear HJ
  obtain ⟨g1, e1⟩ : ∃ g1, w.heap.size = g1 := ⟨_, rfl⟩
  have E1 := Lib.hid e1
  rw [e1]
  clear e1
  intro Y0 HJ
  obtain ⟨q0, q1, q2, q3, q4⟩ := row5 HJ.out.1
  go_wp2_with fail
  refine (HC.out _).mono ?_
  rintro e w1 ⟨rfl, rfl⟩
  go_wp2_with fail
  refine (HIN.out _).mono ?_
  rintro e w9 ⟨rfl, rfl⟩
  have HJ2 := HJ
  have hcd : (cor = 0 ∨ ¬ cor = 0 ∧ del = 0) := by
    rcases h1 with h | h
    · exact .inl h
    · by_cases hc : cor = 0
      · exact .inl hc
      · exact .inr ⟨hc, h⟩
  clear h1
  rcases hcd with hz | ⟨hz, hz2⟩
  · subst hz
    go_wp2_with fail
    go_loopw [3] (fun u Y => ∃ k : Nat, k ≤ R.length ∧ u = .int .i64 k ∧ Hid (Bx w g1 c t 0 del (.slice A R.length cap) Y)) (fun u _ => R.length - (intOf u).toNat)
    case atStart => exact ⟨0, Nat.zero_le _, rfl, HJ2⟩
    case round =>
      clear HJ2 HJ q0 q1 q2 q3 q4
      obtain ⟨k, hk, rfl, M⟩ := hrel
      obtain ⟨q0, q1, q2, q3, q4⟩ := row5 M.out.1
      by_cases hlt : k < R.length
      · have k0 : (0 : Int) ≤ (k : Int) := by omega
        have k1 : (k : Int) < (R.length : Int) := by omega
        obtain ⟨A', cap', ea, -, -, h4⟩ := (HR.out.under M.out.2)
        injection ea with ea _ ec
        subst ea
        subst ec
        obtain ⟨g, off, rfl, hgl, h8, hrd⟩ := h4 k hlt
        obtain ⟨hvk, hrk⟩ := HV.out.hreps _ (List.getElem_mem hlt)
        obtain ⟨rk, hrk0⟩ : ∃ rk, R[k] = rk := ⟨_, rfl⟩
        rw [hrk0] at h8 hrd hvk hrk
        clear hrk0 h4
        have hns := hvk.short
        obtain ⟨kk, nm, tt, F, A0, B, C, uu, L⟩ := rk
        simp only at hrd hvk hrk hns
        obtain ⟨Au, cu, eu, -⟩ := id hrd
        subst eu
        have H8 := Lib.hid h8
        obtain ⟨c0, c1, c2, c3, c4, c5, c6, c7⟩ := h8
        have HVa := fun Y (hY : Below wr.heap.size wr Y) => refVal_any kk nm tt F A0 B C (.slice Au L.length cu) L Y (hrd.under hY) (by omega)
        have HRa := fun Y (hY : Below wr.heap.size wr Y) => refReadable_any kk nm tt F A0 B C (.slice Au L.length cu) L t Y (hrd.under hY) (by omega)
        rw [hvk.code] at HVa
        rw [decide_eq_true hvk.code, hrk] at HRa
        have HVa := Lib.hid HVa
        have HRa := Lib.hid HRa
        have HGL := Lib.hid hgl
        clear hrd hgl hvk hrk hns
        simp only at c0 c1 c2 c3 c4 c5 c6 c7
        go_wp2_with fail
        refine (HVa.out _ (Below.refl _ _)).mono ?_
        rintro e w2 ⟨rfl, hb⟩
        have HB2 := Lib.hid hb
        have M3 := Lib.hid (M.out.under hb)
        clear hb M HVa c0 c1 c2 c3 c4 c5 c6 c7 q0 q1 q2 q3 q4
        obtain ⟨q0, q1, q2, q3, q4⟩ := row5 M3.out.1
        obtain ⟨c0, c1, c2, c3, c4, c5, c6, c7⟩ := H8.out.under HGL.out HB2.out
        simp only at c0 c1 c2 c3 c4 c5 c6 c7
        go_upto_region 15 with fail
        refine wp_region_held_drew (S := fun Y : World => (Y.cell? ⟨g1, 1, none⟩ = some (.int .i64 t) ∧ Y.cell? ⟨g1, 4, none⟩ = some (.slice (some ⟨g, off, none⟩) R.length cap)) ∧ (Y.cell? ⟨g, off + k * 8, none⟩ = some (.int .i64 kk) ∧ Y.cell? ⟨g, off + k * 8 + 1, none⟩ = some (.string nm) ∧ Y.cell? ⟨g, off + k * 8 + 2, none⟩ = some (.int .i64 tt) ∧ Y.cell? ⟨g, off + k * 8 + 3, none⟩ = some (.int .i64 F) ∧ Y.cell? ⟨g, off + k * 8 + 4, none⟩ = some (.int .i64 A0) ∧ Y.cell? ⟨g, off + k * 8 + 5, none⟩ = some (.int .i64 B) ∧ Y.cell? ⟨g, off + k * 8 + 6, none⟩ = some (.int .i64 C) ∧ Y.cell? ⟨g, off + k * 8 + 7, none⟩ = some (.slice Au L.length cu))) (by kernel_rfl) ⟨⟨q1, q4⟩, ⟨c0, c1, c2, c3, c4, c5, c6, c7⟩⟩ (fun hS => ?_)
        have HB2 := Lib.hid (HB2.out.trans ((below_drewN (Below.refl w2.heap.size w2) 1).mono HB2.out.size))
        have M3 := Lib.hid (M3.out.under (below_drewN (Below.refl w2.heap.size w2) 1))
        clear c0 c1 c2 c3 c4 c5 c6 c7 q0 q1 q2 q3 q4
        change Hid (Below wr.heap.size wr w2.drew) at HB2
        change Hid (Bx w g1 c t 0 del (.slice (some ⟨g, off, none⟩) R.length cap) w2.drew) at M3
        generalize w2.drew = X at *
        refine wpAnyH_take (i := 0) (oi := ⟨some 61, _, _, _, _, none⟩) (v := ?_) rfl (by kernel_rfl) (by kernel_rfl) (by kernel_rfl) (fun _ _ _ h => h) (Or.inl ⟨by rfl, ?_⟩) (by assumption) ?_
        case refine_2 => (intro wx hSx; (try dsimp only at hSx); go_simp; first | done | with_reducible rfl)
        try simp only [Act.put, List.setIfInBounds_toArray, List.set_cons_zero, List.set_cons_succ]
        refine wpAnyH_take (i := 1) (oi := ⟨some 62, _, _, _, _, none⟩) (v := ?_) rfl (by kernel_rfl) (by kernel_rfl) (by kernel_rfl) (fun _ _ _ h => h) (Or.inl ⟨by rfl, ?_⟩) (by assumption) ?_
        case refine_2 => (intro wx hSx; (try dsimp only at hSx); go_simp; first | done | with_reducible rfl)
        try simp only [Act.put, List.setIfInBounds_toArray, List.set_cons_zero, List.set_cons_succ]
        refine wpAnyH_take (i := 2) (oi := ⟨some 63, _, _, _, _, none⟩) (v := ?_) rfl (by kernel_rfl) (by kernel_rfl) (by kernel_rfl) (fun _ _ _ h => h) (Or.inl ⟨by rfl, ?_⟩) (by assumption) ?_
        case refine_2 => (intro wx hSx; (try dsimp only at hSx); go_simp; first | done | with_reducible rfl)
        try simp only [Act.put, List.setIfInBounds_toArray, List.set_cons_zero, List.set_cons_succ]
        refine wpAnyH_take (i := 3) (oi := ⟨some 64, _, _, _, _, none⟩) (v := ?_) rfl (by kernel_rfl) (by kernel_rfl) (by kernel_rfl) (fun _ _ _ h => h) (Or.inl ⟨by rfl, ?_⟩) (by assumption) ?_
        case refine_2 => (intro wx hSx; (try dsimp only at hSx); go_simp; first | done | with_reducible rfl)
        try simp only [Act.put, List.setIfInBounds_toArray, List.set_cons_zero, List.set_cons_succ]
        refine wpAnyH_take (i := 4) (oi := ⟨some 65, _, _, _, _, none⟩) (v := ?_) rfl (by kernel_rfl) (by kernel_rfl) (by kernel_rfl) (fun _ _ _ h => h) (Or.inl ⟨by rfl, ?_⟩) (by assumption) ?_
        case refine_2 => (intro wx hSx; (try dsimp only at hSx); go_simp; first | done | with_reducible rfl)
        try simp only [Act.put, List.setIfInBounds_toArray, List.set_cons_zero, List.set_cons_succ]
        refine wpAnyH_take (i := 5) (oi := ⟨some 66, _, _, _, _, none⟩) (v := ?_) rfl (by kernel_rfl) (by kernel_rfl) (by kernel_rfl) (fun _ _ _ h => h) (Or.inl ⟨by rfl, ?_⟩) (by assumption) ?_
        case refine_2 => (intro wx hSx; (try dsimp only at hSx); go_simp; first | done | with_reducible rfl)
        try simp only [Act.put, List.setIfInBounds_toArray, List.set_cons_zero, List.set_cons_succ]
        refine wpAnyH_take (i := 6) (oi := ⟨some 67, _, _, _, _, none⟩) (v := ?_) rfl (by kernel_rfl) (by kernel_rfl) (by kernel_rfl) (fun _ _ _ h => h) (Or.inl ⟨by rfl, ?_⟩) (by assumption) ?_
        case refine_2 => (intro wx hSx; (try dsimp only at hSx); go_simp; first | done | with_reducible rfl)
        try simp only [Act.put, List.setIfInBounds_toArray, List.set_cons_zero, List.set_cons_succ]
        refine wpAnyH_ready (rs := [7]) (by kernel_rfl) (by simp) ?_
        refine AllReadyH.cons (o := ⟨some 68, _, _, _, _, none⟩) rfl (fun K hK => ?_) AllReadyH.nil
        go_simp
        refine (HRa.out X HB2.out).mono ?_
        rintro e w3 ⟨rfl, hb⟩
        have M4 : Hid (Bx w g1 c t 0 del (.slice (some ⟨g, off, none⟩) R.length cap) w3) := Lib.hid (M3.out.under hb)
        have HB4 := Lib.hid (HB2.out.trans (hb.mono HB2.out.size))
        clear hb M3 HRa hS HB2
        go_wp2_with fail
        refine hK.out _ _ ⟨⟨(row5 M4.out.1).2.1, (row5 M4.out.1).2.2.2.2⟩, H8.out.under HGL.out HB4.out⟩ (fun hS => ?_)
        clear hK K
        ((try simp only [Act.put]); (try simp only [List.setIfInBounds_toArray]); (try simp only [List.set_cons_succ]); (try simp only [List.set_cons_zero]))
        refine wpAnyH_take (i := 8) (oi := ⟨some 69, _, _, _, _, none⟩) (v := ?_) rfl (by kernel_rfl) (by kernel_rfl) (by kernel_rfl) (fun _ _ _ h => h) (Or.inl ⟨by rfl, ?_⟩) (by assumption) ?_
        case refine_2 => (intro wx hSx; (try dsimp only at hSx); go_simp; first | done | with_reducible rfl)
        try simp only [Act.put, List.setIfInBounds_toArray, List.set_cons_zero, List.set_cons_succ]
        refine wpAnyH_done (by kernel_rfl) ?_ _
        clear hS
        go_wp2_with fail
        go_roundw
        case rel => exact ⟨k + 1, by omega, by go_num, M4⟩
        case measure => simp [intOf]; omega
      · have k1 : ¬ (k : Int) < (R.length : Int) := by omega
        go_wp2_with fail
        go_ret
        exact ⟨rfl, M.out.2⟩
  · subst hz2
    have e1 : (cor != 0) = true := by rw [bne_iff_ne]; exact hz
    go_wp2_with fail
    go_loopw [3] (fun u Y => ∃ k : Nat, k ≤ R.length ∧ u = .int .i64 k ∧ Hid (Bx w g1 c t cor 0 (.slice A R.length cap) Y)) (fun u _ => R.length - (intOf u).toNat)
    case atStart => exact ⟨0, Nat.zero_le _, rfl, HJ2⟩
    case round =>
      clear HJ2 HJ q0 q1 q2 q3 q4
      obtain ⟨k, hk, rfl, M⟩ := hrel
      obtain ⟨q0, q1, q2, q3, q4⟩ := row5 M.out.1
      by_cases hlt : k < R.length
      · have k0 : (0 : Int) ≤ (k : Int) := by omega
        have k1 : (k : Int) < (R.length : Int) := by omega
        obtain ⟨A', cap', ea, -, -, h4⟩ := (HR.out.under M.out.2)
        injection ea with ea _ ec
        subst ea
        subst ec
        obtain ⟨g, off, rfl, hgl, h8, hrd⟩ := h4 k hlt
        obtain ⟨hvk, hrk⟩ := HV.out.hreps _ (List.getElem_mem hlt)
        obtain ⟨rk, hrk0⟩ : ∃ rk, R[k] = rk := ⟨_, rfl⟩
        rw [hrk0] at h8 hrd hvk hrk
        clear hrk0 h4
        have hns := hvk.short
        obtain ⟨kk, nm, tt, F, A0, B, C, uu, L⟩ := rk
        simp only at hrd hvk hrk hns
        obtain ⟨Au, cu, eu, -⟩ := id hrd
        subst eu
        have H8 := Lib.hid h8
        obtain ⟨c0, c1, c2, c3, c4, c5, c6, c7⟩ := h8
        have HVa := fun Y (hY : Below wr.heap.size wr Y) => refVal_any kk nm tt F A0 B C (.slice Au L.length cu) L Y (hrd.under hY) (by omega)
        have HRa := fun Y (hY : Below wr.heap.size wr Y) => refReadable_any kk nm tt F A0 B C (.slice Au L.length cu) L t Y (hrd.under hY) (by omega)
        rw [hvk.code] at HVa
        rw [decide_eq_true hvk.code, hrk] at HRa
        have HVa := Lib.hid HVa
        have HRa := Lib.hid HRa
        have HGL := Lib.hid hgl
        clear hrd hgl hvk hrk hns
        simp only at c0 c1 c2 c3 c4 c5 c6 c7
        go_wp2_with fail
        refine (HVa.out _ (Below.refl _ _)).mono ?_
        rintro e w2 ⟨rfl, hb⟩
        have HB2 := Lib.hid hb
        have M3 := Lib.hid (M.out.under hb)
        clear hb M HVa c0 c1 c2 c3 c4 c5 c6 c7 q0 q1 q2 q3 q4
        obtain ⟨q0, q1, q2, q3, q4⟩ := row5 M3.out.1
        obtain ⟨c0, c1, c2, c3, c4, c5, c6, c7⟩ := H8.out.under HGL.out HB2.out
        simp only at c0 c1 c2 c3 c4 c5 c6 c7
        go_upto_region 15 with fail
        refine wp_region_held_drew (S := fun Y : World => (Y.cell? ⟨g1, 1, none⟩ = some (.int .i64 t) ∧ Y.cell? ⟨g1, 4, none⟩ = some (.slice (some ⟨g, off, none⟩) R.length cap)) ∧ (Y.cell? ⟨g, off + k * 8, none⟩ = some (.int .i64 kk) ∧ Y.cell? ⟨g, off + k * 8 + 1, none⟩ = some (.string nm) ∧ Y.cell? ⟨g, off + k * 8 + 2, none⟩ = some (.int .i64 tt) ∧ Y.cell? ⟨g, off + k * 8 + 3, none⟩ = some (.int .i64 F) ∧ Y.cell? ⟨g, off + k * 8 + 4, none⟩ = some (.int .i64 A0) ∧ Y.cell? ⟨g, off + k * 8 + 5, none⟩ = some (.int .i64 B) ∧ Y.cell? ⟨g, off + k * 8 + 6, none⟩ = some (.int .i64 C) ∧ Y.cell? ⟨g, off + k * 8 + 7, none⟩ = some (.slice Au L.length cu))) (by kernel_rfl) ⟨⟨q1, q4⟩, ⟨c0, c1, c2, c3, c4, c5, c6, c7⟩⟩ (fun hS => ?_)
        have HB2 := Lib.hid (HB2.out.trans ((below_drewN (Below.refl w2.heap.size w2) 1).mono HB2.out.size))
        have M3 := Lib.hid (M3.out.under (below_drewN (Below.refl w2.heap.size w2) 1))
        clear c0 c1 c2 c3 c4 c5 c6 c7 q0 q1 q2 q3 q4
        change Hid (Below wr.heap.size wr w2.drew) at HB2
        change Hid (Bx w g1 c t cor 0 (.slice (some ⟨g, off, none⟩) R.length cap) w2.drew) at M3
        generalize w2.drew = X at *
        refine wpAnyH_take (i := 0) (oi := ⟨some 61, _, _, _, _, none⟩) (v := ?_) rfl (by kernel_rfl) (by kernel_rfl) (by kernel_rfl) (fun _ _ _ h => h) (Or.inl ⟨by rfl, ?_⟩) (by assumption) ?_
        case refine_2 => (intro wx hSx; (try dsimp only at hSx); go_simp; first | done | with_reducible rfl)
        try simp only [Act.put, List.setIfInBounds_toArray, List.set_cons_zero, List.set_cons_succ]
        refine wpAnyH_take (i := 1) (oi := ⟨some 62, _, _, _, _, none⟩) (v := ?_) rfl (by kernel_rfl) (by kernel_rfl) (by kernel_rfl) (fun _ _ _ h => h) (Or.inl ⟨by rfl, ?_⟩) (by assumption) ?_
        case refine_2 => (intro wx hSx; (try dsimp only at hSx); go_simp; first | done | with_reducible rfl)
        try simp only [Act.put, List.setIfInBounds_toArray, List.set_cons_zero, List.set_cons_succ]
        refine wpAnyH_take (i := 2) (oi := ⟨some 63, _, _, _, _, none⟩) (v := ?_) rfl (by kernel_rfl) (by kernel_rfl) (by kernel_rfl) (fun _ _ _ h => h) (Or.inl ⟨by rfl, ?_⟩) (by assumption) ?_
        case refine_2 => (intro wx hSx; (try dsimp only at hSx); go_simp; first | done | with_reducible rfl)
        try simp only [Act.put, List.setIfInBounds_toArray, List.set_cons_zero, List.set_cons_succ]
        refine wpAnyH_take (i := 3) (oi := ⟨some 64, _, _, _, _, none⟩) (v := ?_) rfl (by kernel_rfl) (by kernel_rfl) (by kernel_rfl) (fun _ _ _ h => h) (Or.inl ⟨by rfl, ?_⟩) (by assumption) ?_
        case refine_2 => (intro wx hSx; (try dsimp only at hSx); go_simp; first | done | with_reducible rfl)
        try simp only [Act.put, List.setIfInBounds_toArray, List.set_cons_zero, List.set_cons_succ]
        refine wpAnyH_take (i := 4) (oi := ⟨some 65, _, _, _, _, none⟩) (v := ?_) rfl (by kernel_rfl) (by kernel_rfl) (by kernel_rfl) (fun _ _ _ h => h) (Or.inl ⟨by rfl, ?_⟩) (by assumption) ?_
        case refine_2 => (intro wx hSx; (try dsimp only at hSx); go_simp; first | done | with_reducible rfl)
        try simp only [Act.put, List.setIfInBounds_toArray, List.set_cons_zero, List.set_cons_succ]
        refine wpAnyH_take (i := 5) (oi := ⟨some 66, _, _, _, _, none⟩) (v := ?_) rfl (by kernel_rfl) (by kernel_rfl) (by kernel_rfl) (fun _ _ _ h => h) (Or.inl ⟨by rfl, ?_⟩) (by assumption) ?_
        case refine_2 => (intro wx hSx; (try dsimp only at hSx); go_simp; first | done | with_reducible rfl)
        try simp only [Act.put, List.setIfInBounds_toArray, List.set_cons_zero, List.set_cons_succ]
        refine wpAnyH_take (i := 6) (oi := ⟨some 67, _, _, _, _, none⟩) (v := ?_) rfl (by kernel_rfl) (by kernel_rfl) (by kernel_rfl) (fun _ _ _ h => h) (Or.inl ⟨by rfl, ?_⟩) (by assumption) ?_
        case refine_2 => (intro wx hSx; (try dsimp only at hSx); go_simp; first | done | with_reducible rfl)
        try simp only [Act.put, List.setIfInBounds_toArray, List.set_cons_zero, List.set_cons_succ]
        refine wpAnyH_ready (rs := [7]) (by kernel_rfl) (by simp) ?_
        refine AllReadyH.cons (o := ⟨some 68, _, _, _, _, none⟩) rfl (fun K hK => ?_) AllReadyH.nil
        go_simp
        refine (HRa.out X HB2.out).mono ?_
        rintro e w3 ⟨rfl, hb⟩
        have M4 : Hid (Bx w g1 c t cor 0 (.slice (some ⟨g, off, none⟩) R.length cap) w3) := Lib.hid (M3.out.under hb)
        have HB4 := Lib.hid (HB2.out.trans (hb.mono HB2.out.size))
        clear hb M3 HRa hS HB2
        go_wp2_with fail
        refine hK.out _ _ ⟨⟨(row5 M4.out.1).2.1, (row5 M4.out.1).2.2.2.2⟩, H8.out.under HGL.out HB4.out⟩ (fun hS => ?_)
        clear hK K
        ((try simp only [Act.put]); (try simp only [List.setIfInBounds_toArray]); (try simp only [List.set_cons_succ]); (try simp only [List.set_cons_zero]))
        refine wpAnyH_take (i := 8) (oi := ⟨some 69, _, _, _, _, none⟩) (v := ?_) rfl (by kernel_rfl) (by kernel_rfl) (by kernel_rfl) (fun _ _ _ h => h) (Or.inl ⟨by rfl, ?_⟩) (by assumption) ?_
        case refine_2 => (intro wx hSx; (try dsimp only at hSx); go_simp; first | done | with_reducible rfl)
        try simp only [Act.put, List.setIfInBounds_toArray, List.set_cons_zero, List.set_cons_succ]
        refine wpAnyH_done (by kernel_rfl) ?_ _
        clear hS
        go_wp2_with fail
        go_roundw
        case rel => exact ⟨k + 1, by omega, by go_num, M4⟩
        case measure => simp [intOf]; omega
      · have k1 : ¬ (k : Int) < (R.length : Int) := by omega
        go_wp2_with fail
        go_ret
        exact ⟨rfl, M.out.2⟩
set_option maxRecDepth 100000 in
set_option maxHeartbeats 4000000 in
theorem refHeading6 (c : List UInt8) (t cor del : Int) (Au : Option Addr) (n cu : Nat) (w : World) (hc : c.length = 4) (ht : 0 ≤ t ∧ t ≤ 52595999) (h1 : 0 ≤ cor ∧ cor ≤ 26) (h2 : 0 ≤ del ∧ del ≤ 26) :
    Calls Tryz.prog 39 #[bulV (S c) t cor del (.slice Au n cu)] w fun e w' => (∃ x : List UInt8, x.length ≤ 40 ∧ e = .returned (.string (S x))) ∧ Below w.heap.size w w' := by
  have hJ := Lib.hid (Bx.new w (S c) t cor del (.slice Au n cu))
  have HG := Lib.hid (fun Y => refGroup_any t Y ht)
  have hst : (stp t).length = 6 := stp_len t
  generalize stp t = st at *
  obtain ⟨c0, c1, c2, c3, rfl⟩ : ∃ a b d e, c = [a, b, d, e] := by
    match c, hc with
    | [a, b, d, e], _ => exact ⟨a, b, d, e, rfl⟩
  obtain ⟨s0, s1, s2, s3, s4, s5, rfl⟩ : ∃ a b d e f g, st = [a, b, d, e, f, g] := by
    match st, hst with
    | [a, b, d, e, f, g], _ => exact ⟨a, b, d, e, f, g, rfl⟩
  clear hc hst ht
  go_enter Tryz.func39, Tryz.ntmps39
  go_upto_region 1 with fail
  refine forget (fun V => Hid (Bx w w.heap.size (S [c0, c1, c2, c3]) t cor del (.slice Au n cu) V)) hJ ?_
  clear hJ
  generalize hg1 : w.heap.size = g1
  have HG1 := Lib.hid hg1; clear hg1
  intro Y0 HJ
  obtain ⟨q0, q1, q2, q3, q4⟩ := row5 HJ.out.1
  refine wp_region_held_drew (S := fun Y : World => Y.cell? ⟨g1, 0, none⟩ = some (.string (S [c0, c1, c2, c3])) ∧ Y.cell? ⟨g1, 1, none⟩ = some (.int .i64 t)) (by kernel_rfl) ⟨q0, q1⟩ (fun hS => ?_)
  have M3 : Hid (Bx w g1 (S [c0, c1, c2, c3]) t cor del (.slice Au n cu) Y0.drew) := Lib.hid (HJ.out.under (below_drewN (Below.refl _ _) 1))
  clear HJ q0 q1 q2 q3 q4
  generalize Y0.drew = X at *
  refine wpAnyH_take (i := 0) (oi := ⟨some 4, _, _, _, _, none⟩) (v := ?_) rfl (by kernel_rfl) (by kernel_rfl) (by kernel_rfl) (fun _ _ _ h => h) (Or.inl ⟨by rfl, ?_⟩) (by assumption) ?_
  case refine_2 => (intro wx hSx; (try dsimp only at hSx); go_simp; first | done | with_reducible rfl)
  try simp only [Act.put, List.setIfInBounds_toArray, List.set_cons_zero, List.set_cons_succ]
  refine wpAnyH_take (i := 1) (oi := ⟨some 5, _, _, _, _, none⟩) (v := ?_) rfl (by kernel_rfl) (by kernel_rfl) (by kernel_rfl) (fun _ _ _ h => h) (Or.inl ⟨by rfl, ?_⟩) (by assumption) ?_
  case refine_2 => (intro wx hSx; (try dsimp only at hSx); go_simp; first | done | with_reducible rfl)
  try simp only [Act.put, List.setIfInBounds_toArray, List.set_cons_zero, List.set_cons_succ]
  refine wpAnyH_take (i := 2) (oi := ⟨some 6, _, _, _, _, none⟩) (v := ?_) rfl (by kernel_rfl) (by kernel_rfl) (by kernel_rfl) (fun _ _ _ h => h) (Or.inl ⟨by rfl, ?_⟩) (by assumption) ?_
  case refine_2 => (intro wx hSx; (try dsimp only at hSx); go_simp; first | done | with_reducible rfl)
  try simp only [Act.put, List.setIfInBounds_toArray, List.set_cons_zero, List.set_cons_succ]
  refine wpAnyH_take (i := 3) (oi := ⟨some 7, _, _, _, _, none⟩) (v := ?_) rfl (by kernel_rfl) (by kernel_rfl) (by kernel_rfl) (fun _ _ _ h => h) (Or.inl ⟨by rfl, ?_⟩) (by assumption) ?_
  case refine_2 => (intro wx hSx; (try dsimp only at hSx); go_simp; first | done | with_reducible rfl)
  try simp only [Act.put, List.setIfInBounds_toArray, List.set_cons_zero, List.set_cons_succ]
  refine wpAnyH_take (i := 4) (oi := ⟨some 8, _, _, _, _, none⟩) (v := ?_) rfl (by kernel_rfl) (by kernel_rfl) (by kernel_rfl) (fun _ _ _ h => h) (Or.inl ⟨by rfl, ?_⟩) (by assumption) ?_
  case refine_2 => (intro wx hSx; (try dsimp only at hSx); go_simp; first | done | with_reducible rfl)
  try simp only [Act.put, List.setIfInBounds_toArray, List.set_cons_zero, List.set_cons_succ]
  refine wpAnyH_take (i := 5) (oi := ⟨some 9, _, _, _, _, none⟩) (v := ?_) rfl (by kernel_rfl) (by kernel_rfl) (by kernel_rfl) (fun _ _ _ h => h) (Or.inl ⟨by rfl, ?_⟩) (by assumption) ?_
  case refine_2 => (intro wx hSx; (try dsimp only at hSx); go_simp; first | done | with_reducible rfl)
  try simp only [Act.put, List.setIfInBounds_toArray, List.set_cons_zero, List.set_cons_succ]
  refine wpAnyH_ready (rs := [6]) (by kernel_rfl) (by simp) ?_
  refine AllReadyH.cons (o := ⟨some 10, _, _, _, _, none⟩) rfl (fun K hK => ?_) AllReadyH.nil
  go_simp
  refine (HG.out X).mono ?_
  rintro e w3 ⟨rfl, hb⟩
  have M4 : Hid (Bx w g1 (S [c0, c1, c2, c3]) t cor del (.slice Au n cu) w3) := Lib.hid (M3.out.under hb)
  clear hb M3 HG hS
  go_wp2_with fail
  refine hK.out _ _ ⟨(row5 M4.out.1).1, (row5 M4.out.1).2.1⟩ (fun hS => ?_)
  clear hK K
  ((try simp only [Act.put]); (try simp only [List.setIfInBounds_toArray]); (try simp only [List.set_cons_succ]); (try simp only [List.set_cons_zero]))
  refine wpAnyH_take (i := 7) (oi := ⟨some 11, _, _, _, _, none⟩) (v := ?_) rfl (by kernel_rfl) (by kernel_rfl) (by kernel_rfl) (fun _ _ _ h => h) (Or.inl ⟨by rfl, ?_⟩) (by assumption) ?_
  case refine_2 => (intro wx hSx; (try dsimp only at hSx); go_simp; first | done | with_reducible rfl)
  try simp only [Act.put, List.setIfInBounds_toArray, List.set_cons_zero, List.set_cons_succ]
  refine wpAnyH_take (i := 8) (oi := ⟨some 3, _, _, _, _, none⟩) (v := ?_) rfl (by kernel_rfl) (by kernel_rfl) (by kernel_rfl) (fun _ _ _ h => h) (Or.inl ⟨by rfl, ?_⟩) (by assumption) ?_
  case refine_2 => (intro wx hSx; (try dsimp only at hSx); go_simp; first | done | with_reducible rfl)
  try simp only [Act.put, List.setIfInBounds_toArray, List.set_cons_zero, List.set_cons_succ]
  refine wpAnyH_done (by kernel_rfl) ?_ _
  clear hS
  obtain ⟨q0, q1, q2, q3, q4⟩ := row5 M4.out.1
  by_cases hz : cor = 0
  · subst hz
    by_cases hy : del = 0
    · subst hy
      go_wp2_with fail
      go_ret
      exact ⟨⟨_, by simp, rfl⟩, M4.out.2⟩
    · have e1 : (del != 0) = true := by rw [bne_iff_ne]; exact hy
      go_wp2_with fail
      refine (refLetter_any del _ ⟨by omega, by omega⟩).mono ?_
      rintro e w4 ⟨rfl, hb⟩
      have M5 := Lib.hid (M4.out.under hb); clear hb M4 q0 q1 q2 q3 q4
      obtain ⟨l0, hl0⟩ : ∃ l0, ltr del = [l0] := ⟨_, rfl⟩
      rw [hl0]
      clear hl0
      go_wp2_with fail
      go_ret
      exact ⟨⟨_, by simp, rfl⟩, M5.out.2⟩
  · have e1 : (cor != 0) = true := by rw [bne_iff_ne]; exact hz
    go_wp2_with fail
    refine (refLetter_any cor _ ⟨by omega, by omega⟩).mono ?_
    rintro e w4 ⟨rfl, hb⟩
    have M5 := Lib.hid (M4.out.under hb); clear hb M4 q0 q1 q2 q3 q4
    obtain ⟨l0, hl0⟩ : ∃ l0, ltr cor = [l0] := ⟨_, rfl⟩
    rw [hl0]
    clear hl0
    obtain ⟨q0, q1, q2, q3, q4⟩ := row5 M5.out.1
    by_cases hy : del = 0
    · subst hy
      go_wp2_with fail
      go_ret
      exact ⟨⟨_, by simp, rfl⟩, M5.out.2⟩
    · have e2 : (del != 0) = true := by rw [bne_iff_ne]; exact hy
      go_wp2_with fail
      refine (refLetter_any del _ ⟨by omega, by omega⟩).mono ?_
      rintro e w5 ⟨rfl, hb⟩
      have M6 := Lib.hid (M5.out.under hb); clear hb M5 q0 q1 q2 q3 q4
      obtain ⟨l1, hl1⟩ : ∃ l1, ltr del = [l1] := ⟨_, rfl⟩
      rw [hl1]
      clear hl1
      go_wp2_with fail
      go_ret
      exact ⟨⟨_, by simp, rfl⟩, M6.out.2⟩
end Go.Proofs.YtfnlgfacadmjpaaGreatDoor.Bu
