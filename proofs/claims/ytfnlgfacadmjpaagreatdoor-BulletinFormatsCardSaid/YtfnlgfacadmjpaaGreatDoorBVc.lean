/- The reference's heading of a valid bulletin is the program's; both sides' Format of any bulletin. -/
import Derived.Test.YtfnlgfacadmjpaaGreatDoorBVb
import Derived.Test.YtfnlgfacadmjpaaGreatDoorBFq
namespace Go.Proofs.YtfnlgfacadmjpaaGreatDoor.Bu
open Go.RowKit
attribute [local go_sem] S_add S_size Ck.S_one S_two S_three S_six

theorem hdT_flat (c : List UInt8) (t cor del : Int) : hdT c t cor del = [83, 89, 78, 79, 80, 32] ++ c ++ [32] ++ stp t ++ (if cor = 0 then [] else [32, 67, 67] ++ ltr cor) ++ (if del = 0 then [] else [32, 82, 82] ++ ltr del) := by
  unfold hdT hdW mk
  by_cases h1 : cor = 0 <;> by_cases h2 : del = 0 <;> simp [h1, h2, Lib.join, sy]
/-- A bulletin without an error is valid. -/
theorem rcode_zero {t : Int} : ∀ {R : List Rp}, rcode t R = 0 → ∀ r ∈ R, Vd r.k r.nm r.t r.F r.A r.B r.C r.L ∧ rdb r.t t = true
  | [], _, r, hr => absurd hr List.not_mem_nil
  | x :: R, h, r, hr => by
    unfold rcode at h
    split at h
    · rename_i h1
      split at h
      · rename_i h2
        rcases List.mem_cons.1 hr with rfl | hr
        · exact ⟨Vd.of h1, h2⟩
        · exact rcode_zero h r hr
      · exact absurd h (by decide)
    · rename_i h1; exact absurd h h1
theorem vcb_zero {c : ByteArray} {t cor del : Int} {R : List Rp} (h : vcb c t cor del R = 0) : VdB c t cor del R := by
  unfold vcb at h
  split at h
  · rename_i h1
    split at h
    · rename_i h2
      split at h
      · rename_i h3
        split at h
        · rename_i h4; exact ⟨h1, h2.1, h2.2.1, h2.2.2, h3, h4, rcode_zero h⟩
        · exact absurd h (by decide)
      · exact absurd h (by decide)
    · exact absurd h (by decide)
  · exact absurd h (by decide)
set_option maxRecDepth 100000 in
set_option maxHeartbeats 4000000 in
theorem refHeading6_yes (c : List UInt8) (t cor del : Int) (Au : Option Addr) (n cu : Nat) (w : World) (hc : c.length = 4) (ht : 0 ≤ t ∧ t ≤ 52595999) (h1 : 0 ≤ cor ∧ cor ≤ 26) (h2 : 0 ≤ del ∧ del ≤ 26) :
    Calls Tryz.prog 39 #[bulV (S c) t cor del (.slice Au n cu)] w fun e w' => e = .returned (.string (S (hdT c t cor del))) ∧ Below w.heap.size w w' := by
  have hJ := Lib.hid (Bx.new w (S c) t cor del (.slice Au n cu))
  have HG := Lib.hid (fun Y => refGroup_any t Y ht)
  have hst : (stp t).length = 6 := stp_len t
  obtain ⟨H, hH⟩ : ∃ H, hdT c t cor del = H := ⟨_, rfl⟩
  rw [hH]
  rw [hdT_flat] at hH
  generalize stp t = st at *
  obtain ⟨c0, c1, c2, c3, rfl⟩ : ∃ a b d e, c = [a, b, d, e] := by
    match c, hc with
    | [a, b, d, e], _ => exact ⟨a, b, d, e, rfl⟩
  obtain ⟨s0, s1, s2, s3, s4, s5, rfl⟩ : ∃ a b d e f g, st = [a, b, d, e, f, g] := by
    match st, hst with
    | [a, b, d, e, f, g], _ => exact ⟨a, b, d, e, f, g, rfl⟩
  clear hc hst ht
  have HH := Lib.hid hH
  clear hH
  go_enter Tryz.func39, Tryz.ntmps39
  go_upto_region 1 with fail
  refine forget (fun V => Hid (Bx w w.heap.size (S [c0, c1, c2, c3]) t cor del (.slice Au n cu) V)) hJ ?_
  clear hJ
  generalize hg1 : w.heap.size = g1
  have HG1 := Lib.hid hg1; clear hg1
  intro Y0 HJ
  obtain ⟨q0, q1, q2, q3, q4⟩ := row5 HJ.out.1
  refine wp_region_held_drew (S := fun Y : World => Y.cell? ⟨g1, 0, none⟩ = some (.string (S [c0, c1, c2, c3])) ∧ Y.cell? ⟨g1, 1, none⟩ = some (.int .i64 t)) (by kernel_rfl) ⟨q0, q1⟩ (fun hS => ?_)
  have M3 : Hid (Bx w g1 (S [c0, c1, c2, c3]) t cor del (.slice Au n cu) Y0.drew) := Lib.hid (HJ.out.under (below_drewN (Below.refl _ _) 1))
  clear HJ q0 q1 q2 q3 q4
  generalize Y0.drew = X at *
  refine wpAnyH_take (i := 0) (oi := ⟨some 4, _, _, _, _, none⟩) (v := ?_) rfl (by kernel_rfl) (by kernel_rfl) (by kernel_rfl) (fun _ _ _ h => h) (Or.inl ⟨by rfl, ?_⟩) (by assumption) ?_
  case refine_2 => (intro wx hSx; (try dsimp only at hSx); go_simp; first | done | with_reducible rfl)
  try simp only [Act.put, List.setIfInBounds_toArray, List.set_cons_zero, List.set_cons_succ]
  refine wpAnyH_take (i := 1) (oi := ⟨some 5, _, _, _, _, none⟩) (v := ?_) rfl (by kernel_rfl) (by kernel_rfl) (by kernel_rfl) (fun _ _ _ h => h) (Or.inl ⟨by rfl, ?_⟩) (by assumption) ?_
  case refine_2 => (intro wx hSx; (try dsimp only at hSx); go_simp; first | done | with_reducible rfl)
  try simp only [Act.put, List.setIfInBounds_toArray, List.set_cons_zero, List.set_cons_succ]
  refine wpAnyH_take (i := 2) (oi := ⟨some 6, _, _, _, _, none⟩) (v := ?_) rfl (by kernel_rfl) (by kernel_rfl) (by kernel_rfl) (fun _ _ _ h => h) (Or.inl ⟨by rfl, ?_⟩) (by assumption) ?_
  case refine_2 => (intro wx hSx; (try dsimp only at hSx); go_simp; first | done | with_reducible rfl)
  try simp only [Act.put, List.setIfInBounds_toArray, List.set_cons_zero, List.set_cons_succ]
  refine wpAnyH_take (i := 3) (oi := ⟨some 7, _, _, _, _, none⟩) (v := ?_) rfl (by kernel_rfl) (by kernel_rfl) (by kernel_rfl) (fun _ _ _ h => h) (Or.inl ⟨by rfl, ?_⟩) (by assumption) ?_
  case refine_2 => (intro wx hSx; (try dsimp only at hSx); go_simp; first | done | with_reducible rfl)
  try simp only [Act.put, List.setIfInBounds_toArray, List.set_cons_zero, List.set_cons_succ]
  refine wpAnyH_take (i := 4) (oi := ⟨some 8, _, _, _, _, none⟩) (v := ?_) rfl (by kernel_rfl) (by kernel_rfl) (by kernel_rfl) (fun _ _ _ h => h) (Or.inl ⟨by rfl, ?_⟩) (by assumption) ?_
  case refine_2 => (intro wx hSx; (try dsimp only at hSx); go_simp; first | done | with_reducible rfl)
  try simp only [Act.put, List.setIfInBounds_toArray, List.set_cons_zero, List.set_cons_succ]
  refine wpAnyH_take (i := 5) (oi := ⟨some 9, _, _, _, _, none⟩) (v := ?_) rfl (by kernel_rfl) (by kernel_rfl) (by kernel_rfl) (fun _ _ _ h => h) (Or.inl ⟨by rfl, ?_⟩) (by assumption) ?_
  case refine_2 => (intro wx hSx; (try dsimp only at hSx); go_simp; first | done | with_reducible rfl)
  try simp only [Act.put, List.setIfInBounds_toArray, List.set_cons_zero, List.set_cons_succ]
  refine wpAnyH_ready (rs := [6]) (by kernel_rfl) (by simp) ?_
  refine AllReadyH.cons (o := ⟨some 10, _, _, _, _, none⟩) rfl (fun K hK => ?_) AllReadyH.nil
  go_simp
  refine (HG.out X).mono ?_
  rintro e w3 ⟨rfl, hb⟩
  have M4 : Hid (Bx w g1 (S [c0, c1, c2, c3]) t cor del (.slice Au n cu) w3) := Lib.hid (M3.out.under hb)
  clear hb M3 HG hS
  go_wp2_with fail
  refine hK.out _ _ ⟨(row5 M4.out.1).1, (row5 M4.out.1).2.1⟩ (fun hS => ?_)
  clear hK K
  ((try simp only [Act.put]); (try simp only [List.setIfInBounds_toArray]); (try simp only [List.set_cons_succ]); (try simp only [List.set_cons_zero]))
  refine wpAnyH_take (i := 7) (oi := ⟨some 11, _, _, _, _, none⟩) (v := ?_) rfl (by kernel_rfl) (by kernel_rfl) (by kernel_rfl) (fun _ _ _ h => h) (Or.inl ⟨by rfl, ?_⟩) (by assumption) ?_
  case refine_2 => (intro wx hSx; (try dsimp only at hSx); go_simp; first | done | with_reducible rfl)
  try simp only [Act.put, List.setIfInBounds_toArray, List.set_cons_zero, List.set_cons_succ]
  refine wpAnyH_take (i := 8) (oi := ⟨some 3, _, _, _, _, none⟩) (v := ?_) rfl (by kernel_rfl) (by kernel_rfl) (by kernel_rfl) (fun _ _ _ h => h) (Or.inl ⟨by rfl, ?_⟩) (by assumption) ?_
  case refine_2 => (intro wx hSx; (try dsimp only at hSx); go_simp; first | done | with_reducible rfl)
  try simp only [Act.put, List.setIfInBounds_toArray, List.set_cons_zero, List.set_cons_succ]
  refine wpAnyH_done (by kernel_rfl) ?_ _
  clear hS
  obtain ⟨q0, q1, q2, q3, q4⟩ := row5 M4.out.1
  by_cases hz : cor = 0
  · subst hz
    by_cases hy : del = 0
    · subst hy
      go_wp2_with fail
      go_ret
      exact ⟨by rw [← HH.out]; rfl, M4.out.2⟩
    · have HY := Lib.hid hy; have e1 : (del != 0) = true := by rw [bne_iff_ne]; exact hy
      go_wp2_with fail
      refine (refLetter_any del _ ⟨by omega, by omega⟩).mono ?_
      rintro e w4 ⟨rfl, hb⟩
      have M5 := Lib.hid (M4.out.under hb); clear hb M4 q0 q1 q2 q3 q4
      obtain ⟨l0, hl0⟩ : ∃ l0, ltr del = [l0] := ⟨_, rfl⟩
      rw [hl0]
      have HL0 := Lib.hid hl0; clear hl0
      go_wp2_with fail
      go_ret
      exact ⟨by have HH2 := HH.out; rw [if_neg HY.out, HL0.out] at HH2; rw [← HH2]; rfl, M5.out.2⟩
  · have HZ := Lib.hid hz; have e1 : (cor != 0) = true := by rw [bne_iff_ne]; exact hz
    go_wp2_with fail
    refine (refLetter_any cor _ ⟨by omega, by omega⟩).mono ?_
    rintro e w4 ⟨rfl, hb⟩
    have M5 := Lib.hid (M4.out.under hb); clear hb M4 q0 q1 q2 q3 q4
    obtain ⟨l0, hl0⟩ : ∃ l0, ltr cor = [l0] := ⟨_, rfl⟩
    rw [hl0]
    have HL0 := Lib.hid hl0; clear hl0
    obtain ⟨q0, q1, q2, q3, q4⟩ := row5 M5.out.1
    by_cases hy : del = 0
    · subst hy
      go_wp2_with fail
      go_ret
      exact ⟨by have HH2 := HH.out; rw [if_neg HZ.out, HL0.out] at HH2; rw [← HH2]; rfl, M5.out.2⟩
    · have HY := Lib.hid hy; have e2 : (del != 0) = true := by rw [bne_iff_ne]; exact hy
      go_wp2_with fail
      refine (refLetter_any del _ ⟨by omega, by omega⟩).mono ?_
      rintro e w5 ⟨rfl, hb⟩
      have M6 := Lib.hid (M5.out.under hb); clear hb M5 q0 q1 q2 q3 q4
      obtain ⟨l1, hl1⟩ : ∃ l1, ltr del = [l1] := ⟨_, rfl⟩
      rw [hl1]
      have HL1 := Lib.hid hl1; clear hl1
      go_wp2_with fail
      go_ret
      exact ⟨by have HH2 := HH.out; rw [if_neg HZ.out, if_neg HY.out, HL0.out, HL1.out] at HH2; rw [← HH2]; rfl, M6.out.2⟩
end Go.Proofs.YtfnlgfacadmjpaaGreatDoor.Bu
