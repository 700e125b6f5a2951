/- The contract of Parse of the program on texts of eight bytes. -/
import Derived.Test.YtneglkfcelpdgaaGreatDoorMf
namespace Go.Proofs.YtneglkfcelpdgaaGreatDoor.Pl
open Go.RowKit

theorem nonempty_ne {l : List UInt8} (h : l ≠ []) : ((⟨l.toArray⟩ : ByteArray).toList == []) = false := by
  rw [ByteArray.toList_eq]; simp [h]
set_option maxHeartbeats 1000000 in
theorem parse_bad (s : ByteArray) (w : World) (hs : s.size = 8) (hd : digs s.data.toList = false) :
    Calls Tryz.prog 126 #[.string s] w fun e w' => e = .returned (.tuple #[.agg #[.int .i64 0, .int .i64 0, .int .i64 0, .int .i64 0], .int .i64 3]) ∧ Below w.heap.size w w' := by
  have hx := trim_other hd
  have TA := Lib.hid (fun w => trim_any s w hs)
  have q : ((s.size : Int) != 8) = false := by rw [hs]; rfl
  clear hs hd
  generalize Lib.trimS s.data.toList ten.data.toList = l at *
  have q2 : (!l.isEmpty) = true := by cases l with | nil => exact absurd rfl hx | cons a b => rfl
  have q3 : l.isEmpty = false := by cases l with | nil => exact absurd rfl hx | cons a b => rfl
  clear hx
  go_enter Tryz.func126, Tryz.ntmps126
  go_wp2_with fail
  refine (TA.out _).mono ?_
  rintro e w1 ⟨rfl, hb⟩
  obtain ⟨hc, hz⟩ := bcell hb
  go_wp2_with fail
  exact bodyPost_ret (v := .tuple #[.agg #[.int .i64 0, .int .i64 0, .int .i64 0, .int .i64 0], .int .i64 3]) (by simp [results, Tryz.results126, hc, go_sem]) rfl ⟨rfl, set4_below (((Below.refl _ _).alloc (Nat.le_refl _) _).trans (hb.mono (by simp))) (Nat.le_refl _)⟩
set_option maxHeartbeats 2000000 in
theorem parse_val (s : ByteArray) (w : World) (hs : s.size = 8) (hd : digs s.data.toList = true) (hv : vb (fld s 0 2) (fld s 2 5) (fld s 5 8) (840 - fld s 2 5 - fld s 5 8) = true) :
    Calls Tryz.prog 126 #[.string s] w fun e w' => e = .returned (.tuple #[.agg #[.int .i64 (fld s 0 2), .int .i64 (fld s 2 5), .int .i64 (fld s 5 8), .int .i64 (840 - fld s 2 5 - fld s 5 8)], .int .i64 0]) ∧ Below w.heap.size w w' := by
  have hx := trim_digs hd
  have TB : ∀ w, Calls Tryz.prog 85 #[.string s, .string ⟨#[48, 49, 50, 51, 52, 53, 54, 55, 56, 57]⟩] w fun e w' => e = .returned (.string ⟨#[]⟩) ∧ Below w.heap.size w w' := fun w => by
    have := trim_any s w hs; rw [hx] at this; exact this
  have TA := Lib.hid TB; clear TB
  have HD := Lib.hid hd; clear hd hx
  have q : ((s.size : Int) != 8) = false := by rw [hs]; rfl
  obtain ⟨A1, A2⟩ := fld_bd s 0 2 HD.out (by omega)
  obtain ⟨B1, B2⟩ := fld_bd s 2 5 HD.out (by omega)
  obtain ⟨C1, C2⟩ := fld_bd s 5 8 HD.out (by omega)
  have V := Lib.hid hv; clear hv
  go_enter Tryz.func126, Tryz.ntmps126
  go_wp2_with fail
  refine (TA.out _).mono ?_
  rintro e w1 ⟨rfl, hb⟩
  go_upto_region 3 with fail
  refine forget (fun Y => Below w.heap.size w Y ∧ Row Y w.heap.size 23 #[.int .i64 0, .int .i64 0, .int .i64 0, .int .i64 0]) ⟨((Below.refl _ _).alloc (Nat.le_refl _) _).trans (hb.mono (by simp)), (Row.new _ _ _).under hb⟩ ?_
  clear hb
  rintro Y ⟨bY, rY⟩
  go_cut [4] from 14 to 23 (fun p wc => ∃ g : Nat, p = .pointer (some ⟨g, 0, none⟩) ∧ w.heap.size ≠ g ∧ w.heap.size ≤ g ∧ Below w.heap.size w wc ∧ Row wc w.heap.size 23 #[.int .i64 0, .int .i64 0, .int .i64 0, .int .i64 0] ∧ Row wc g 23 #[.int .i64 (fld s 0 2), .int .i64 (fld s 2 5), .int .i64 (fld s 5 8), .int .i64 0])
  case first =>
    have hlt := rY.lt
    go_region_held3 (fun _ => True) (trivial)
      (first | (go_at_call 146; refine (number_fld _ _ _ _ HD.out (by omega)).mono ?_; rintro e w2 ⟨rfl, rfl⟩))
    all_goals go_wp2_with fail
    all_goals go_meet
    all_goals exact ⟨_, rfl, by omega, by omega, (bY.alloc bY.size _).drew, (rY.alloc _).drew, (Row.new _ _ _).drew⟩
  case rest =>
  obtain ⟨g, rfl, g1, g2, bZ, rZ, r4⟩ := hcut
  clear bY rY
  obtain ⟨c0, c1, c2, c3⟩ := row4 r4
  have t3 := r4.thaw 3
  go_upto_region 5 with fail
  refine forget (fun U => Below w.heap.size w U ∧ Row U w.heap.size 23 #[.int .i64 0, .int .i64 0, .int .i64 0, .int .i64 0] ∧ Row U g 23 #[.int .i64 (fld s 0 2), .int .i64 (fld s 2 5), .int .i64 (fld s 5 8), .int .i64 (840 - fld s 2 5 - fld s 5 8)]) ⟨bZ.setCell (p := ⟨g, 3, none⟩) g2 _, rZ.far (Ne.symm g1) _, r4.put 3 _⟩ ?_
  clear bZ rZ r4 c0 c1 c2 c3 t3
  rintro U ⟨bU, rU, r4⟩
  generalize hF : fld s 0 2 = F at *
  generalize hA : fld s 2 5 = A at *
  generalize hB : fld s 5 8 = B at *
  generalize hC : 840 - A - B = C at *
  have HF := Lib.hid hF; clear hF
  have HA := Lib.hid hA; clear hA
  have HB := Lib.hid hB; clear hB
  have HC := Lib.hid hC; clear hC
  obtain ⟨c0, c1, c2, c3⟩ := row4 r4
  go_wp2_with fail
  refine (valid_is _ _ _ _ _ _ _ (Below.refl _ _) V.out).mono ?_
  rintro e w3 ⟨rfl, hb3⟩
  have b3 := bU.trans (hb3.mono bU.size)
  have r3 := rU.under hb3
  have r5 := r4.under hb3
  clear bU rU r4 hb3 c0 c1 c2 c3
  obtain ⟨c0, c1, c2, c3⟩ := row4 r5
  obtain ⟨d0, d1, d2, d3⟩ := row4 r3
  have t0 := r3.thaw
  go_wp2_with fail
  exact bodyPost_ret (v := .tuple #[.agg #[.int .i64 F, .int .i64 A, .int .i64 B, .int .i64 C], .int .i64 0]) (by simp [results, Tryz.results126, d0, d1, d2, d3, go_sem]) rfl ⟨by rw [HF.out, HA.out, HB.out, HC.out], set4_below b3 (Nat.le_refl _)⟩
set_option maxHeartbeats 2000000 in
theorem parse_inv (s : ByteArray) (w : World) (hs : s.size = 8) (hd : digs s.data.toList = true) (hv : vb (fld s 0 2) (fld s 2 5) (fld s 5 8) (840 - fld s 2 5 - fld s 5 8) = false) :
    Calls Tryz.prog 126 #[.string s] w fun e w' => e = .returned (.tuple #[.agg #[.int .i64 0, .int .i64 0, .int .i64 0, .int .i64 0], .int .i64 3]) ∧ Below w.heap.size w w' := by
  have hx := trim_digs hd
  have TB : ∀ w, Calls Tryz.prog 85 #[.string s, .string ⟨#[48, 49, 50, 51, 52, 53, 54, 55, 56, 57]⟩] w fun e w' => e = .returned (.string ⟨#[]⟩) ∧ Below w.heap.size w w' := fun w => by
    have := trim_any s w hs; rw [hx] at this; exact this
  have TA := Lib.hid TB; clear TB
  have HD := Lib.hid hd; clear hd hx
  have q : ((s.size : Int) != 8) = false := by rw [hs]; rfl
  obtain ⟨A1, A2⟩ := fld_bd s 0 2 HD.out (by omega)
  obtain ⟨B1, B2⟩ := fld_bd s 2 5 HD.out (by omega)
  obtain ⟨C1, C2⟩ := fld_bd s 5 8 HD.out (by omega)
  have V := Lib.hid hv; clear hv
  go_enter Tryz.func126, Tryz.ntmps126
  go_wp2_with fail
  refine (TA.out _).mono ?_
  rintro e w1 ⟨rfl, hb⟩
  go_upto_region 3 with fail
  refine forget (fun Y => Below w.heap.size w Y ∧ Row Y w.heap.size 23 #[.int .i64 0, .int .i64 0, .int .i64 0, .int .i64 0]) ⟨((Below.refl _ _).alloc (Nat.le_refl _) _).trans (hb.mono (by simp)), (Row.new _ _ _).under hb⟩ ?_
  clear hb
  rintro Y ⟨bY, rY⟩
  go_cut [4] from 14 to 23 (fun p wc => ∃ g : Nat, p = .pointer (some ⟨g, 0, none⟩) ∧ w.heap.size ≠ g ∧ w.heap.size ≤ g ∧ Below w.heap.size w wc ∧ Row wc w.heap.size 23 #[.int .i64 0, .int .i64 0, .int .i64 0, .int .i64 0] ∧ Row wc g 23 #[.int .i64 (fld s 0 2), .int .i64 (fld s 2 5), .int .i64 (fld s 5 8), .int .i64 0])
  case first =>
    have hlt := rY.lt
    go_region_held3 (fun _ => True) (trivial)
      (first | (go_at_call 146; refine (number_fld _ _ _ _ HD.out (by omega)).mono ?_; rintro e w2 ⟨rfl, rfl⟩))
    all_goals go_wp2_with fail
    all_goals go_meet
    all_goals exact ⟨_, rfl, by omega, by omega, (bY.alloc bY.size _).drew, (rY.alloc _).drew, (Row.new _ _ _).drew⟩
  case rest =>
  obtain ⟨g, rfl, g1, g2, bZ, rZ, r4⟩ := hcut
  clear bY rY
  obtain ⟨c0, c1, c2, c3⟩ := row4 r4
  have t3 := r4.thaw 3
  go_upto_region 5 with fail
  refine forget (fun U => Below w.heap.size w U ∧ Row U w.heap.size 23 #[.int .i64 0, .int .i64 0, .int .i64 0, .int .i64 0] ∧ Row U g 23 #[.int .i64 (fld s 0 2), .int .i64 (fld s 2 5), .int .i64 (fld s 5 8), .int .i64 (840 - fld s 2 5 - fld s 5 8)]) ⟨bZ.setCell (p := ⟨g, 3, none⟩) g2 _, rZ.far (Ne.symm g1) _, r4.put 3 _⟩ ?_
  clear bZ rZ r4 c0 c1 c2 c3 t3
  rintro U ⟨bU, rU, r4⟩
  generalize hF : fld s 0 2 = F at *
  generalize hA : fld s 2 5 = A at *
  generalize hB : fld s 5 8 = B at *
  generalize hC : 840 - A - B = C at *
  have HF := Lib.hid hF; clear hF
  have HA := Lib.hid hA; clear hA
  have HB := Lib.hid hB; clear hB
  have HC := Lib.hid hC; clear hC
  obtain ⟨c0, c1, c2, c3⟩ := row4 r4
  go_wp2_with fail
  refine (valid_is _ _ _ _ _ _ _ (Below.refl _ _) V.out).mono ?_
  rintro e w3 ⟨rfl, hb3⟩
  have b3 := bU.trans (hb3.mono bU.size)
  have r3 := rU.under hb3
  have r5 := r4.under hb3
  clear bU rU r4 hb3 c0 c1 c2 c3
  obtain ⟨c0, c1, c2, c3⟩ := row4 r5
  obtain ⟨d0, d1, d2, d3⟩ := row4 r3
  have t0 := r3.thaw
  go_wp2_with fail
  exact bodyPost_ret (v := .tuple #[.agg #[.int .i64 0, .int .i64 0, .int .i64 0, .int .i64 0], .int .i64 3]) (by simp [results, Tryz.results126, d0, d1, d2, d3, go_sem]) rfl ⟨rfl, set4_below b3 (Nat.le_refl _)⟩
end Go.Proofs.YtneglkfcelpdgaaGreatDoor.Pl
