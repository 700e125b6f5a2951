/- Contracts of the reference's Valid, number and Parse; both readings of a text are the same. -/
import Derived.Test.YtfnlgfacadmjpaaGreatDoorPParseTwo
namespace Go.Proofs.YtfnlgfacadmjpaaGreatDoor.Pl
open Go.RowKit

set_option maxHeartbeats 400000 in
theorem refValid_any (F a b c : Int) (w : World) :
    Calls Tryz.prog 114 #[.agg #[.int .i64 F, .int .i64 a, .int .i64 b, .int .i64 c]] w fun e w' => e = .returned (.bool (vb F a b c)) ∧ Below w.heap.size w w' := by
  by_cases h1 : 0 ≤ F
  · by_cases h2 : F < 20
    · by_cases h3 : 0 ≤ a
      · by_cases h4 : a ≤ 840
        · by_cases h5 : 0 ≤ b
          · by_cases h6 : b ≤ 840
            · by_cases h7 : 0 ≤ c
              · by_cases h8 : c ≤ 840
                · have V : Hid (vb F a b c = decide (a + b + c = 840)) := Lib.hid (by unfold vb; rw [decide_eq_decide]; exact ⟨fun h => h.2.2.2.2.2.2.2.2, fun h => ⟨h1, h2, h3, h4, h5, h6, h7, h8, h⟩⟩)
                  go_enter Tryz.func114, Tryz.ntmps114
                  go_wp2
                  go_ret
                  exact ⟨ret_bool (by rw [V.out, Bool.eq_iff_iff]; simp), (Below.refl _ _).alloc (Nat.le_refl _) _⟩
                · go_enter Tryz.func114, Tryz.ntmps114
                  go_wp2
                  go_ret
                  exact ⟨ret_bool (by simp [vb]; omega), (Below.refl _ _).alloc (Nat.le_refl _) _⟩
              · go_enter Tryz.func114, Tryz.ntmps114
                go_wp2
                go_ret
                exact ⟨ret_bool (by simp [vb]; omega), (Below.refl _ _).alloc (Nat.le_refl _) _⟩
            · go_enter Tryz.func114, Tryz.ntmps114
              go_wp2
              go_ret
              exact ⟨ret_bool (by simp [vb]; omega), (Below.refl _ _).alloc (Nat.le_refl _) _⟩
          · go_enter Tryz.func114, Tryz.ntmps114
            go_wp2
            go_ret
            exact ⟨ret_bool (by simp [vb]; omega), (Below.refl _ _).alloc (Nat.le_refl _) _⟩
        · go_enter Tryz.func114, Tryz.ntmps114
          go_wp2
          go_ret
          exact ⟨ret_bool (by simp [vb]; omega), (Below.refl _ _).alloc (Nat.le_refl _) _⟩
      · go_enter Tryz.func114, Tryz.ntmps114
        go_wp2
        go_ret
        exact ⟨ret_bool (by simp [vb]; omega), (Below.refl _ _).alloc (Nat.le_refl _) _⟩
    · go_enter Tryz.func114, Tryz.ntmps114
      go_wp2
      go_ret
      exact ⟨ret_bool (by simp [vb]; omega), (Below.refl _ _).alloc (Nat.le_refl _) _⟩
  · go_enter Tryz.func114, Tryz.ntmps114
    go_wp2
    go_ret
    exact ⟨ret_bool (by simp [vb]; omega), (Below.refl _ _).alloc (Nat.le_refl _) _⟩

theorem refValid_is (F a b c : Int) (r : Bool) (w : World) (hr : vb F a b c = r) :
    Calls Tryz.prog 114 #[.agg #[.int .i64 F, .int .i64 a, .int .i64 b, .int .i64 c]] w fun e w' => e = .returned (.bool r) ∧ Below w.heap.size w w' := hr ▸ refValid_any F a b c w
set_option maxHeartbeats 400000 in
theorem refNumber_any (s : ByteArray) (w : World) (hd : digs s.data.toList = true) (hs : s.size ≤ 3) :
    Calls Tryz.prog 141 #[.string s] w fun e w' => e = .returned (.int .i64 (numv s.data.toList)) ∧ w = w' := by
  have HD := Lib.hid hd; clear hd
  go_enter Tryz.func141, Tryz.ntmps141
  go_wp2
  go_loop [3, 4] (fun n i => ∃ k : Nat, k ≤ s.size ∧ i = .int .i64 k ∧ n = .int .i64 (numv (s.data.toList.take k))) (fun _ i => s.size - (intOf i).toNat)
  case atStart => exact ⟨0, Nat.zero_le _, rfl, rfl⟩
  case round =>
    obtain ⟨k, hk, rfl, rfl⟩ := hrel
    have hl : (s.data.toList.take k).length = k := by rw [List.length_take]; simp only [Array.length_toList]; have : s.data.size = s.size := rfl; omega
    obtain ⟨hb1, hb2, -⟩ := numv_bd _ (digs_take k HD.out) (by omega)
    by_cases hlt : k < s.size
    · have hts := take_snoc s k hlt
      have H := Lib.hid (show numv (s.data.toList.take (k + 1)) = numv (s.data.toList.take k) * 10 + ((s[k].toNat : Int) - 48) by rw [hts, numv_snoc]; omega)
      obtain ⟨hc1, hc2⟩ := digs_at HD.out hlt
      have hc3 : (48 : Int) ≤ (s[k].toNat : Int) := by omega
      have hc4 : (s[k].toNat : Int) ≤ 57 := by omega
      clear hts hl
      go_wp2
      go_round
      case rel => exact ⟨k + 1, by omega, by go_num, by rw [H.out]⟩
      case measure => simp [intOf]; omega
    · have T := Lib.hid (show s.data.toList.take k = s.data.toList from List.take_of_length_le (by simp; omega))
      clear hl
      go_wp2
      go_ret
      exact ⟨ret_i64 (by rw [T.out]), rfl⟩
theorem refNumber_fld (s : ByteArray) (a b : Nat) (w : World) (h : digs s.data.toList = true) (hb : b - a ≤ 3) :
    Calls Tryz.prog 141 #[.string (s.extract a b)] w fun e w' => e = .returned (.int .i64 (fld s a b)) ∧ w = w' :=
  refNumber_any _ w (by rw [extract_list]; exact digs_take _ (digs_drop _ h)) (by rw [ByteArray.size_extract]; omega)
set_option maxHeartbeats 1000000 in
theorem refParse_len (s : ByteArray) (w : World) (hs : s.size ≠ 8) :
    Calls Tryz.prog 95 #[.string s] w fun e w' => e = .returned (.tuple #[.agg #[.int .i64 0, .int .i64 0, .int .i64 0, .int .i64 0], .int .i64 3]) ∧ Below w.heap.size w w' := by
  have q : ((s.size : Int) != 8) = true := by rw [bne_iff_ne]; omega
  clear hs
  go_enter Tryz.func95, Tryz.ntmps95
  go_wp2_with fail
  exact bodyPost_ret (v := .tuple #[.agg #[.int .i64 0, .int .i64 0, .int .i64 0, .int .i64 0], .int .i64 3]) (by simp [results, Tryz.results95, go_sem]) rfl ⟨rfl, (Below.refl _ _).alloc (Nat.le_refl _) _⟩
set_option maxHeartbeats 1000000 in
theorem refParse_bad (s : ByteArray) (w : World) (hs : s.size = 8) (hd : digs s.data.toList = false) :
    Calls Tryz.prog 95 #[.string s] w fun e w' => e = .returned (.tuple #[.agg #[.int .i64 0, .int .i64 0, .int .i64 0, .int .i64 0], .int .i64 3]) ∧ Below w.heap.size w w' := by
  have q : ((s.size : Int) != 8) = false := by rw [hs]; rfl
  have HD := Lib.hid hd; clear hd
  have hl : s.data.toList.length = 8 := by simp only [Array.length_toList]; exact hs
  have HL := Lib.hid hl; clear hl
  go_enter Tryz.func95, Tryz.ntmps95
  go_wp2_with fail
  go_loop [4] (fun i => ∃ k : Nat, k ≤ 8 ∧ i = .int .i64 k ∧ Hid (digs (s.data.toList.take k) = true)) (fun i => 8 - (intOf i).toNat)
  case atStart => exact ⟨0, by omega, rfl, Lib.hid rfl⟩
  case round =>
    obtain ⟨k, hk, rfl, hd⟩ := hrel
    by_cases hlt : k < 8
    · have G := Lib.hid (show digs (s.data.toList.take (k + 1)) = (decide (48 ≤ s[k].toNat) && decide (s[k].toNat ≤ 57)) by rw [take_snoc s k (by omega), digs_snoc, hd.out]; rfl)
      have hc := s[k].toNat_lt
      by_cases c1 : 48 ≤ s[k].toNat
      · have c3 : (48 : Int) ≤ (s[k].toNat : Int) := by omega
        by_cases c2 : s[k].toNat ≤ 57
        · have c4 : (s[k].toNat : Int) ≤ 57 := by omega
          go_wp2_with fail
          go_round
          case rel => exact ⟨k + 1, by omega, by go_num, Lib.hid (by rw [G.out]; simp [c1, c2])⟩
          case measure => simp [intOf]; omega
        · have c4 : ¬ (s[k].toNat : Int) ≤ 57 := by omega
          go_wp2_with fail
          exact bodyPost_ret (v := .tuple #[.agg #[.int .i64 0, .int .i64 0, .int .i64 0, .int .i64 0], .int .i64 3]) (by simp [results, Tryz.results95, go_sem]) rfl ⟨rfl, (Below.refl _ _).alloc (Nat.le_refl _) _⟩
      · have c3 : ¬ (48 : Int) ≤ (s[k].toNat : Int) := by omega
        go_wp2_with fail
        exact bodyPost_ret (v := .tuple #[.agg #[.int .i64 0, .int .i64 0, .int .i64 0, .int .i64 0], .int .i64 3]) (by simp [results, Tryz.results95, go_sem]) rfl ⟨rfl, (Below.refl _ _).alloc (Nat.le_refl _) _⟩
    · exfalso
      obtain rfl : k = 8 := by omega
      have h1 := hd.out
      rw [List.take_of_length_le (by rw [HL.out]; exact Nat.le_refl _), HD.out] at h1
      cases h1
set_option maxHeartbeats 2000000 in
theorem refParse_val (s : ByteArray) (w : World) (hs : s.size = 8) (hd : digs s.data.toList = true) (hv : vb (fld s 0 2) (fld s 2 5) (fld s 5 8) (840 - fld s 2 5 - fld s 5 8) = true) :
    Calls Tryz.prog 95 #[.string s] w fun e w' => e = .returned (.tuple #[.agg #[.int .i64 (fld s 0 2), .int .i64 (fld s 2 5), .int .i64 (fld s 5 8), .int .i64 (840 - fld s 2 5 - fld s 5 8)], .int .i64 0]) ∧ Below w.heap.size w w' := by
  have HD := Lib.hid hd; clear hd
  have q : ((s.size : Int) != 8) = false := by rw [hs]; rfl
  obtain ⟨A1, A2⟩ := fld_bd s 0 2 HD.out (by omega)
  obtain ⟨B1, B2⟩ := fld_bd s 2 5 HD.out (by omega)
  obtain ⟨C1, C2⟩ := fld_bd s 5 8 HD.out (by omega)
  have V := Lib.hid hv; clear hv
  go_enter Tryz.func95, Tryz.ntmps95
  go_wp2_with fail
  have bY0 : Below w.heap.size w (w.alloc (.cells #[.int .i64 0, .int .i64 0, .int .i64 0, .int .i64 0] 50)) := (Below.refl _ _).alloc (Nat.le_refl _) _
  have rY0 := Row.new w #[.int .i64 0, .int .i64 0, .int .i64 0, .int .i64 0] 50
  refine forget (fun Y => Below w.heap.size w Y ∧ Row Y w.heap.size 50 #[.int .i64 0, .int .i64 0, .int .i64 0, .int .i64 0]) ⟨bY0, rY0⟩ ?_
  clear bY0 rY0
  rintro Y ⟨bY, rY⟩
  go_loop [4] (fun i => ∃ k : Nat, k ≤ 8 ∧ i = .int .i64 k) (fun i => 8 - (intOf i).toNat)
  case atStart => exact ⟨0, by omega, rfl⟩
  case round =>
  obtain ⟨k, hk, rfl⟩ := hrel
  by_cases hlt : k < 8
  · obtain ⟨hc1, hc2⟩ := digs_at HD.out (show k < s.size by omega)
    have hc3 : (48 : Int) ≤ (s[k].toNat : Int) := by omega
    have hc4 : (s[k].toNat : Int) ≤ 57 := by omega
    go_wp2_with fail
    go_round
    case rel => exact ⟨k + 1, by omega, by go_num⟩
    case measure => simp [intOf]; omega
  obtain rfl : k = 8 := by omega
  go_upto_region 8 with fail
  go_cut [5] from 25 to 34 (fun p wc => ∃ g : Nat, p = .pointer (some ⟨g, 0, none⟩) ∧ w.heap.size ≠ g ∧ w.heap.size ≤ g ∧ Below w.heap.size w wc ∧ Row wc w.heap.size 50 #[.int .i64 0, .int .i64 0, .int .i64 0, .int .i64 0] ∧ Row wc g 50 #[.int .i64 (fld s 0 2), .int .i64 (fld s 2 5), .int .i64 (fld s 5 8), .int .i64 0])
  case first =>
    have hlt := rY.lt
    go_region_held3 (fun _ => True) (trivial)
      (first | (go_at_call 141; refine (refNumber_fld _ _ _ _ HD.out (by omega)).mono ?_; rintro e w2 ⟨rfl, rfl⟩))
    all_goals go_wp2_with fail
    all_goals go_meet
    all_goals exact ⟨_, rfl, by omega, by omega, (bY.alloc bY.size _).drew, (rY.alloc _).drew, (Row.new _ _ _).drew⟩
  case rest =>
  obtain ⟨g, rfl, g1, g2, bZ, rZ, r4⟩ := hcut
  clear bY rY
  obtain ⟨c0, c1, c2, c3⟩ := row4 r4
  have t3 := r4.thaw 3
  go_upto_region 10 with fail
  refine forget (fun U => Below w.heap.size w U ∧ Row U w.heap.size 50 #[.int .i64 0, .int .i64 0, .int .i64 0, .int .i64 0] ∧ Row U g 50 #[.int .i64 (fld s 0 2), .int .i64 (fld s 2 5), .int .i64 (fld s 5 8), .int .i64 (840 - fld s 2 5 - fld s 5 8)]) ⟨bZ.setCell (p := ⟨g, 3, none⟩) g2 _, rZ.far (Ne.symm g1) _, r4.put 3 _⟩ ?_
  clear bZ rZ r4 c0 c1 c2 c3 t3
  rintro U ⟨bU, rU, r4⟩
  generalize hF : fld s 0 2 = F at *
  generalize hA : fld s 2 5 = A at *
  generalize hB : fld s 5 8 = B at *
  generalize hC : 840 - A - B = C at *
  have HF := Lib.hid hF; clear hF
  have HA := Lib.hid hA; clear hA
  have HB := Lib.hid hB; clear hB
  have HC := Lib.hid hC; clear hC
  obtain ⟨c0, c1, c2, c3⟩ := row4 r4
  go_wp2_with fail
  refine (refValid_is _ _ _ _ _ _ V.out).mono ?_
  rintro e w3 ⟨rfl, hb3⟩
  have b3 := bU.trans (hb3.mono bU.size)
  have r3 := rU.under hb3
  have r5 := r4.under hb3
  clear bU rU r4 hb3 c0 c1 c2 c3
  obtain ⟨c0, c1, c2, c3⟩ := row4 r5
  obtain ⟨d0, d1, d2, d3⟩ := row4 r3
  have t0 := r3.thaw
  go_wp2_with fail
  exact bodyPost_ret (v := .tuple #[.agg #[.int .i64 F, .int .i64 A, .int .i64 B, .int .i64 C], .int .i64 0]) (by simp [results, Tryz.results95, d0, d1, d2, d3, go_sem]) rfl ⟨by rw [HF.out, HA.out, HB.out, HC.out], set4_below b3 (Nat.le_refl _)⟩
set_option maxHeartbeats 2000000 in
theorem refParse_inv (s : ByteArray) (w : World) (hs : s.size = 8) (hd : digs s.data.toList = true) (hv : vb (fld s 0 2) (fld s 2 5) (fld s 5 8) (840 - fld s 2 5 - fld s 5 8) = false) :
    Calls Tryz.prog 95 #[.string s] w fun e w' => e = .returned (.tuple #[.agg #[.int .i64 0, .int .i64 0, .int .i64 0, .int .i64 0], .int .i64 3]) ∧ Below w.heap.size w w' := by
  have HD := Lib.hid hd; clear hd
  have q : ((s.size : Int) != 8) = false := by rw [hs]; rfl
  obtain ⟨A1, A2⟩ := fld_bd s 0 2 HD.out (by omega)
  obtain ⟨B1, B2⟩ := fld_bd s 2 5 HD.out (by omega)
  obtain ⟨C1, C2⟩ := fld_bd s 5 8 HD.out (by omega)
  have V := Lib.hid hv; clear hv
  go_enter Tryz.func95, Tryz.ntmps95
  go_wp2_with fail
  have bY0 : Below w.heap.size w (w.alloc (.cells #[.int .i64 0, .int .i64 0, .int .i64 0, .int .i64 0] 50)) := (Below.refl _ _).alloc (Nat.le_refl _) _
  have rY0 := Row.new w #[.int .i64 0, .int .i64 0, .int .i64 0, .int .i64 0] 50
  refine forget (fun Y => Below w.heap.size w Y ∧ Row Y w.heap.size 50 #[.int .i64 0, .int .i64 0, .int .i64 0, .int .i64 0]) ⟨bY0, rY0⟩ ?_
  clear bY0 rY0
  rintro Y ⟨bY, rY⟩
  go_loop [4] (fun i => ∃ k : Nat, k ≤ 8 ∧ i = .int .i64 k) (fun i => 8 - (intOf i).toNat)
  case atStart => exact ⟨0, by omega, rfl⟩
  case round =>
  obtain ⟨k, hk, rfl⟩ := hrel
  by_cases hlt : k < 8
  · obtain ⟨hc1, hc2⟩ := digs_at HD.out (show k < s.size by omega)
    have hc3 : (48 : Int) ≤ (s[k].toNat : Int) := by omega
    have hc4 : (s[k].toNat : Int) ≤ 57 := by omega
    go_wp2_with fail
    go_round
    case rel => exact ⟨k + 1, by omega, by go_num⟩
    case measure => simp [intOf]; omega
  obtain rfl : k = 8 := by omega
  go_upto_region 8 with fail
  go_cut [5] from 25 to 34 (fun p wc => ∃ g : Nat, p = .pointer (some ⟨g, 0, none⟩) ∧ w.heap.size ≠ g ∧ w.heap.size ≤ g ∧ Below w.heap.size w wc ∧ Row wc w.heap.size 50 #[.int .i64 0, .int .i64 0, .int .i64 0, .int .i64 0] ∧ Row wc g 50 #[.int .i64 (fld s 0 2), .int .i64 (fld s 2 5), .int .i64 (fld s 5 8), .int .i64 0])
  case first =>
    have hlt := rY.lt
    go_region_held3 (fun _ => True) (trivial)
      (first | (go_at_call 141; refine (refNumber_fld _ _ _ _ HD.out (by omega)).mono ?_; rintro e w2 ⟨rfl, rfl⟩))
    all_goals go_wp2_with fail
    all_goals go_meet
    all_goals exact ⟨_, rfl, by omega, by omega, (bY.alloc bY.size _).drew, (rY.alloc _).drew, (Row.new _ _ _).drew⟩
  case rest =>
  obtain ⟨g, rfl, g1, g2, bZ, rZ, r4⟩ := hcut
  clear bY rY
  obtain ⟨c0, c1, c2, c3⟩ := row4 r4
  have t3 := r4.thaw 3
  go_upto_region 10 with fail
  refine forget (fun U => Below w.heap.size w U ∧ Row U w.heap.size 50 #[.int .i64 0, .int .i64 0, .int .i64 0, .int .i64 0] ∧ Row U g 50 #[.int .i64 (fld s 0 2), .int .i64 (fld s 2 5), .int .i64 (fld s 5 8), .int .i64 (840 - fld s 2 5 - fld s 5 8)]) ⟨bZ.setCell (p := ⟨g, 3, none⟩) g2 _, rZ.far (Ne.symm g1) _, r4.put 3 _⟩ ?_
  clear bZ rZ r4 c0 c1 c2 c3 t3
  rintro U ⟨bU, rU, r4⟩
  generalize hF : fld s 0 2 = F at *
  generalize hA : fld s 2 5 = A at *
  generalize hB : fld s 5 8 = B at *
  generalize hC : 840 - A - B = C at *
  have HF := Lib.hid hF; clear hF
  have HA := Lib.hid hA; clear hA
  have HB := Lib.hid hB; clear hB
  have HC := Lib.hid hC; clear hC
  obtain ⟨c0, c1, c2, c3⟩ := row4 r4
  go_wp2_with fail
  refine (refValid_is _ _ _ _ _ _ V.out).mono ?_
  rintro e w3 ⟨rfl, hb3⟩
  have b3 := bU.trans (hb3.mono bU.size)
  have r3 := rU.under hb3
  have r5 := r4.under hb3
  clear bU rU r4 hb3 c0 c1 c2 c3
  obtain ⟨c0, c1, c2, c3⟩ := row4 r5
  obtain ⟨d0, d1, d2, d3⟩ := row4 r3
  have t0 := r3.thaw
  go_wp2_with fail
  exact bodyPost_ret (v := .tuple #[.agg #[.int .i64 0, .int .i64 0, .int .i64 0, .int .i64 0], .int .i64 3]) (by simp [results, Tryz.results95, d0, d1, d2, d3, go_sem]) rfl ⟨rfl, set4_below b3 (Nat.le_refl _)⟩
/-- Whatever the text: both functions answer the same. -/
theorem both_parse (s : ByteArray) : ∃ F a b c r : Int,
    (∀ w, Calls Tryz.prog 189 #[.string s] w fun e w' => e = .returned (.tuple #[.agg #[.int .i64 F, .int .i64 a, .int .i64 b, .int .i64 c], .int .i64 r]) ∧ Below w.heap.size w w') ∧
    (∀ w, Calls Tryz.prog 95 #[.string s] w fun e w' => e = .returned (.tuple #[.agg #[.int .i64 F, .int .i64 a, .int .i64 b, .int .i64 c], .int .i64 r]) ∧ Below w.heap.size w w') := by
  by_cases hs : s.size = 8
  · cases hd : digs s.data.toList
    · exact ⟨0, 0, 0, 0, 3, fun w => parse_bad s w hs hd, fun w => refParse_bad s w hs hd⟩
    · cases hv : vb (fld s 0 2) (fld s 2 5) (fld s 5 8) (840 - fld s 2 5 - fld s 5 8)
      · exact ⟨0, 0, 0, 0, 3, fun w => parse_inv s w hs hd hv, fun w => refParse_inv s w hs hd hv⟩
      · exact ⟨_, _, _, _, 0, fun w => parse_val s w hs hd hv, fun w => refParse_val s w hs hd hv⟩
  · exact ⟨0, 0, 0, 0, 3, fun w => parse_len s w hs, fun w => refParse_len s w hs⟩
end Go.Proofs.YtfnlgfacadmjpaaGreatDoor.Pl
