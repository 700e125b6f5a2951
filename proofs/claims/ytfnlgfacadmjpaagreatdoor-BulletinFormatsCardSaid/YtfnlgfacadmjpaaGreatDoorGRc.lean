/- Contracts of the reference's sign, Compare and Same. -/
import Derived.Test.YtfnlgfacadmjpaaGreatDoorGCmp
namespace Go.Proofs.YtfnlgfacadmjpaaGreatDoor
open Go.RowKit

theorem or_assoc (x y z : Int) : Cmpr.or (Cmpr.or x y) z = Cmpr.or x (Cmpr.or y z) := by
  unfold Cmpr.or; repeat' split
  all_goals omega
theorem cRep_or (k : Int) (nm : ByteArray) (t F A B C : Int) (L : List El.Elt.R) (k' : Int) (nm' : ByteArray) (t' F' A' B' C' : Int) (M : List El.Elt.R) :
    cRep k nm t F A B C L k' nm' t' F' A' B' C' M = Cmpr.or (orL [Cmpr.num k k', ctx nm nm', Cmpr.num t t', Cmpr.num F F', Cmpr.num A A', Cmpr.num B B', Cmpr.num C C']) (cRs L M) := by
  unfold cRep
  simp only [orL, or_assoc, or_zero]
theorem cRs_end (L M : List El.Elt.R) (j : Nat) (h1 : j ≤ L.length) (h2 : j ≤ M.length) (h : L.take j = M.take j) (he : L.length ≤ j ∨ M.length ≤ j) : cRs L M = Cmpr.num L.length M.length := by
  rw [cRs_drop L M j h1 h2 h]
  rcases he with he | he
  · obtain rfl : j = L.length := by omega
    rw [List.drop_length]
    by_cases hm : L.length < M.length
    · rw [List.drop_eq_getElem_cons hm]
      unfold cRs Cmpr.lst Cmpr.num; rw [if_pos (by omega)]
    · rw [List.drop_eq_nil_of_le (by omega)]
      unfold cRs Cmpr.lst Cmpr.num; rw [if_neg (by omega), if_neg (by omega)]
  · obtain rfl : j = M.length := by omega
    rw [List.drop_length]
    by_cases hm : M.length < L.length
    · rw [List.drop_eq_getElem_cons hm]
      unfold cRs Cmpr.lst Cmpr.num; rw [if_neg (by omega), if_pos (by omega)]
    · rw [List.drop_eq_nil_of_le (by omega)]
      unfold cRs Cmpr.lst Cmpr.num; rw [if_neg (by omega), if_neg (by omega)]
theorem sign_any (a b : Int) (w : World) : Calls Tryz.prog 97 #[.int .i64 a, .int .i64 b] w fun e w' => e = .returned (.int .i64 (Cmpr.num a b)) ∧ w' = w := by
  by_cases h1 : a < b
  · have H := Lib.hid (show Cmpr.num a b = -1 by unfold Cmpr.num; rw [if_pos h1])
    go_enter Tryz.func97, Tryz.ntmps97
    go_wp2
    go_ret
    exact ⟨ret_i64 (by rw [H.out]), rfl⟩
  · by_cases h2 : b < a
    · have H := Lib.hid (show Cmpr.num a b = 1 by unfold Cmpr.num; rw [if_neg h1, if_pos h2])
      go_enter Tryz.func97, Tryz.ntmps97
      go_wp2
      go_ret
      exact ⟨ret_i64 (by rw [H.out]), rfl⟩
    · have H := Lib.hid (show Cmpr.num a b = 0 by unfold Cmpr.num; rw [if_neg h1, if_neg h2])
      go_enter Tryz.func97, Tryz.ntmps97
      go_wp2
      go_ret
      exact ⟨ret_i64 (by rw [H.out]), rfl⟩
theorem sign_q (a b : Int) (w : World) : Calls Tryz.prog 97 #[.int .i64 a, .int .i64 b] w fun e w' => e = .returned (.int .i64 (Cmpr.num a b)) ∧ w = w' := (sign_any a b w).mono fun _ _ ⟨he, hw⟩ => ⟨he, hw.symm⟩
theorem cells7 {w : World} {g : Nat} {a b c d e f h : Int} (r : Row w g 3 #[.int .i64 a, .int .i64 b, .int .i64 c, .int .i64 d, .int .i64 e, .int .i64 f, .int .i64 h]) : ∀ i (hi : i < [a, b, c, d, e, f, h].length), w.cell? ⟨g, i, none⟩ = some (.int .i64 [a, b, c, d, e, f, h][i]) := fun i hi => by
  rcases (by simp at hi; omega : i = 0 ∨ i = 1 ∨ i = 2 ∨ i = 3 ∨ i = 4 ∨ i = 5 ∨ i = 6) with rfl | rfl | rfl | rfl | rfl | rfl | rfl
  · exact (r.cell 0).trans rfl
  · exact (r.cell 1).trans rfl
  · exact (r.cell 2).trans rfl
  · exact (r.cell 3).trans rfl
  · exact (r.cell 4).trans rfl
  · exact (r.cell 5).trans rfl
  · exact (r.cell 6).trans rfl
set_option maxRecDepth 100000 in
set_option maxHeartbeats 4000000 in
theorem refCompare_any (k : Int) (nm : ByteArray) (t F A B C : Int) (u : Value) (L : List El.Elt.R) (k' : Int) (nm' : ByteArray) (t' F' A' B' C' : Int) (u' : Value) (M : List El.Elt.R) (w : World) (hL : El.RdIn w u L) (hM : El.RdIn w u' M) :
    Calls Tryz.prog 58 #[repV k nm t F A B C u, repV k' nm' t' F' A' B' C' u'] w fun e w' => e = .returned (.int .i64 (cRep k nm t F A B C L k' nm' t' F' A' B' C' M)) ∧ Below w.heap.size w w' := by
  obtain ⟨AL, cL, rfl, hL1, hL2, hA⟩ := hL
  obtain ⟨AM, cM, rfl, hM1, hM2, hB⟩ := hM
  have HA := Lib.hid hA
  have HB := Lib.hid hB
  clear hA hB
  obtain ⟨res, hres⟩ : ∃ r, cRep k nm t F A B C L k' nm' t' F' A' B' C' M = r := ⟨_, rfl⟩
  rw [hres]
  have HRES := Lib.hid hres
  clear hres
  have hlo := less_is nm nm'
  have hmo := ctx_tot.zero nm nm'
  go_enter Tryz.func58, Tryz.ntmps58
  go_upto_region 1 with fail
  refine forget (fun Y => Below w.heap.size w Y ∧ Row Y w.heap.size 53 (repC k nm t F A B C (.slice AL L.length cL)) ∧ Row Y (w.heap.size + 1) 53 (repC k' nm' t' F' A' B' C' (.slice AM M.length cM))) ⟨((Below.refl _ _).alloc (Nat.le_refl _) _).alloc (by simp) _, (Row.new _ _ _).alloc _, Row.newAt (by simp)⟩ ?_
  rintro Y ⟨bY, r0, r1⟩
  obtain ⟨c0, c1, c2, c3, c4, c5, c6, c7⟩ := row8 r0
  obtain ⟨d0, d1, d2, d3, d4, d5, d6, d7⟩ := row8 r1
  have h0 := r0.lt
  have h1 := r1.lt
  have BY := Lib.hid bY
  have R0 := Lib.hid r0
  have R1 := Lib.hid r1
  clear r0 r1 bY
  obtain ⟨g0, hg0⟩ : ∃ g, w.heap.size = g := ⟨_, rfl⟩
  obtain ⟨g1, hg1⟩ : ∃ g, w.heap.size + 1 = g := ⟨_, rfl⟩
  rw [hg1] at R1 d0 d1 d2 d3 d4 d5 d6 d7 h1 ⊢
  rw [hg0] at R0 c0 c1 c2 c3 c4 c5 c6 c7 h0 ⊢
  clear hg0 hg1
  rcases ctx_tot.rng nm nm' with hx | hx | hx
  · have l1 : Op.bytesLess nm.toList nm'.toList = true := hlo.trans (decide_eq_true hx)
    have HX := Lib.hid hx; clear hx
    clear hlo hmo
    go_upto_region 6 with fail
    go_region_held3 (fun w' => (w'.cell? ⟨g0, 0, none⟩ = some (.int .i64 k) ∧ w'.cell? ⟨g0, 1, none⟩ = some (.string nm) ∧ w'.cell? ⟨g0, 2, none⟩ = some (.int .i64 t) ∧ w'.cell? ⟨g0, 3, none⟩ = some (.int .i64 F) ∧ w'.cell? ⟨g0, 4, none⟩ = some (.int .i64 A) ∧ w'.cell? ⟨g0, 5, none⟩ = some (.int .i64 B) ∧ w'.cell? ⟨g0, 6, none⟩ = some (.int .i64 C) ∧ w'.cell? ⟨g0, 7, none⟩ = some (.slice AL L.length cL)) ∧
      w'.cell? ⟨g1, 0, none⟩ = some (.int .i64 k') ∧ w'.cell? ⟨g1, 1, none⟩ = some (.string nm') ∧ w'.cell? ⟨g1, 2, none⟩ = some (.int .i64 t') ∧ w'.cell? ⟨g1, 3, none⟩ = some (.int .i64 F') ∧ w'.cell? ⟨g1, 4, none⟩ = some (.int .i64 A') ∧ w'.cell? ⟨g1, 5, none⟩ = some (.int .i64 B') ∧ w'.cell? ⟨g1, 6, none⟩ = some (.int .i64 C') ∧ w'.cell? ⟨g1, 7, none⟩ = some (.slice AM M.length cM))
      (go_keep)
      (first | (go_at_call 97; refine (sign_any _ _ _).mono ?_; rintro e w2 ⟨rfl, rfl⟩))
    have HN := Lib.hid (show [Cmpr.num k k', ctx nm nm', Cmpr.num t t', Cmpr.num F F', Cmpr.num A A', Cmpr.num B B', Cmpr.num C C'] = [Cmpr.num k k', (-1), Cmpr.num t t', Cmpr.num F F', Cmpr.num A A', Cmpr.num B B', Cmpr.num C C'] by rw [HX.out])
    go_upto_region 7 with fail
    refine forget (fun Z => Below w.heap.size w Z ∧ Row Z g0 53 (repC k nm t F A B C (.slice AL L.length cL)) ∧ Row Z g1 53 (repC k' nm' t' F' A' B' C' (.slice AM M.length cM)) ∧ Row Z Y.heap.size 3 #[.int .i64 (Cmpr.num k k'), .int .i64 (-1), .int .i64 (Cmpr.num t t'), .int .i64 (Cmpr.num F F'), .int .i64 (Cmpr.num A A'), .int .i64 (Cmpr.num B B'), .int .i64 (Cmpr.num C C')])
      ⟨(BY.out.alloc BY.out.size _).drew, (R0.out.alloc _).drew, (R1.out.alloc _).drew, (Row.new _ _ _).drew⟩ ?_
    generalize Y.heap.size = gs at *
    clear c0 c1 c2 c3 c4 c5 c6 c7 d0 d1 d2 d3 d4 d5 d6 d7 R0 R1 BY h0 h1
    rintro Z ⟨bZ, r0, r1, rs⟩
    have HC7 := Lib.hid (cells7 rs)
    rw [← HN.out] at HC7
    clear rs HN
    generalize hO : [Cmpr.num k k', ctx nm nm', Cmpr.num t t', Cmpr.num F F', Cmpr.num A A', Cmpr.num B B', Cmpr.num C C'] = O at *
    have hol : O.length = 7 := by rw [← hO]; rfl
    have HE := Lib.hid (show res = Cmpr.or (orL O) (cRs L M) by rw [← HRES.out, ← hO]; exact cRep_or _ _ _ _ _ _ _ _ _ _ _ _ _ _ _ _)
    have HO := Lib.hid hol
    have BZ := Lib.hid bZ
    have R0 := Lib.hid r0
    have R1 := Lib.hid r1
    clear hO hol bZ r0 r1
    go_loop [7, 62] (fun _ t => ∃ j : Nat, j ≤ 7 ∧ t = .int .i64 j ∧ ∀ i (h : i < O.length), i < j → O[i] = 0) (fun _ t => 7 - (intOf t).toNat)
    case atStart => exact ⟨0, Nat.zero_le _, rfl, fun j _ h => absurd h (Nat.not_lt_zero _)⟩
    case round =>
      obtain ⟨j, hj, rfl, hz⟩ := hrel
      have HZ := Lib.hid hz; clear hz
      by_cases hlt : j < 7
      · have hjl : j < O.length := by rw [HO.out]; exact hlt
        have c0 := HC7.out j hjl
        have HD := Lib.hid (show O.drop j = O[j] :: O.drop (j + 1) from List.drop_eq_getElem_cons hjl)
        have HK := Lib.hid (show O[j] = 0 → ∀ i (h : i < O.length), i < j + 1 → O[i] = 0 from fun h0 i hi hij => by
          by_cases e : i = j
          · subst e; exact h0
          · exact HZ.out i hi (by omega))
        have HQ := Lib.hid (orL_zero O j HZ.out)
        generalize O[j] = x at *
        by_cases h0 : x = 0
        · have HY := Lib.hid (HK.out h0)
          subst h0
          go_wp2_with fail
          go_round
          case rel => exact ⟨j + 1, by omega, by go_num, HY.out⟩
          case measure => simp [intOf]; omega
        · have q : (x != 0) = true := by rw [bne_iff_ne]; exact h0
          have HR := Lib.hid (show res = x by rw [HE.out, HQ.out, HD.out]; unfold orL Cmpr.or; rw [if_pos h0, if_pos h0])
          clear h0
          go_wp2_with fail
          go_ret
          exact ⟨ret_i64 (by rw [HR.out]), BZ.out⟩
      · have HR := Lib.hid (show res = cRs L M by rw [HE.out, orL_zero O j HZ.out, List.drop_eq_nil_of_le (by rw [HO.out]; omega)]; unfold orL Cmpr.or; rw [if_neg (by omega)])
        clear HZ HE HC7 HO
        obtain rfl : j = 7 := by omega
        clear hj hlt
        go_wp2_with fail
        go_loopw [8, 9, 10] (fun ix _ _ wr => ∃ j : Nat, j ≤ L.length ∧ j ≤ M.length ∧ ix = .int .i64 j ∧ L.take j = M.take j ∧ Below w.heap.size w wr ∧ Row wr g0 53 (repC k nm t F A B C (.slice AL L.length cL)) ∧ Row wr g1 53 (repC k' nm' t' F' A' B' C' (.slice AM M.length cM))) (fun t _ _ _ => L.length - (intOf t).toNat)
        case atStart => exact ⟨0, by omega, by omega, rfl, rfl, BZ.out, R0.out, R1.out⟩
        case round =>
          obtain ⟨j, hj, hj2, rfl, ht, bw, ra, rb⟩ := hrel
          have HT := Lib.hid ht; clear ht
          have BQ := Lib.hid bw
          have RA := Lib.hid ra
          have RB := Lib.hid rb
          obtain ⟨-, -, -, -, -, -, -, c7⟩ := row8 ra
          obtain ⟨-, -, -, -, -, -, -, d7⟩ := row8 rb
          clear bw ra rb
          have k0 : (0 : Int) ≤ (j : Int) := by omega
          have x1 : IntKind.i64.wrap (j : Int) = (j : Int) := IntWalk.i64_in _ (by omega)
          by_cases hlt : j < L.length
          · have k1 : (j : Int) < (L.length : Int) := by omega
            by_cases hltM : j < M.length
            · have k2 : (j : Int) < (M.length : Int) := by omega
              obtain ⟨g, off, rfl, hg, a0, a1⟩ := HA.out j hlt
              obtain ⟨g', off', rfl, hg', b0, b1⟩ := HB.out j hltM
              have hs : Hid (L[j] = M[j] → L.take (j + 1) = M.take (j + 1)) := Lib.hid (fun e => by rw [List.take_succ_eq_append_getElem hlt, List.take_succ_eq_append_getElem hltM, HT.out, e])
              have hn : Hid (cR L[j] M[j] ≠ 0 → cRs L M = cR L[j] M[j]) := Lib.hid (fun e => by
                rw [cRs_drop L M j (by omega) (by omega) HT.out, List.drop_eq_getElem_cons hlt, List.drop_eq_getElem_cons hltM]
                unfold cRs; rw [Cmpr.lst, Cmpr.or, if_pos e])
              generalize L[j] = x at *
              generalize M[j] = y at *
              obtain ⟨p0, p2⟩ := x
              obtain ⟨y0, y2⟩ := y
              simp only at a0 a1 b0 b1
              have A0 := Lib.hid a0
              have A1 := Lib.hid a1
              have B0 := Lib.hid b0
              have B1 := Lib.hid b1
              have a0 := (BQ.out.cell (p := ⟨g, off + j * 2, none⟩) hg).trans A0.out
              have a1 := (BQ.out.cell (p := ⟨g, off + j * 2 + 1, none⟩) hg).trans A1.out
              have b0 := (BQ.out.cell (p := ⟨g', off' + j * 2, none⟩) hg').trans B0.out
              have b1 := (BQ.out.cell (p := ⟨g', off' + j * 2 + 1, none⟩) hg').trans B1.out
              have hcr : cR (p0, p2) (y0, y2) = Cmpr.or (Cmpr.num p0 y0) (Cmpr.num p2 y2) := by unfold cR; simp only [orL, or_zero]
              rw [hcr] at hn
              have h1z := Cmpr.num_tot.zero p0 y0
              have h2z := Cmpr.num_tot.zero p2 y2
              have N1 := Lib.hid (fun W => sign_any p0 y0 W)
              have N2 := Lib.hid (fun W => sign_any p2 y2 W)
              have hsx : Hid (Cmpr.num p0 y0 = 0 → Cmpr.num p2 y2 = 0 → L.take (j + 1) = M.take (j + 1)) := Lib.hid (fun e1 e2 => hs.out (by rw [h1z.1 e1, h2z.1 e2]))
              generalize Cmpr.num p0 y0 = m1 at *
              generalize Cmpr.num p2 y2 = m2 at *
              clear hcr h1z h2z hs HA HB
              by_cases e1 : m1 = 0
              · subst e1
                go_wp2_with fail
                go_region_held3 (fun w' => (w'.cell? ⟨g0, 7, none⟩ = some (.slice (some ⟨g, off, none⟩) L.length cL) ∧ w'.cell? ⟨g1, 7, none⟩ = some (.slice (some ⟨g', off', none⟩) M.length cM)) ∧ (w'.cell? ⟨g, off + j * 2, none⟩ = some (.int .i64 p0) ∧ w'.cell? ⟨g, off + j * 2 + 1, none⟩ = some (.int .i64 p2)) ∧ (w'.cell? ⟨g', off' + j * 2, none⟩ = some (.int .i64 y0) ∧ w'.cell? ⟨g', off' + j * 2 + 1, none⟩ = some (.int .i64 y2)))
                  (go_keep)
                  (first | (go_at_call 97; refine (N1.out _).mono ?_; rintro e w1 ⟨rfl, rfl⟩))
                go_wp2_with fail
                refine forget (fun V => Below w.heap.size w V ∧ Row V g0 53 (repC k nm t F A B C (.slice (some ⟨g, off, none⟩) L.length cL)) ∧ Row V g1 53 (repC k' nm' t' F' A' B' C' (.slice (some ⟨g', off', none⟩) M.length cM))) ⟨BQ.out.drew, RA.out.drew, RB.out.drew⟩ ?_
                clear a0 a1 b0 b1 c7 d7 RA RB BQ
                rintro V ⟨bV, ra, rb⟩
                have BV := Lib.hid bV
                have RA := Lib.hid ra
                have RB := Lib.hid rb
                obtain ⟨-, -, -, -, -, -, -, c7⟩ := row8 ra
                obtain ⟨-, -, -, -, -, -, -, d7⟩ := row8 rb
                have a0 := (bV.cell (p := ⟨g, off + j * 2, none⟩) hg).trans A0.out
                have a1 := (bV.cell (p := ⟨g, off + j * 2 + 1, none⟩) hg).trans A1.out
                have b0 := (bV.cell (p := ⟨g', off' + j * 2, none⟩) hg').trans B0.out
                have b1 := (bV.cell (p := ⟨g', off' + j * 2 + 1, none⟩) hg').trans B1.out
                clear ra rb bV
                by_cases e2 : m2 = 0
                · subst e2
                  have HX2 := Lib.hid (hsx.out trivial rfl)
                  go_region_held3 (fun w' => (w'.cell? ⟨g0, 7, none⟩ = some (.slice (some ⟨g, off, none⟩) L.length cL) ∧ w'.cell? ⟨g1, 7, none⟩ = some (.slice (some ⟨g', off', none⟩) M.length cM)) ∧ (w'.cell? ⟨g, off + j * 2, none⟩ = some (.int .i64 p0) ∧ w'.cell? ⟨g, off + j * 2 + 1, none⟩ = some (.int .i64 p2)) ∧ (w'.cell? ⟨g', off' + j * 2, none⟩ = some (.int .i64 y0) ∧ w'.cell? ⟨g', off' + j * 2 + 1, none⟩ = some (.int .i64 y2)))
                    (go_keep)
                    (first | (go_at_call 97; refine (N2.out _).mono ?_; rintro e w1 ⟨rfl, rfl⟩))
                  go_wp2_with fail
                  go_roundw
                  case rel => exact ⟨j + 1, by omega, by omega, by go_num, HX2.out, BV.out.drew, RA.out.drew, RB.out.drew⟩
                  case measure => simp [intOf]; omega
                · have HX2 := Lib.hid (hn.out (by unfold Cmpr.or; simpa using e2))
                  have q2 : (m2 != 0) = true := by rw [bne_iff_ne]; exact e2
                  have HY2 := Lib.hid (show Cmpr.or 0 m2 = m2 by unfold Cmpr.or; simp)
                  clear e2
                  go_region_held3 (fun w' => (w'.cell? ⟨g0, 7, none⟩ = some (.slice (some ⟨g, off, none⟩) L.length cL) ∧ w'.cell? ⟨g1, 7, none⟩ = some (.slice (some ⟨g', off', none⟩) M.length cM)) ∧ (w'.cell? ⟨g, off + j * 2, none⟩ = some (.int .i64 p0) ∧ w'.cell? ⟨g, off + j * 2 + 1, none⟩ = some (.int .i64 p2)) ∧ (w'.cell? ⟨g', off' + j * 2, none⟩ = some (.int .i64 y0) ∧ w'.cell? ⟨g', off' + j * 2 + 1, none⟩ = some (.int .i64 y2)))
                    (go_keep)
                    (first | (go_at_call 97; refine (N2.out _).mono ?_; rintro e w1 ⟨rfl, rfl⟩))
                  go_wp2_with fail
                  go_ret
                  exact ⟨ret_i64 (by rw [HR.out, HX2.out, HY2.out]), BV.out.drew⟩
              · have HX2 := Lib.hid (hn.out (by unfold Cmpr.or; rw [if_pos e1]; exact e1))
                have q2 : (m1 != 0) = true := by rw [bne_iff_ne]; exact e1
                have HY2 := Lib.hid (show Cmpr.or m1 m2 = m1 by unfold Cmpr.or; rw [if_pos e1])
                clear e1
                go_wp2_with fail
                go_region_held3 (fun w' => (w'.cell? ⟨g0, 7, none⟩ = some (.slice (some ⟨g, off, none⟩) L.length cL) ∧ w'.cell? ⟨g1, 7, none⟩ = some (.slice (some ⟨g', off', none⟩) M.length cM)) ∧ (w'.cell? ⟨g, off + j * 2, none⟩ = some (.int .i64 p0) ∧ w'.cell? ⟨g, off + j * 2 + 1, none⟩ = some (.int .i64 p2)) ∧ (w'.cell? ⟨g', off' + j * 2, none⟩ = some (.int .i64 y0) ∧ w'.cell? ⟨g', off' + j * 2 + 1, none⟩ = some (.int .i64 y2)))
                  (go_keep)
                  (first | (go_at_call 97; refine (N1.out _).mono ?_; rintro e w1 ⟨rfl, rfl⟩))
                go_wp2_with fail
                go_ret
                exact ⟨ret_i64 (by rw [HR.out, HX2.out, HY2.out]), BQ.out.drew⟩
            · have k2 : ¬ ((j : Int) < (M.length : Int)) := by omega
              have HX2 := Lib.hid (cRs_end L M j hj hj2 HT.out (.inr (by omega)))
              go_wp2_with fail
              refine (sign_any _ _ _).mono ?_
              rintro e w1 ⟨rfl, rfl⟩
              go_wp2_with fail
              go_ret
              exact ⟨ret_i64 (by rw [HR.out, HX2.out]), BQ.out⟩
          · have k1 : ¬ ((j : Int) < (L.length : Int)) := by omega
            have HX2 := Lib.hid (cRs_end L M j hj hj2 HT.out (.inl (by omega)))
            go_wp2_with fail
            refine (sign_any _ _ _).mono ?_
            rintro e w1 ⟨rfl, rfl⟩
            go_wp2_with fail
            go_ret
            exact ⟨ret_i64 (by rw [HR.out, HX2.out]), BQ.out⟩
  · have l1 : Op.bytesLess nm.toList nm'.toList = false := hlo.trans (decide_eq_false (by omega))
    have l2 : (nm.toList == nm'.toList) = true := toList_same (hmo.1 hx)
    have HX := Lib.hid hx; clear hx
    clear hlo hmo
    go_upto_region 6 with fail
    go_region_held3 (fun w' => (w'.cell? ⟨g0, 0, none⟩ = some (.int .i64 k) ∧ w'.cell? ⟨g0, 1, none⟩ = some (.string nm) ∧ w'.cell? ⟨g0, 2, none⟩ = some (.int .i64 t) ∧ w'.cell? ⟨g0, 3, none⟩ = some (.int .i64 F) ∧ w'.cell? ⟨g0, 4, none⟩ = some (.int .i64 A) ∧ w'.cell? ⟨g0, 5, none⟩ = some (.int .i64 B) ∧ w'.cell? ⟨g0, 6, none⟩ = some (.int .i64 C) ∧ w'.cell? ⟨g0, 7, none⟩ = some (.slice AL L.length cL)) ∧
      w'.cell? ⟨g1, 0, none⟩ = some (.int .i64 k') ∧ w'.cell? ⟨g1, 1, none⟩ = some (.string nm') ∧ w'.cell? ⟨g1, 2, none⟩ = some (.int .i64 t') ∧ w'.cell? ⟨g1, 3, none⟩ = some (.int .i64 F') ∧ w'.cell? ⟨g1, 4, none⟩ = some (.int .i64 A') ∧ w'.cell? ⟨g1, 5, none⟩ = some (.int .i64 B') ∧ w'.cell? ⟨g1, 6, none⟩ = some (.int .i64 C') ∧ w'.cell? ⟨g1, 7, none⟩ = some (.slice AM M.length cM))
      (go_keep)
      (first | (go_at_call 97; refine (sign_any _ _ _).mono ?_; rintro e w2 ⟨rfl, rfl⟩))
    have HN := Lib.hid (show [Cmpr.num k k', ctx nm nm', Cmpr.num t t', Cmpr.num F F', Cmpr.num A A', Cmpr.num B B', Cmpr.num C C'] = [Cmpr.num k k', 0, Cmpr.num t t', Cmpr.num F F', Cmpr.num A A', Cmpr.num B B', Cmpr.num C C'] by rw [HX.out])
    go_upto_region 7 with fail
    refine forget (fun Z => Below w.heap.size w Z ∧ Row Z g0 53 (repC k nm t F A B C (.slice AL L.length cL)) ∧ Row Z g1 53 (repC k' nm' t' F' A' B' C' (.slice AM M.length cM)) ∧ Row Z Y.heap.size 3 #[.int .i64 (Cmpr.num k k'), .int .i64 0, .int .i64 (Cmpr.num t t'), .int .i64 (Cmpr.num F F'), .int .i64 (Cmpr.num A A'), .int .i64 (Cmpr.num B B'), .int .i64 (Cmpr.num C C')])
      ⟨(BY.out.alloc BY.out.size _).drew, (R0.out.alloc _).drew, (R1.out.alloc _).drew, (Row.new _ _ _).drew⟩ ?_
    generalize Y.heap.size = gs at *
    clear c0 c1 c2 c3 c4 c5 c6 c7 d0 d1 d2 d3 d4 d5 d6 d7 R0 R1 BY h0 h1
    rintro Z ⟨bZ, r0, r1, rs⟩
    have HC7 := Lib.hid (cells7 rs)
    rw [← HN.out] at HC7
    clear rs HN
    generalize hO : [Cmpr.num k k', ctx nm nm', Cmpr.num t t', Cmpr.num F F', Cmpr.num A A', Cmpr.num B B', Cmpr.num C C'] = O at *
    have hol : O.length = 7 := by rw [← hO]; rfl
    have HE := Lib.hid (show res = Cmpr.or (orL O) (cRs L M) by rw [← HRES.out, ← hO]; exact cRep_or _ _ _ _ _ _ _ _ _ _ _ _ _ _ _ _)
    have HO := Lib.hid hol
    have BZ := Lib.hid bZ
    have R0 := Lib.hid r0
    have R1 := Lib.hid r1
    clear hO hol bZ r0 r1
    go_loop [7, 62] (fun _ t => ∃ j : Nat, j ≤ 7 ∧ t = .int .i64 j ∧ ∀ i (h : i < O.length), i < j → O[i] = 0) (fun _ t => 7 - (intOf t).toNat)
    case atStart => exact ⟨0, Nat.zero_le _, rfl, fun j _ h => absurd h (Nat.not_lt_zero _)⟩
    case round =>
      obtain ⟨j, hj, rfl, hz⟩ := hrel
      have HZ := Lib.hid hz; clear hz
      by_cases hlt : j < 7
      · have hjl : j < O.length := by rw [HO.out]; exact hlt
        have c0 := HC7.out j hjl
        have HD := Lib.hid (show O.drop j = O[j] :: O.drop (j + 1) from List.drop_eq_getElem_cons hjl)
        have HK := Lib.hid (show O[j] = 0 → ∀ i (h : i < O.length), i < j + 1 → O[i] = 0 from fun h0 i hi hij => by
          by_cases e : i = j
          · subst e; exact h0
          · exact HZ.out i hi (by omega))
        have HQ := Lib.hid (orL_zero O j HZ.out)
        generalize O[j] = x at *
        by_cases h0 : x = 0
        · have HY := Lib.hid (HK.out h0)
          subst h0
          go_wp2_with fail
          go_round
          case rel => exact ⟨j + 1, by omega, by go_num, HY.out⟩
          case measure => simp [intOf]; omega
        · have q : (x != 0) = true := by rw [bne_iff_ne]; exact h0
          have HR := Lib.hid (show res = x by rw [HE.out, HQ.out, HD.out]; unfold orL Cmpr.or; rw [if_pos h0, if_pos h0])
          clear h0
          go_wp2_with fail
          go_ret
          exact ⟨ret_i64 (by rw [HR.out]), BZ.out⟩
      · have HR := Lib.hid (show res = cRs L M by rw [HE.out, orL_zero O j HZ.out, List.drop_eq_nil_of_le (by rw [HO.out]; omega)]; unfold orL Cmpr.or; rw [if_neg (by omega)])
        clear HZ HE HC7 HO
        obtain rfl : j = 7 := by omega
        clear hj hlt
        go_wp2_with fail
        go_loopw [8, 9, 10] (fun ix _ _ wr => ∃ j : Nat, j ≤ L.length ∧ j ≤ M.length ∧ ix = .int .i64 j ∧ L.take j = M.take j ∧ Below w.heap.size w wr ∧ Row wr g0 53 (repC k nm t F A B C (.slice AL L.length cL)) ∧ Row wr g1 53 (repC k' nm' t' F' A' B' C' (.slice AM M.length cM))) (fun t _ _ _ => L.length - (intOf t).toNat)
        case atStart => exact ⟨0, by omega, by omega, rfl, rfl, BZ.out, R0.out, R1.out⟩
        case round =>
          obtain ⟨j, hj, hj2, rfl, ht, bw, ra, rb⟩ := hrel
          have HT := Lib.hid ht; clear ht
          have BQ := Lib.hid bw
          have RA := Lib.hid ra
          have RB := Lib.hid rb
          obtain ⟨-, -, -, -, -, -, -, c7⟩ := row8 ra
          obtain ⟨-, -, -, -, -, -, -, d7⟩ := row8 rb
          clear bw ra rb
          have k0 : (0 : Int) ≤ (j : Int) := by omega
          have x1 : IntKind.i64.wrap (j : Int) = (j : Int) := IntWalk.i64_in _ (by omega)
          by_cases hlt : j < L.length
          · have k1 : (j : Int) < (L.length : Int) := by omega
            by_cases hltM : j < M.length
            · have k2 : (j : Int) < (M.length : Int) := by omega
              obtain ⟨g, off, rfl, hg, a0, a1⟩ := HA.out j hlt
              obtain ⟨g', off', rfl, hg', b0, b1⟩ := HB.out j hltM
              have hs : Hid (L[j] = M[j] → L.take (j + 1) = M.take (j + 1)) := Lib.hid (fun e => by rw [List.take_succ_eq_append_getElem hlt, List.take_succ_eq_append_getElem hltM, HT.out, e])
              have hn : Hid (cR L[j] M[j] ≠ 0 → cRs L M = cR L[j] M[j]) := Lib.hid (fun e => by
                rw [cRs_drop L M j (by omega) (by omega) HT.out, List.drop_eq_getElem_cons hlt, List.drop_eq_getElem_cons hltM]
                unfold cRs; rw [Cmpr.lst, Cmpr.or, if_pos e])
              generalize L[j] = x at *
              generalize M[j] = y at *
              obtain ⟨p0, p2⟩ := x
              obtain ⟨y0, y2⟩ := y
              simp only at a0 a1 b0 b1
              have A0 := Lib.hid a0
              have A1 := Lib.hid a1
              have B0 := Lib.hid b0
              have B1 := Lib.hid b1
              have a0 := (BQ.out.cell (p := ⟨g, off + j * 2, none⟩) hg).trans A0.out
              have a1 := (BQ.out.cell (p := ⟨g, off + j * 2 + 1, none⟩) hg).trans A1.out
              have b0 := (BQ.out.cell (p := ⟨g', off' + j * 2, none⟩) hg').trans B0.out
              have b1 := (BQ.out.cell (p := ⟨g', off' + j * 2 + 1, none⟩) hg').trans B1.out
              have hcr : cR (p0, p2) (y0, y2) = Cmpr.or (Cmpr.num p0 y0) (Cmpr.num p2 y2) := by unfold cR; simp only [orL, or_zero]
              rw [hcr] at hn
              have h1z := Cmpr.num_tot.zero p0 y0
              have h2z := Cmpr.num_tot.zero p2 y2
              have N1 := Lib.hid (fun W => sign_any p0 y0 W)
              have N2 := Lib.hid (fun W => sign_any p2 y2 W)
              have hsx : Hid (Cmpr.num p0 y0 = 0 → Cmpr.num p2 y2 = 0 → L.take (j + 1) = M.take (j + 1)) := Lib.hid (fun e1 e2 => hs.out (by rw [h1z.1 e1, h2z.1 e2]))
              generalize Cmpr.num p0 y0 = m1 at *
              generalize Cmpr.num p2 y2 = m2 at *
              clear hcr h1z h2z hs HA HB
              by_cases e1 : m1 = 0
              · subst e1
                go_wp2_with fail
                go_region_held3 (fun w' => (w'.cell? ⟨g0, 7, none⟩ = some (.slice (some ⟨g, off, none⟩) L.length cL) ∧ w'.cell? ⟨g1, 7, none⟩ = some (.slice (some ⟨g', off', none⟩) M.length cM)) ∧ (w'.cell? ⟨g, off + j * 2, none⟩ = some (.int .i64 p0) ∧ w'.cell? ⟨g, off + j * 2 + 1, none⟩ = some (.int .i64 p2)) ∧ (w'.cell? ⟨g', off' + j * 2, none⟩ = some (.int .i64 y0) ∧ w'.cell? ⟨g', off' + j * 2 + 1, none⟩ = some (.int .i64 y2)))
                  (go_keep)
                  (first | (go_at_call 97; refine (N1.out _).mono ?_; rintro e w1 ⟨rfl, rfl⟩))
                go_wp2_with fail
                refine forget (fun V => Below w.heap.size w V ∧ Row V g0 53 (repC k nm t F A B C (.slice (some ⟨g, off, none⟩) L.length cL)) ∧ Row V g1 53 (repC k' nm' t' F' A' B' C' (.slice (some ⟨g', off', none⟩) M.length cM))) ⟨BQ.out.drew, RA.out.drew, RB.out.drew⟩ ?_
                clear a0 a1 b0 b1 c7 d7 RA RB BQ
                rintro V ⟨bV, ra, rb⟩
                have BV := Lib.hid bV
                have RA := Lib.hid ra
                have RB := Lib.hid rb
                obtain ⟨-, -, -, -, -, -, -, c7⟩ := row8 ra
                obtain ⟨-, -, -, -, -, -, -, d7⟩ := row8 rb
                have a0 := (bV.cell (p := ⟨g, off + j * 2, none⟩) hg).trans A0.out
                have a1 := (bV.cell (p := ⟨g, off + j * 2 + 1, none⟩) hg).trans A1.out
                have b0 := (bV.cell (p := ⟨g', off' + j * 2, none⟩) hg').trans B0.out
                have b1 := (bV.cell (p := ⟨g', off' + j * 2 + 1, none⟩) hg').trans B1.out
                clear ra rb bV
                by_cases e2 : m2 = 0
                · subst e2
                  have HX2 := Lib.hid (hsx.out trivial rfl)
                  go_region_held3 (fun w' => (w'.cell? ⟨g0, 7, none⟩ = some (.slice (some ⟨g, off, none⟩) L.length cL) ∧ w'.cell? ⟨g1, 7, none⟩ = some (.slice (some ⟨g', off', none⟩) M.length cM)) ∧ (w'.cell? ⟨g, off + j * 2, none⟩ = some (.int .i64 p0) ∧ w'.cell? ⟨g, off + j * 2 + 1, none⟩ = some (.int .i64 p2)) ∧ (w'.cell? ⟨g', off' + j * 2, none⟩ = some (.int .i64 y0) ∧ w'.cell? ⟨g', off' + j * 2 + 1, none⟩ = some (.int .i64 y2)))
                    (go_keep)
                    (first | (go_at_call 97; refine (N2.out _).mono ?_; rintro e w1 ⟨rfl, rfl⟩))
                  go_wp2_with fail
                  go_roundw
                  case rel => exact ⟨j + 1, by omega, by omega, by go_num, HX2.out, BV.out.drew, RA.out.drew, RB.out.drew⟩
                  case measure => simp [intOf]; omega
                · have HX2 := Lib.hid (hn.out (by unfold Cmpr.or; simpa using e2))
                  have q2 : (m2 != 0) = true := by rw [bne_iff_ne]; exact e2
                  have HY2 := Lib.hid (show Cmpr.or 0 m2 = m2 by unfold Cmpr.or; simp)
                  clear e2
                  go_region_held3 (fun w' => (w'.cell? ⟨g0, 7, none⟩ = some (.slice (some ⟨g, off, none⟩) L.length cL) ∧ w'.cell? ⟨g1, 7, none⟩ = some (.slice (some ⟨g', off', none⟩) M.length cM)) ∧ (w'.cell? ⟨g, off + j * 2, none⟩ = some (.int .i64 p0) ∧ w'.cell? ⟨g, off + j * 2 + 1, none⟩ = some (.int .i64 p2)) ∧ (w'.cell? ⟨g', off' + j * 2, none⟩ = some (.int .i64 y0) ∧ w'.cell? ⟨g', off' + j * 2 + 1, none⟩ = some (.int .i64 y2)))
                    (go_keep)
                    (first | (go_at_call 97; refine (N2.out _).mono ?_; rintro e w1 ⟨rfl, rfl⟩))
                  go_wp2_with fail
                  go_ret
                  exact ⟨ret_i64 (by rw [HR.out, HX2.out, HY2.out]), BV.out.drew⟩
              · have HX2 := Lib.hid (hn.out (by unfold Cmpr.or; rw [if_pos e1]; exact e1))
                have q2 : (m1 != 0) = true := by rw [bne_iff_ne]; exact e1
                have HY2 := Lib.hid (show Cmpr.or m1 m2 = m1 by unfold Cmpr.or; rw [if_pos e1])
                clear e1
                go_wp2_with fail
                go_region_held3 (fun w' => (w'.cell? ⟨g0, 7, none⟩ = some (.slice (some ⟨g, off, none⟩) L.length cL) ∧ w'.cell? ⟨g1, 7, none⟩ = some (.slice (some ⟨g', off', none⟩) M.length cM)) ∧ (w'.cell? ⟨g, off + j * 2, none⟩ = some (.int .i64 p0) ∧ w'.cell? ⟨g, off + j * 2 + 1, none⟩ = some (.int .i64 p2)) ∧ (w'.cell? ⟨g', off' + j * 2, none⟩ = some (.int .i64 y0) ∧ w'.cell? ⟨g', off' + j * 2 + 1, none⟩ = some (.int .i64 y2)))
                  (go_keep)
                  (first | (go_at_call 97; refine (N1.out _).mono ?_; rintro e w1 ⟨rfl, rfl⟩))
                go_wp2_with fail
                go_ret
                exact ⟨ret_i64 (by rw [HR.out, HX2.out, HY2.out]), BQ.out.drew⟩
            · have k2 : ¬ ((j : Int) < (M.length : Int)) := by omega
              have HX2 := Lib.hid (cRs_end L M j hj hj2 HT.out (.inr (by omega)))
              go_wp2_with fail
              refine (sign_any _ _ _).mono ?_
              rintro e w1 ⟨rfl, rfl⟩
              go_wp2_with fail
              go_ret
              exact ⟨ret_i64 (by rw [HR.out, HX2.out]), BQ.out⟩
          · have k1 : ¬ ((j : Int) < (L.length : Int)) := by omega
            have HX2 := Lib.hid (cRs_end L M j hj hj2 HT.out (.inl (by omega)))
            go_wp2_with fail
            refine (sign_any _ _ _).mono ?_
            rintro e w1 ⟨rfl, rfl⟩
            go_wp2_with fail
            go_ret
            exact ⟨ret_i64 (by rw [HR.out, HX2.out]), BQ.out⟩
  · have l1 : Op.bytesLess nm.toList nm'.toList = false := hlo.trans (decide_eq_false (by omega))
    have l2 : (nm.toList == nm'.toList) = false := toList_ne fun e => by have := hmo.2 e; omega
    have HX := Lib.hid hx; clear hx
    clear hlo hmo
    go_upto_region 6 with fail
    go_region_held3 (fun w' => (w'.cell? ⟨g0, 0, none⟩ = some (.int .i64 k) ∧ w'.cell? ⟨g0, 1, none⟩ = some (.string nm) ∧ w'.cell? ⟨g0, 2, none⟩ = some (.int .i64 t) ∧ w'.cell? ⟨g0, 3, none⟩ = some (.int .i64 F) ∧ w'.cell? ⟨g0, 4, none⟩ = some (.int .i64 A) ∧ w'.cell? ⟨g0, 5, none⟩ = some (.int .i64 B) ∧ w'.cell? ⟨g0, 6, none⟩ = some (.int .i64 C) ∧ w'.cell? ⟨g0, 7, none⟩ = some (.slice AL L.length cL)) ∧
      w'.cell? ⟨g1, 0, none⟩ = some (.int .i64 k') ∧ w'.cell? ⟨g1, 1, none⟩ = some (.string nm') ∧ w'.cell? ⟨g1, 2, none⟩ = some (.int .i64 t') ∧ w'.cell? ⟨g1, 3, none⟩ = some (.int .i64 F') ∧ w'.cell? ⟨g1, 4, none⟩ = some (.int .i64 A') ∧ w'.cell? ⟨g1, 5, none⟩ = some (.int .i64 B') ∧ w'.cell? ⟨g1, 6, none⟩ = some (.int .i64 C') ∧ w'.cell? ⟨g1, 7, none⟩ = some (.slice AM M.length cM))
      (go_keep)
      (first | (go_at_call 97; refine (sign_any _ _ _).mono ?_; rintro e w2 ⟨rfl, rfl⟩))
    have HN := Lib.hid (show [Cmpr.num k k', ctx nm nm', Cmpr.num t t', Cmpr.num F F', Cmpr.num A A', Cmpr.num B B', Cmpr.num C C'] = [Cmpr.num k k', 1, Cmpr.num t t', Cmpr.num F F', Cmpr.num A A', Cmpr.num B B', Cmpr.num C C'] by rw [HX.out])
    go_upto_region 7 with fail
    refine forget (fun Z => Below w.heap.size w Z ∧ Row Z g0 53 (repC k nm t F A B C (.slice AL L.length cL)) ∧ Row Z g1 53 (repC k' nm' t' F' A' B' C' (.slice AM M.length cM)) ∧ Row Z Y.heap.size 3 #[.int .i64 (Cmpr.num k k'), .int .i64 1, .int .i64 (Cmpr.num t t'), .int .i64 (Cmpr.num F F'), .int .i64 (Cmpr.num A A'), .int .i64 (Cmpr.num B B'), .int .i64 (Cmpr.num C C')])
      ⟨(BY.out.alloc BY.out.size _).drew, (R0.out.alloc _).drew, (R1.out.alloc _).drew, (Row.new _ _ _).drew⟩ ?_
    generalize Y.heap.size = gs at *
    clear c0 c1 c2 c3 c4 c5 c6 c7 d0 d1 d2 d3 d4 d5 d6 d7 R0 R1 BY h0 h1
    rintro Z ⟨bZ, r0, r1, rs⟩
    have HC7 := Lib.hid (cells7 rs)
    rw [← HN.out] at HC7
    clear rs HN
    generalize hO : [Cmpr.num k k', ctx nm nm', Cmpr.num t t', Cmpr.num F F', Cmpr.num A A', Cmpr.num B B', Cmpr.num C C'] = O at *
    have hol : O.length = 7 := by rw [← hO]; rfl
    have HE := Lib.hid (show res = Cmpr.or (orL O) (cRs L M) by rw [← HRES.out, ← hO]; exact cRep_or _ _ _ _ _ _ _ _ _ _ _ _ _ _ _ _)
    have HO := Lib.hid hol
    have BZ := Lib.hid bZ
    have R0 := Lib.hid r0
    have R1 := Lib.hid r1
    clear hO hol bZ r0 r1
    go_loop [7, 62] (fun _ t => ∃ j : Nat, j ≤ 7 ∧ t = .int .i64 j ∧ ∀ i (h : i < O.length), i < j → O[i] = 0) (fun _ t => 7 - (intOf t).toNat)
    case atStart => exact ⟨0, Nat.zero_le _, rfl, fun j _ h => absurd h (Nat.not_lt_zero _)⟩
    case round =>
      obtain ⟨j, hj, rfl, hz⟩ := hrel
      have HZ := Lib.hid hz; clear hz
      by_cases hlt : j < 7
      · have hjl : j < O.length := by rw [HO.out]; exact hlt
        have c0 := HC7.out j hjl
        have HD := Lib.hid (show O.drop j = O[j] :: O.drop (j + 1) from List.drop_eq_getElem_cons hjl)
        have HK := Lib.hid (show O[j] = 0 → ∀ i (h : i < O.length), i < j + 1 → O[i] = 0 from fun h0 i hi hij => by
          by_cases e : i = j
          · subst e; exact h0
          · exact HZ.out i hi (by omega))
        have HQ := Lib.hid (orL_zero O j HZ.out)
        generalize O[j] = x at *
        by_cases h0 : x = 0
        · have HY := Lib.hid (HK.out h0)
          subst h0
          go_wp2_with fail
          go_round
          case rel => exact ⟨j + 1, by omega, by go_num, HY.out⟩
          case measure => simp [intOf]; omega
        · have q : (x != 0) = true := by rw [bne_iff_ne]; exact h0
          have HR := Lib.hid (show res = x by rw [HE.out, HQ.out, HD.out]; unfold orL Cmpr.or; rw [if_pos h0, if_pos h0])
          clear h0
          go_wp2_with fail
          go_ret
          exact ⟨ret_i64 (by rw [HR.out]), BZ.out⟩
      · have HR := Lib.hid (show res = cRs L M by rw [HE.out, orL_zero O j HZ.out, List.drop_eq_nil_of_le (by rw [HO.out]; omega)]; unfold orL Cmpr.or; rw [if_neg (by omega)])
        clear HZ HE HC7 HO
        obtain rfl : j = 7 := by omega
        clear hj hlt
        go_wp2_with fail
        go_loopw [8, 9, 10] (fun ix _ _ wr => ∃ j : Nat, j ≤ L.length ∧ j ≤ M.length ∧ ix = .int .i64 j ∧ L.take j = M.take j ∧ Below w.heap.size w wr ∧ Row wr g0 53 (repC k nm t F A B C (.slice AL L.length cL)) ∧ Row wr g1 53 (repC k' nm' t' F' A' B' C' (.slice AM M.length cM))) (fun t _ _ _ => L.length - (intOf t).toNat)
        case atStart => exact ⟨0, by omega, by omega, rfl, rfl, BZ.out, R0.out, R1.out⟩
        case round =>
          obtain ⟨j, hj, hj2, rfl, ht, bw, ra, rb⟩ := hrel
          have HT := Lib.hid ht; clear ht
          have BQ := Lib.hid bw
          have RA := Lib.hid ra
          have RB := Lib.hid rb
          obtain ⟨-, -, -, -, -, -, -, c7⟩ := row8 ra
          obtain ⟨-, -, -, -, -, -, -, d7⟩ := row8 rb
          clear bw ra rb
          have k0 : (0 : Int) ≤ (j : Int) := by omega
          have x1 : IntKind.i64.wrap (j : Int) = (j : Int) := IntWalk.i64_in _ (by omega)
          by_cases hlt : j < L.length
          · have k1 : (j : Int) < (L.length : Int) := by omega
            by_cases hltM : j < M.length
            · have k2 : (j : Int) < (M.length : Int) := by omega
              obtain ⟨g, off, rfl, hg, a0, a1⟩ := HA.out j hlt
              obtain ⟨g', off', rfl, hg', b0, b1⟩ := HB.out j hltM
              have hs : Hid (L[j] = M[j] → L.take (j + 1) = M.take (j + 1)) := Lib.hid (fun e => by rw [List.take_succ_eq_append_getElem hlt, List.take_succ_eq_append_getElem hltM, HT.out, e])
              have hn : Hid (cR L[j] M[j] ≠ 0 → cRs L M = cR L[j] M[j]) := Lib.hid (fun e => by
                rw [cRs_drop L M j (by omega) (by omega) HT.out, List.drop_eq_getElem_cons hlt, List.drop_eq_getElem_cons hltM]
                unfold cRs; rw [Cmpr.lst, Cmpr.or, if_pos e])
              generalize L[j] = x at *
              generalize M[j] = y at *
              obtain ⟨p0, p2⟩ := x
              obtain ⟨y0, y2⟩ := y
              simp only at a0 a1 b0 b1
              have A0 := Lib.hid a0
              have A1 := Lib.hid a1
              have B0 := Lib.hid b0
              have B1 := Lib.hid b1
              have a0 := (BQ.out.cell (p := ⟨g, off + j * 2, none⟩) hg).trans A0.out
              have a1 := (BQ.out.cell (p := ⟨g, off + j * 2 + 1, none⟩) hg).trans A1.out
              have b0 := (BQ.out.cell (p := ⟨g', off' + j * 2, none⟩) hg').trans B0.out
              have b1 := (BQ.out.cell (p := ⟨g', off' + j * 2 + 1, none⟩) hg').trans B1.out
              have hcr : cR (p0, p2) (y0, y2) = Cmpr.or (Cmpr.num p0 y0) (Cmpr.num p2 y2) := by unfold cR; simp only [orL, or_zero]
              rw [hcr] at hn
              have h1z := Cmpr.num_tot.zero p0 y0
              have h2z := Cmpr.num_tot.zero p2 y2
              have N1 := Lib.hid (fun W => sign_any p0 y0 W)
              have N2 := Lib.hid (fun W => sign_any p2 y2 W)
              have hsx : Hid (Cmpr.num p0 y0 = 0 → Cmpr.num p2 y2 = 0 → L.take (j + 1) = M.take (j + 1)) := Lib.hid (fun e1 e2 => hs.out (by rw [h1z.1 e1, h2z.1 e2]))
              generalize Cmpr.num p0 y0 = m1 at *
              generalize Cmpr.num p2 y2 = m2 at *
              clear hcr h1z h2z hs HA HB
              by_cases e1 : m1 = 0
              · subst e1
                go_wp2_with fail
                go_region_held3 (fun w' => (w'.cell? ⟨g0, 7, none⟩ = some (.slice (some ⟨g, off, none⟩) L.length cL) ∧ w'.cell? ⟨g1, 7, none⟩ = some (.slice (some ⟨g', off', none⟩) M.length cM)) ∧ (w'.cell? ⟨g, off + j * 2, none⟩ = some (.int .i64 p0) ∧ w'.cell? ⟨g, off + j * 2 + 1, none⟩ = some (.int .i64 p2)) ∧ (w'.cell? ⟨g', off' + j * 2, none⟩ = some (.int .i64 y0) ∧ w'.cell? ⟨g', off' + j * 2 + 1, none⟩ = some (.int .i64 y2)))
                  (go_keep)
                  (first | (go_at_call 97; refine (N1.out _).mono ?_; rintro e w1 ⟨rfl, rfl⟩))
                go_wp2_with fail
                refine forget (fun V => Below w.heap.size w V ∧ Row V g0 53 (repC k nm t F A B C (.slice (some ⟨g, off, none⟩) L.length cL)) ∧ Row V g1 53 (repC k' nm' t' F' A' B' C' (.slice (some ⟨g', off', none⟩) M.length cM))) ⟨BQ.out.drew, RA.out.drew, RB.out.drew⟩ ?_
                clear a0 a1 b0 b1 c7 d7 RA RB BQ
                rintro V ⟨bV, ra, rb⟩
                have BV := Lib.hid bV
                have RA := Lib.hid ra
                have RB := Lib.hid rb
                obtain ⟨-, -, -, -, -, -, -, c7⟩ := row8 ra
                obtain ⟨-, -, -, -, -, -, -, d7⟩ := row8 rb
                have a0 := (bV.cell (p := ⟨g, off + j * 2, none⟩) hg).trans A0.out
                have a1 := (bV.cell (p := ⟨g, off + j * 2 + 1, none⟩) hg).trans A1.out
                have b0 := (bV.cell (p := ⟨g', off' + j * 2, none⟩) hg').trans B0.out
                have b1 := (bV.cell (p := ⟨g', off' + j * 2 + 1, none⟩) hg').trans B1.out
                clear ra rb bV
                by_cases e2 : m2 = 0
                · subst e2
                  have HX2 := Lib.hid (hsx.out trivial rfl)
                  go_region_held3 (fun w' => (w'.cell? ⟨g0, 7, none⟩ = some (.slice (some ⟨g, off, none⟩) L.length cL) ∧ w'.cell? ⟨g1, 7, none⟩ = some (.slice (some ⟨g', off', none⟩) M.length cM)) ∧ (w'.cell? ⟨g, off + j * 2, none⟩ = some (.int .i64 p0) ∧ w'.cell? ⟨g, off + j * 2 + 1, none⟩ = some (.int .i64 p2)) ∧ (w'.cell? ⟨g', off' + j * 2, none⟩ = some (.int .i64 y0) ∧ w'.cell? ⟨g', off' + j * 2 + 1, none⟩ = some (.int .i64 y2)))
                    (go_keep)
                    (first | (go_at_call 97; refine (N2.out _).mono ?_; rintro e w1 ⟨rfl, rfl⟩))
                  go_wp2_with fail
                  go_roundw
                  case rel => exact ⟨j + 1, by omega, by omega, by go_num, HX2.out, BV.out.drew, RA.out.drew, RB.out.drew⟩
                  case measure => simp [intOf]; omega
                · have HX2 := Lib.hid (hn.out (by unfold Cmpr.or; simpa using e2))
                  have q2 : (m2 != 0) = true := by rw [bne_iff_ne]; exact e2
                  have HY2 := Lib.hid (show Cmpr.or 0 m2 = m2 by unfold Cmpr.or; simp)
                  clear e2
                  go_region_held3 (fun w' => (w'.cell? ⟨g0, 7, none⟩ = some (.slice (some ⟨g, off, none⟩) L.length cL) ∧ w'.cell? ⟨g1, 7, none⟩ = some (.slice (some ⟨g', off', none⟩) M.length cM)) ∧ (w'.cell? ⟨g, off + j * 2, none⟩ = some (.int .i64 p0) ∧ w'.cell? ⟨g, off + j * 2 + 1, none⟩ = some (.int .i64 p2)) ∧ (w'.cell? ⟨g', off' + j * 2, none⟩ = some (.int .i64 y0) ∧ w'.cell? ⟨g', off' + j * 2 + 1, none⟩ = some (.int .i64 y2)))
                    (go_keep)
                    (first | (go_at_call 97; refine (N2.out _).mono ?_; rintro e w1 ⟨rfl, rfl⟩))
                  go_wp2_with fail
                  go_ret
                  exact ⟨ret_i64 (by rw [HR.out, HX2.out, HY2.out]), BV.out.drew⟩
              · have HX2 := Lib.hid (hn.out (by unfold Cmpr.or; rw [if_pos e1]; exact e1))
                have q2 : (m1 != 0) = true := by rw [bne_iff_ne]; exact e1
                have HY2 := Lib.hid (show Cmpr.or m1 m2 = m1 by unfold Cmpr.or; rw [if_pos e1])
                clear e1
                go_wp2_with fail
                go_region_held3 (fun w' => (w'.cell? ⟨g0, 7, none⟩ = some (.slice (some ⟨g, off, none⟩) L.length cL) ∧ w'.cell? ⟨g1, 7, none⟩ = some (.slice (some ⟨g', off', none⟩) M.length cM)) ∧ (w'.cell? ⟨g, off + j * 2, none⟩ = some (.int .i64 p0) ∧ w'.cell? ⟨g, off + j * 2 + 1, none⟩ = some (.int .i64 p2)) ∧ (w'.cell? ⟨g', off' + j * 2, none⟩ = some (.int .i64 y0) ∧ w'.cell? ⟨g', off' + j * 2 + 1, none⟩ = some (.int .i64 y2)))
                  (go_keep)
                  (first | (go_at_call 97; refine (N1.out _).mono ?_; rintro e w1 ⟨rfl, rfl⟩))
                go_wp2_with fail
                go_ret
                exact ⟨ret_i64 (by rw [HR.out, HX2.out, HY2.out]), BQ.out.drew⟩
            · have k2 : ¬ ((j : Int) < (M.length : Int)) := by omega
              have HX2 := Lib.hid (cRs_end L M j hj hj2 HT.out (.inr (by omega)))
              go_wp2_with fail
              refine (sign_any _ _ _).mono ?_
              rintro e w1 ⟨rfl, rfl⟩
              go_wp2_with fail
              go_ret
              exact ⟨ret_i64 (by rw [HR.out, HX2.out]), BQ.out⟩
          · have k1 : ¬ ((j : Int) < (L.length : Int)) := by omega
            have HX2 := Lib.hid (cRs_end L M j hj hj2 HT.out (.inl (by omega)))
            go_wp2_with fail
            refine (sign_any _ _ _).mono ?_
            rintro e w1 ⟨rfl, rfl⟩
            go_wp2_with fail
            go_ret
            exact ⟨ret_i64 (by rw [HR.out, HX2.out]), BQ.out⟩
set_option maxHeartbeats 400000 in
theorem refSame_any (k : Int) (nm : ByteArray) (t F A B C : Int) (u : Value) (L : List El.Elt.R) (k' : Int) (nm' : ByteArray) (t' F' A' B' C' : Int) (u' : Value) (M : List El.Elt.R) (w : World) (hL : El.RdIn w u L) (hM : El.RdIn w u' M) :
    Calls Tryz.prog 26 #[repV k nm t F A B C u, repV k' nm' t' F' A' B' C' u'] w fun e w' => e = .returned (.bool (cRep k nm t F A B C L k' nm' t' F' A' B' C' M == 0)) ∧ Below w.heap.size w w' := by
  have b2 := ((Below.refl w.heap.size w).alloc (Nat.le_refl _) (.cells (repC k nm t F A B C u) 53)).alloc (by simp) (.cells (repC k' nm' t' F' A' B' C' u') 53)
  have HC := Lib.hid (refCompare_any k nm t F A B C u L k' nm' t' F' A' B' C' u' M _ (hL.under b2) (hM.under b2))
  generalize cRep k nm t F A B C L k' nm' t' F' A' B' C' M = res at *
  clear hL hM
  go_enter Tryz.func26, Tryz.ntmps26
  go_wp2_with fail
  refine HC.out.mono ?_
  rintro e w3 ⟨rfl, g3⟩
  go_wp2_with fail
  all_goals go_ret
  all_goals exact ⟨rfl, b2.trans (g3.mono b2.size)⟩
end Go.Proofs.YtfnlgfacadmjpaaGreatDoor

