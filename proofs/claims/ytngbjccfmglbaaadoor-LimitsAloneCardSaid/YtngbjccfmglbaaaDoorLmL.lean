/- The walk of LimitsAlone: for every list of numbers the law returns true, and what lay in memory is as it was. -/
import Derived.Test.YtngbjccfmglbaaaDoorLmK
namespace Go.Proofs.YtngbjccfmglbaaaDoor
open Go.RowKit

theorem alone_in {M : List Elt.R} {C : List Int} (hC : Lm.Ck M C) (h : M.Pairwise (fun a b : Elt.R => a.1 < b.1)) {r : Elt.R} (hr : r ∈ M) :
    (¬ (2 ≤ r.1 ∧ r.1 ≤ 5) → C.contains r.1 = !Lm.gr r.1 r.2) ∧ (Lm.gr r.1 r.2 = false → C.contains r.1 = true) := by
  have e := Lm.reason_in hC h hr
  refine ⟨fun hn => ?_, fun hg => ?_⟩
  · rw [e]
    unfold Lm.reason
    rw [show (r.1 == 2) = false from beq_eq_false_iff_ne.2 (by omega), show (r.1 == 3) = false from beq_eq_false_iff_ne.2 (by omega), show (r.1 == 4) = false from beq_eq_false_iff_ne.2 (by omega), show (r.1 == 5) = false from beq_eq_false_iff_ne.2 (by omega)]
    simp
  · rw [e]
    unfold Lm.reason
    rw [hg]
    simp
theorem one_of {r : Elt.R} {D : List Int} (h : Lm.Ck [r] D) : D = if Lm.gr r.1 r.2 then [] else [r.1] := by
  refine h.eq ?_ (fun x => by rw [Lm.raw_one])
  cases Lm.gr r.1 r.2 <;> simp
set_option maxRecDepth 100000 in
set_option maxHeartbeats 4000000 in
theorem limitsAlone_any (v : Value) (w : World) (hE : Env w) (hl : ListIn w v) :
    Calls Tryd.prog 5 #[v] w fun e w' => e = .returned (.bool true) ∧ Below w.heap.size w w' := by
  have HE := Lib.hid hE; clear hE
  go_enter Tryd.func5, Tryd.ntmps5
  go_wp2_with fail
  refine (new_any _ _ hl).mono ?_
  rintro e w1 ⟨rfl, s1, -⟩
  go_wp2_with fail
  refine (list_any _ _ _ s1).mono ?_
  rintro e w2 ⟨x, M, rfl, hG, hS⟩
  have B2 := Lib.hid hS.src.below
  have X2 := Lib.hid (RdIn.own hS.own)
  have HM := Lib.hid (hG.smalls (by omega))
  have hM := hG.len
  have HP := Lib.hid (asc_pw hG.asc)
  clear hG s1 hl hS
  go_wp2_with fail
  refine (check_any x M _ X2.out HM.out (HE.out.under B2.out)).mono ?_
  rintro e w3 ⟨bad, C, rfl, ck, g3, n3⟩
  have CK := Lib.hid ck
  have C3 := Lib.hid (Cl.mk (B2.out.trans (g3.mono B2.out.size)) (X2.out.under g3) n3)
  clear ck g3 n3 B2 X2
  obtain ⟨B, cx, ex, l3, l4, -⟩ := C3.out.xs
  subst ex
  go_wp2_with fail
  go_loopw [18] (fun t wr => ∃ k : Nat, k ≤ M.length ∧ t = .int .i64 k ∧ Cl w (.slice B M.length cx) bad M C wr) (fun t _ => M.length - (intOf t).toNat)
  case atStart => exact ⟨0, by omega, rfl, C3.out⟩
  case round =>
    obtain ⟨k, hk, rfl, hC⟩ := hrel
    clear C3
    by_cases hlt : k < M.length
    · obtain ⟨B', cap', e, -, -, hR⟩ := hC.xs
      injection e with e1 e2 e3
      subst e1
      obtain ⟨g, off, rfl, hgl, c0, c1⟩ := hR k hlt
      have k0 : (0 : Int) ≤ (k : Int) := by omega
      have k1 : (k : Int) < (M.length : Int) := by omega
      have HAl := Lib.hid (alone_in CK.out HP.out (List.getElem_mem hlt))
      have hsm := HM.out.2 _ (List.getElem_mem hlt)
      clear hR e3
      generalize M[k] = r at *
      obtain ⟨a, b⟩ := r
      have HS1 : Hid (Smalls [(a, b)]) := Lib.hid ⟨by simp, fun r hr => by rw [List.mem_singleton.1 hr]; exact hsm⟩
      clear hsm
      have HC := Lib.hid hC; clear hC
      simp only at c0 c1
      go_upto_region 7 with fail
      refine forget (fun Y => Cl w (.slice (some ⟨g, off, none⟩) M.length cx) bad M C Y ∧ Row Y wr.heap.size 30 #[.int .i64 a, .int .i64 b]) ⟨HC.out.under ((Below.refl _ _).alloc (Nat.le_refl _) _), Row.new _ _ _⟩ ?_
      clear c0 c1 HC
      generalize wr.heap.size = gr at *
      rintro Y ⟨hC, rY⟩
      obtain ⟨p0, p1⟩ := row2 rY
      have B5 : Hid (Below Y.heap.size Y (Y.alloc (.cells #[.int .i64 a, .int .i64 b] 30))) := Lib.hid ((Below.refl _ _).alloc (Nat.le_refl _) _)
      have HW := Lib.hid (check_any _ [(a, b)] _ (RdIn.row (L := [(a, b)]) (Row.new Y #[.int .i64 a, .int .i64 b] 30) (by simp)) HS1.out ((HE.out.under hC.below).under B5.out))
      have HC := Lib.hid hC
      have RY := Lib.hid rY
      clear hC rY
      go_wp2_with fail
      refine HW.out.mono ?_
      rintro e w6 ⟨one, D, rfl, ck, g6, n6⟩
      have g7 := B5.out.trans (g6.mono B5.out.size)
      have D6 := Lib.hid (HC.out.under g7)
      have R6 := Lib.hid (RY.out.under g7)
      have hD := one_of ck
      clear g6 HW HC RY p0 p1 g7 B5 ck
      obtain ⟨p0, p1⟩ := row2 R6.out
      have HGr := Lib.hid (gross_any a b w6 (HE.out.under D6.out.below))
      have HIn := Lib.hid (in_any bad C a w6 D6.out.nm)
      simp only at hD HAl
      generalize Lm.gr a b = g0 at *
      by_cases hc : 2 ≤ a ∧ a ≤ 5
      · obtain ⟨h2, h5⟩ := hc
        cases g0 with
        | true =>
          obtain rfl : D = [] := by simpa using hD
          obtain ⟨A5, c5, rfl, -⟩ := n6
          clear hD HAl
          go_wp2_with fail
          refine HGr.out.mono ?_
          rintro e w7 ⟨rfl, g7⟩
          have D7 := Lib.hid (D6.out.under g7)
          clear g7
          go_wp2_with fail
          go_roundw
          case rel => exact ⟨k + 1, by omega, by go_num, D7.out⟩
          case measure => simp [intOf]; omega
        | false =>
          obtain rfl : D = [a] := by simpa using hD
          obtain ⟨A5, c5, rfl, -⟩ := n6
          have HB := Lib.hid (HAl.out.2 rfl)
          clear hD HAl
          go_wp2_with fail
          --MARK
          refine HIn.out.mono ?_
          rintro e w7 ⟨rfl, rfl⟩
          rw [HB.out]
          go_wp2_with fail
          refine HGr.out.mono ?_
          rintro e w8 ⟨rfl, g8⟩
          have D7 := Lib.hid (D6.out.under g8)
          clear g8
          go_wp2_with fail
          go_roundw
          case rel => exact ⟨k + 1, by omega, by go_num, D7.out⟩
          case measure => simp [intOf]; omega
      · have hnc := HAl.out.1 hc
        have HB0 := Lib.hid hnc
        clear hnc HAl
        by_cases h2 : 2 ≤ a
        · have h5 : ¬ a ≤ 5 := by omega
          clear hc
          cases g0 with
          | true =>
            obtain rfl : D = [] := by simpa using hD
            obtain ⟨A5, c5, rfl, -⟩ := n6
            have HB := Lib.hid (show C.contains a = false from HB0.out)
            clear hD HB0
            go_wp2_with fail
            refine HIn.out.mono ?_
            rintro e w7 ⟨rfl, rfl⟩
            rw [HB.out]
            go_wp2_with fail
            refine HGr.out.mono ?_
            rintro e w8 ⟨rfl, g8⟩
            have D7 := Lib.hid (D6.out.under g8)
            clear g8
            go_wp2_with fail
            go_roundw
            case rel => exact ⟨k + 1, by omega, by go_num, D7.out⟩
            case measure => simp [intOf]; omega
          | false =>
            obtain rfl : D = [a] := by simpa using hD
            obtain ⟨A5, c5, rfl, -⟩ := n6
            have HB := Lib.hid (show C.contains a = true from HB0.out)
            clear hD HB0
            go_wp2_with fail
            refine HIn.out.mono ?_
            rintro e w7 ⟨rfl, rfl⟩
            rw [HB.out]
            go_wp2_with fail
            refine HGr.out.mono ?_
            rintro e w8 ⟨rfl, g8⟩
            have D7 := Lib.hid (D6.out.under g8)
            clear g8
            go_wp2_with fail
            go_roundw
            case rel => exact ⟨k + 1, by omega, by go_num, D7.out⟩
            case measure => simp [intOf]; omega
        · clear hc
          cases g0 with
          | true =>
            obtain rfl : D = [] := by simpa using hD
            obtain ⟨A5, c5, rfl, -⟩ := n6
            have HB := Lib.hid (show C.contains a = false from HB0.out)
            clear hD HB0
            go_wp2_with fail
            refine HIn.out.mono ?_
            rintro e w7 ⟨rfl, rfl⟩
            rw [HB.out]
            go_wp2_with fail
            refine HGr.out.mono ?_
            rintro e w8 ⟨rfl, g8⟩
            have D7 := Lib.hid (D6.out.under g8)
            clear g8
            go_wp2_with fail
            go_roundw
            case rel => exact ⟨k + 1, by omega, by go_num, D7.out⟩
            case measure => simp [intOf]; omega
          | false =>
            obtain rfl : D = [a] := by simpa using hD
            obtain ⟨A5, c5, rfl, -⟩ := n6
            have HB := Lib.hid (show C.contains a = true from HB0.out)
            clear hD HB0
            go_wp2_with fail
            refine HIn.out.mono ?_
            rintro e w7 ⟨rfl, rfl⟩
            rw [HB.out]
            go_wp2_with fail
            refine HGr.out.mono ?_
            rintro e w8 ⟨rfl, g8⟩
            have D7 := Lib.hid (D6.out.under g8)
            clear g8
            go_wp2_with fail
            go_roundw
            case rel => exact ⟨k + 1, by omega, by go_num, D7.out⟩
            case measure => simp [intOf]; omega
    · have k1 : ¬ (k : Int) < (M.length : Int) := by omega
      have HA := Lib.hid (awake_from wr (HE.out.under hC.below) hC.below)
      clear hC
      go_wp2_with fail
      refine HA.out.mono ?_
      rintro e w11 ⟨rfl, g11⟩
      have D11 := Lib.hid g11
      clear g11 HA
      go_wp2_with fail
      go_ret
      exact ⟨rfl, D11.out⟩
end Go.Proofs.YtngbjccfmglbaaaDoor
