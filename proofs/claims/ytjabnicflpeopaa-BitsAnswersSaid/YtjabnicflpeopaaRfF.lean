/- The contract of the reference's Pad. -/
import Derived.Test.YtjabnicflpeopaaRfE
namespace Go.Proofs.Ytjabnicflpeopaa
open Go.RowKit

theorem u8I : Try.prog.info? 5 = some Try.t5 := by kernel_rfl
theorem u8Z : (Try.t5).zero = some (.int .u8 0) := by kernel_rfl
theorem u8S : (Try.t5).size = 1 := by kernel_rfl
theorem u8B : (Try.t5).bytes = 1 := by kernel_rfl
theorem own_bys {w : World} {base : Nat} {v : Value} {L : List Nat} (h : w.ownsRow base 5 1 v L.length (byc L)) (hb : ∀ x ∈ L, x < 256) : ∃ A c, v = .slice A L.length c ∧ Bys w A c L := by
  rcases h.2 with ⟨rfl, hn⟩ | ⟨g, cap, cur, rfl, hbg, hg, hnc, hcm, hcs, htake⟩
  · have hX : L = [] := List.eq_nil_of_length_eq_zero hn
    subst hX
    exact ⟨none, 0, rfl, Bys.none w⟩
  · refine ⟨some ⟨g, 0, none⟩, cap, rfl, hnc, by unfold maxLen at hcm; exact hcm, fun e => by (cases e), hb, fun i hi => ⟨g, 0, rfl, ?_, ?_⟩⟩
    · rcases Nat.lt_or_ge g w.heap.size with q | q
      · exact q
      · rw [Array.getElem?_eq_none q] at hg; cases hg
    · rw [Nat.zero_add, World.ownsRow.cellAt h i (by omega)]
      exact byc_at hi
/-- Bytes appended to a new list of none. -/
theorem append_bytes (w : World) (g : Nat) (A : Option Addr) (c : Nat) (L : List Nat) (ty : TypeId) (h : w.ownsRow g 5 1 (.slice (some ⟨g, 0, none⟩) 0 0) 0 []) (k : Bys w A c L) (hg : g ≤ w.heap.size) (hl : L.length ≤ 1000000) :
    ∃ v' w', (Builtin.append_ #[22, 22] ty #[.slice (some ⟨g, 0, none⟩) 0 0, .slice A L.length c]).run Try.prog w = .ok v' w' ∧ w'.ownsRow g 5 1 v' L.length (byc L) ∧ w.grownBy w' (some g) := by
  by_cases h0 : 0 < L.length
  · obtain ⟨bk, off, rfl, hlt, hc⟩ := k.addr h0
    obtain ⟨v', w', hr, h2, h3, -⟩ := run_append_own (P := Try.prog) w g 22 ty 5 Try.t5 _ 1 1 Try.underlying22 u8I u8Z u8S u8B rfl (by decide) _ 0 [] h ⟨bk, off, none⟩ L.length c (byc L) (by rw [byc_len]; omega)
      (fun j u hj => by
        rw [Addr.add_lit]
        have hjl : j < L.length := by rw [← byc_len L]; exact (List.getElem?_eq_some_iff.1 hj).1
        rw [byc_at hjl] at hj
        injection hj with hj
        rw [← hj]
        exact hc j hjl) (byc_one L) (by unfold maxLen; omega) (by omega) hg
    rw [Nat.zero_add, List.nil_append] at h2
    exact ⟨v', w', hr, h2, h3⟩
  · obtain rfl : L = [] := List.eq_nil_of_length_eq_zero (by omega)
    cases A with
    | none =>
      obtain ⟨-, rfl⟩ := k.2.2.1 rfl
      exact ⟨_, w, run_append_owned_none w g _ ty 5 Try.t5 1 Try.underlying22 u8I _ 0 [] h, h, grown_refl _ _⟩
    | some ad =>
      obtain ⟨v', w', hr, h2, h3, -⟩ := run_append_own (P := Try.prog) w g 22 ty 5 Try.t5 _ 1 1 Try.underlying22 u8I u8Z u8S u8B rfl (by decide) _ 0 [] h ad 0 c [] (by simp) (fun j u hj => by simp at hj) (fun u hu => by cases hu) (by unfold maxLen; omega) (by omega) hg
      exact ⟨v', w', hr, h2, h3⟩
set_option maxHeartbeats 1000000 in
theorem refPad_state (w : World) (A : Option Addr) (c : Nat) (L : List Nat) (n : Int) (h : Bys w A c L) (hn0 : -9223372036854775808 ≤ n) (hn1 : n ≤ 9223372036854775807) (hv : vb L n = false) :
    Calls Try.prog 21 #[btV A c L n] w (Gives (padA L n) w) := by
  have E : Hid (padA L n = noAns 7) := Lib.hid (by unfold padA; rw [if_pos hv])
  have HV := Lib.hid hv
  clear hv
  have HA : Hid (Below w.heap.size w ((w.alloc (.cells #[.slice A L.length c, .int .i64 n] 24)).alloc (.cells #[.slice none 0 0, .int .i64 0] 24))) := Lib.hid (((Below.refl _ _).alloc (Nat.le_refl _) _).alloc (by simp) _)
  have H := Lib.hid h
  clear h
  go_enter Try.func21, Try.ntmps21
  go_wp2_with fail
  refine (refValid_any _ A c L n (H.out.under HA.out) hn0 hn1).mono ?_
  rw [HV.out]
  rintro e w1 ⟨rfl, hb⟩
  have r0 : Row w1 w.heap.size 24 #[.slice A L.length c, .int .i64 n] := (Row.alloc (Row.new _ _ _) _).under hb
  have r1 : Row w1 (w.heap.size + 1) 24 #[.slice none 0 0, .int .i64 0] := (Row.newAt (by simp)).under hb
  have HB : Hid (Below w.heap.size w w1) := Lib.hid (HA.out.trans (hb.mono HA.out.size))
  have e1 : Hid (w.heap.size ≤ w.heap.size + 1) := Lib.hid (by omega)
  have e2 : Hid (w.heap.size ≠ w.heap.size + 1) := Lib.hid (by omega)
  clear hb HA
  generalize w.heap.size + 1 = g1 at r1 e1 e2 ⊢
  generalize hG : w.heap.size = g0 at r0 e1 e2 HB ⊢
  have G0 := Lib.hid hG
  clear hG
  obtain ⟨p0, p1⟩ := row2 r0
  obtain ⟨q0, q1⟩ := row2 r1
  have f0 := r1.thaw 0
  have f1 := r1.thaw 1
  have R0 := Lib.hid r0
  have R1 := Lib.hid r1
  clear r0 r1
  go_wp2
  have zr := set2_row (.slice none 0 0) (.int .i64 0) R1.out
  have zb := set2_below (u0 := .slice none 0 0) (u1 := .int .i64 0) HB.out e1.out
  clear p0 p1 q0 q1 f0 f1 R1 R0 HB
  generalize (w1.setCell ⟨g1, 0, none⟩ (.slice none 0 0)).setCell ⟨g1, 1, none⟩ (.int .i64 0) = V at zr zb ⊢
  obtain ⟨k0, k1⟩ := row2 zr
  have ZB := Lib.hid zb
  clear zr zb
  exact bodyPost_ret (v := .tuple #[.agg #[.slice none 0 0, .int .i64 0], .int .i64 7]) (by simp [results, Try.results21, go_sem, k0, k1]) rfl (by rw [E.out]; exact ⟨none, 0, rfl, Bys.none _, by rw [G0.out]; exact ZB.out⟩)
set_option maxHeartbeats 2000000 in
theorem refPad_yes (w : World) (A : Option Addr) (c : Nat) (L : List Nat) (n : Int) (h : Bys w A c L) (hn0 : -9223372036854775808 ≤ n) (hn1 : n ≤ 9223372036854775807) (hv : vb L n = true) :
    Calls Try.prog 21 #[btV A c L n] w (Gives (padA L n) w) := by
  have E : Hid (padA L n = ⟨L, (L.length : Int) * 8, 0⟩) := Lib.hid (by unfold padA; rw [if_neg (by simp [hv]), pack_whole h.2.2.2.1])
  have HV := Lib.hid hv
  have VD := vb_is hv
  obtain ⟨N, rfl⟩ := Int.eq_ofNat_of_zero_le VD.1
  have hLn : L.length = (N + 7) / 8 := by have := VD.2.2.1; simpa using this
  have hN : N ≤ 40000 := by have := VD.2.1; omega
  have j2 : 8 * (L.length : Int) ≤ 40000 := by omega
  have j3 : L.length ≤ 5000 := by omega
  have HLb := Lib.hid h.2.2.2.1
  clear hv VD hLn hN
  have HA : Hid (Below w.heap.size w ((w.alloc (.cells #[.slice A L.length c, .int .i64 (N : Int)] 24)).alloc (.cells #[.slice none 0 0, .int .i64 0] 24))) := Lib.hid (((Below.refl _ _).alloc (Nat.le_refl _) _).alloc (by simp) _)
  have H := Lib.hid h
  clear h
  go_enter Try.func21, Try.ntmps21
  go_wp2_with fail
  refine (refValid_any _ A c L N (H.out.under HA.out) hn0 hn1).mono ?_
  rw [HV.out]
  rintro e w1 ⟨rfl, hb⟩
  have r0 : Row w1 w.heap.size 24 #[.slice A L.length c, .int .i64 (N : Int)] := (Row.alloc (Row.new _ _ _) _).under hb
  have r1 : Row w1 (w.heap.size + 1) 24 #[.slice none 0 0, .int .i64 0] := (Row.newAt (by simp)).under hb
  have HB : Hid (Below w.heap.size w w1) := Lib.hid (HA.out.trans (hb.mono HA.out.size))
  have e1 : Hid (w.heap.size ≤ w.heap.size + 1) := Lib.hid (by omega)
  have e2 : Hid (w.heap.size ≠ w.heap.size + 1) := Lib.hid (by omega)
  clear hb HA
  generalize w.heap.size + 1 = g1 at r1 e1 e2 ⊢
  generalize hG : w.heap.size = g0 at r0 e1 e2 HB ⊢
  have G0 := Lib.hid hG
  clear hG
  obtain ⟨p0, p1⟩ := row2 r0
  obtain ⟨q0, q1⟩ := row2 r1
  have f0 := r1.thaw 0
  have f1 := r1.thaw 1
  have R0 := Lib.hid r0
  have R1 := Lib.hid r1
  clear r0 r1
  have HX : Hid (Bys w1 A c L) := Lib.hid (H.out.under (by rw [G0.out]; exact HB.out))
  go_upto_region 5 with fail
  refine wp_region_held_drew (S := fun Y : World => (Y.cell? ⟨g0, 0, none⟩ = some (.slice A L.length c) ∧ Y.cell? ⟨g0, 1, none⟩ = some (.int .i64 (N : Int)))) (by kernel_rfl) ⟨p0, p1⟩ (fun hHeld => ?_)
  clear p0 p1 q0 q1 f0 f1
  have x1 : IntKind.i64.wrap (8 * (L.length : Int)) = 8 * (L.length : Int) := IntWalk.i64_in _ ⟨by omega, by omega⟩
  refine wpAnyH_take (i := 1) (oi := ⟨some 15, _, _, _, _, none⟩) (v := ?_) rfl (by kernel_rfl) (by kernel_rfl) (by kernel_rfl) (fun _ _ _ h => h) (Or.inl ⟨by rfl, ?_⟩) (by assumption) ?_
  case refine_2 => (intro wx hSx; (try dsimp only at hSx); go_simp; first | done | with_reducible rfl)
  try simp only [Act.put, List.setIfInBounds_toArray, List.set_cons_zero, List.set_cons_succ]
  refine wpAnyH_take (i := 2) (oi := ⟨some 16, _, _, _, _, none⟩) (v := ?_) rfl (by kernel_rfl) (by kernel_rfl) (by kernel_rfl) (fun _ _ _ h => h) (Or.inl ⟨by rfl, ?_⟩) (by assumption) ?_
  case refine_2 => (intro wx hSx; (try dsimp only at hSx); go_simp; first | done | with_reducible rfl)
  try simp only [Act.put, List.setIfInBounds_toArray, List.set_cons_zero, List.set_cons_succ]
  refine wpAnyH_take (i := 4) (oi := ⟨some 18, _, _, _, _, none⟩) (v := ?_) rfl (by kernel_rfl) (by kernel_rfl) (by kernel_rfl) (fun _ _ _ h => h) (Or.inl ⟨by rfl, ?_⟩) (by assumption) ?_
  case refine_2 => (intro wx hSx; (try dsimp only at hSx); go_simp; first | done | with_reducible rfl)
  try simp only [Act.put, List.setIfInBounds_toArray, List.set_cons_zero, List.set_cons_succ]
  refine wpAnyH_take (i := 5) (oi := ⟨some 19, _, _, _, _, none⟩) (v := ?_) rfl (by kernel_rfl) (by kernel_rfl) (by kernel_rfl) (fun _ _ _ h => h) (Or.inl ⟨by rfl, ?_⟩) (by assumption) ?_
  case refine_2 => (intro wx hSx; (try dsimp only at hSx); go_simp; first | done | with_reducible rfl)
  try simp only [Act.put, List.setIfInBounds_toArray, List.set_cons_zero, List.set_cons_succ]
  refine wpAnyH_take (i := 6) (oi := ⟨some 20, _, _, _, _, none⟩) (v := ?_) rfl (by kernel_rfl) (by kernel_rfl) (by kernel_rfl) (fun _ _ _ h => h) (Or.inl ⟨by rfl, ?_⟩) (by assumption) ?_
  case refine_2 => (intro wx hSx; (try dsimp only at hSx); go_simp; first | done | with_reducible rfl)
  try simp only [Act.put, List.setIfInBounds_toArray, List.set_cons_zero, List.set_cons_succ]
  refine wpAnyH_take (i := 7) (oi := ⟨some 21, _, _, _, _, none⟩) (v := ?_) rfl (by kernel_rfl) (by kernel_rfl) (by kernel_rfl) (fun _ _ _ h => h) (Or.inl ⟨by rfl, ?_⟩) (by assumption) ?_
  case refine_2 => (intro wx hSx; (try dsimp only at hSx); go_simp; first | done | with_reducible rfl)
  try simp only [Act.put, List.setIfInBounds_toArray, List.set_cons_zero, List.set_cons_succ]
  clear x1
  refine wpAnyH_ready (rs := [0]) (by kernel_rfl) (by simp) ?_
  refine AllReadyH.cons (o := ⟨some 14, _, _, _, _, none⟩) rfl (fun Kx hK => ?_) AllReadyH.nil
  go_simp
  have hb2 : Below w1.heap.size w1 ((w1.alloc (.cells #[] 5)).drew) := ((Below.refl _ _).alloc (Nat.le_refl _) _).drew
  have ho2 : ((w1.alloc (.cells #[] 5)).drew).ownsRow w1.heap.size 5 1 (.slice (some ⟨w1.heap.size, 0, none⟩) 0 0) 0 [] := (World.ownsRow_lit w1 #[] 0 (Nat.le_refl _) (Nat.zero_le _) rfl).drew
  obtain ⟨v2, w3, kc, hO, hg3⟩ := append_bytes _ w1.heap.size A c L 22 ho2 (HX.out.under hb2) hb2.size (by omega)
  obtain ⟨A2, c2, e2', hP⟩ := own_bys hO HLb.out
  subst e2'
  have B3 : Hid (Below w1.heap.size w1 w3) := Lib.hid (below_grown hb2 hg3 (Nat.le_refl _) hb2.size)
  have HP := Lib.hid hP
  have Q3 := Lib.hid (show Row w3 g0 24 _ ∧ Row w3 g1 24 _ ∧ Below g0 w w3 from ⟨R0.out.under B3.out, R1.out.under B3.out, HB.out.trans (B3.out.mono (by have := HB.out.size; have := G0.out; omega))⟩)
  refine hK.out _ _ (row2 (R0.out.under hb2)) (fun hHeld => ?_)
  clear hK Kx hb2 ho2 hO hg3 hP B3
  try simp only [Act.put, List.setIfInBounds_toArray, List.set_cons_zero, List.set_cons_succ]
  refine wpAnyH_ready (rs := [3]) (by kernel_rfl) (by simp) ?_
  refine AllReadyH.cons (o := ⟨some 17, _, _, _, _, none⟩) rfl (fun Kx hK => ?_) AllReadyH.nil
  refine step_append_run rfl (.tmp 14) (.tmp 16) 22 rfl _ _ rfl rfl kc ?_
  clear kc
  refine hK.out _ _ (row2 Q3.out.1) (fun hHeld2 => ?_)
  clear hK Kx hHeld R0 R1 HB
  have hHeld := hHeld2
  clear hHeld2
  try simp only [Act.put, List.setIfInBounds_toArray, List.set_cons_zero, List.set_cons_succ]
  refine wpAnyH_take (i := 8) (oi := ⟨some 22, _, _, _, _, none⟩) (v := ?_) rfl (by kernel_rfl) (by kernel_rfl) (by kernel_rfl) (fun _ _ _ h => h) (Or.inl ⟨by rfl, ?_⟩) (by assumption) ?_
  case refine_2 => (intro wx hSx; (try dsimp only at hSx); go_simp; first | done | with_reducible rfl)
  try simp only [Act.put, List.setIfInBounds_toArray, List.set_cons_zero, List.set_cons_succ]
  obtain ⟨q0, q1⟩ := row2 Q3.out.2.1
  have f0 := Q3.out.2.1.thaw 0
  have f1 := Q3.out.2.1.thaw 1
  refine wpAnyH_ready (rs := [9]) (by kernel_rfl) (by simp) ?_
  refine AllReadyH.cons rfl (fun Kx hK => ?_) AllReadyH.nil
  go_simp
  have zr := set2_row (.slice A2 L.length c2) (.int .i64 (8 * (L.length : Int))) Q3.out.2.1
  have zb := set2_below (u0 := .slice A2 L.length c2) (u1 := .int .i64 (8 * (L.length : Int))) Q3.out.2.2 e1.out
  have zp : Bys ((w3.setCell ⟨g1, 0, none⟩ (.slice A2 L.length c2)).setCell ⟨g1, 1, none⟩ (.int .i64 (8 * (L.length : Int)))) A2 c2 L := Bys.far (j := 1) (Bys.far (j := 0) HP.out Q3.out.2.1) (Row.put Q3.out.2.1 0 _ : Row _ _ _ #[.slice A2 L.length c2, .int .i64 0])
  have za : Row ((w3.setCell ⟨g1, 0, none⟩ (.slice A2 L.length c2)).setCell ⟨g1, 1, none⟩ (.int .i64 (8 * (L.length : Int)))) g0 24 _ := Row.far (p := ⟨g1, 1, none⟩) (Row.far (p := ⟨g1, 0, none⟩) Q3.out.1 (fun e => e2.out e.symm) _) (fun e => e2.out e.symm) _
  clear q0 q1 f0 f1 hHeld Q3 HP
  generalize (w3.setCell ⟨g1, 0, none⟩ (.slice A2 L.length c2)).setCell ⟨g1, 1, none⟩ (.int .i64 (8 * (L.length : Int))) = V9 at zr zb zp za ⊢
  have ZR := Lib.hid zr
  have ZB := Lib.hid zb
  have ZP := Lib.hid zp
  refine hK.out _ _ (row2 za) (fun hHeld => ?_)
  clear hK Kx zr zb zp za
  try simp only [Act.put, List.setIfInBounds_toArray, List.set_cons_zero, List.set_cons_succ]
  refine wpAnyH_take (i := 10) (oi := ⟨some 3, _, _, _, _, none⟩) (v := ?_) rfl (by kernel_rfl) (by kernel_rfl) (by kernel_rfl) (fun _ _ _ h => h) (Or.inl ⟨by rfl, ?_⟩) (by assumption) ?_
  case refine_2 => (intro wx hSx; (try dsimp only at hSx); go_simp; first | done | with_reducible rfl)
  try simp only [Act.put, List.setIfInBounds_toArray, List.set_cons_zero, List.set_cons_succ]
  refine wpAnyH_done (by kernel_rfl) ?_ _
  clear hHeld
  go_wp2_with fail
  obtain ⟨k7, k8⟩ := row2 ZR.out
  exact bodyPost_ret (v := .tuple #[.agg #[.slice A2 L.length c2, .int .i64 (8 * (L.length : Int))], .int .i64 0]) (by simp [results, Try.results21, go_sem, k7, k8]) rfl (by rw [E.out]; exact ⟨A2, c2, by rw [btV, Int.mul_comm], ZP.out, by rw [G0.out]; exact ZB.out⟩)
theorem refPad_any (w : World) (A : Option Addr) (c : Nat) (L : List Nat) (n : Int) (h : Bys w A c L) (hn0 : -9223372036854775808 ≤ n) (hn1 : n ≤ 9223372036854775807) :
    Calls Try.prog 21 #[btV A c L n] w (Gives (padA L n) w) := by
  by_cases hv : vb L n = true
  · exact refPad_yes w A c L n h hn0 hn1 hv
  · exact refPad_state w A c L n h hn0 hn1 (by simpa using hv)
end Go.Proofs.Ytjabnicflpeopaa
