/- The contracts of Validate and Find of the program. -/
import Derived.Test.YthlcpmkjemdhkaaDoorVald
namespace Go.Proofs.YthlcpmkjemdhkaaDoor
open Go.RowKit

theorem any_chk {L : List Elt.R} {e : Int} : (L.any fun r => Elt.chk r.1 r.2 == e) = true ↔ ∃ r ∈ L, Elt.chk r.1 r.2 = e := by
  rw [List.any_eq_true]
  exact ⟨fun ⟨r, h, he⟩ => ⟨r, h, beq_iff_eq.1 he⟩, fun ⟨r, h, he⟩ => ⟨r, h, beq_iff_eq.2 he⟩⟩
set_option maxRecDepth 100000 in
set_option maxHeartbeats 2000000 in
theorem validate_any (v : Value) (L : List Elt.R) (w : World) (hL : RdIn w v L) (hT : Tab w) :
    Calls Tryd.prog 17 #[v] w fun e w' => e = .returned (.int .i64 (Elt.vld L)) ∧ Below w.heap.size w w' := by
  obtain ⟨z, hz⟩ : ∃ z, Elt.vld L = z := ⟨_, rfl⟩
  rw [hz]
  have HZ := Lib.hid hz; clear hz
  have HL := Lib.hid hL
  have HT := Lib.hid hT
  obtain ⟨A, cap, rfl, h1, h2, -⟩ := hL
  clear hT
  have j0 : ∀ w, (Instr.index 70 (.agg #[.int .i64 4, .int .i64 1]) (.int .i64 0)).run Tryd.prog w = .ok (.int .i64 4) w := fun _ => by kernel_rfl
  have j1 : ∀ w, (Instr.index 70 (.agg #[.int .i64 4, .int .i64 1]) (.int .i64 1)).run Tryd.prog w = .ok (.int .i64 1) w := fun _ => by kernel_rfl
  go_enter Tryd.func17, Tryd.ntmps17
  go_wp2_with fail
  go_loopw [7] (fun t wr => Below w.heap.size w wr ∧ (t = .int .i64 0 ∨ (t = .int .i64 1 ∧ Hid (¬ ∃ r ∈ L, Elt.chk r.1 r.2 = 4)) ∨ (t = .int .i64 2 ∧ Hid (¬ ∃ r ∈ L, Elt.chk r.1 r.2 = 4) ∧ Hid (¬ ∃ r ∈ L, Elt.chk r.1 r.2 = 1)))) (fun t _ => 2 - (intOf t).toNat)
  case atStart => exact ⟨Below.refl _ _, .inl rfl⟩
  case round =>
    obtain ⟨hb, hr⟩ := hrel
    have HB := Lib.hid hb; clear hb
    rcases hr with rfl | ⟨rfl, hn⟩ | ⟨rfl, hn, hm⟩
    · have b1 := HB.out.alloc HB.out.size (.cells #[.int .i64 4] 31)
      have r1 := Row.new wr #[.int .i64 4] 31
      go_upto_region 4 with fail
      generalize wr.alloc (.cells #[.int .i64 4] 31) = W1 at *
      generalize wr.heap.size = ge at *
      have c1 : W1.cell? ⟨ge, 0, none⟩ = some (.int .i64 4) := (r1.cell 0).trans rfl
      have HC := Lib.hid (containsFunc_any _ L 4 ge W1 (HL.out.under b1) (HT.out.under b1) r1.lt c1)
      have B1 := Lib.hid b1
      have R1 := Lib.hid r1
      clear b1 r1 c1
      cases ha : (L.any fun r => Elt.chk r.1 r.2 == 4) with
      | true =>
        rw [ha] at HC
        have HV : Hid (z = 4) := Lib.hid (by rw [← HZ.out, Elt.vld_kind (any_chk.1 ha)])
        clear ha
        go_wp2_with fail
        refine HC.out.mono ?_
        rintro e w2 ⟨rfl, g2⟩
        have c2 : w2.cell? ⟨ge, 0, none⟩ = some (.int .i64 4) := ((R1.out.under g2).cell 0).trans rfl
        have B2 := Lib.hid (B1.out.trans (g2.mono B1.out.size)); clear g2
        go_wp2_with fail
        go_ret
        exact ⟨ret_i64 HV.out.symm, B2.out⟩
      | false =>
        rw [ha] at HC
        have HN : Hid (¬ ∃ r ∈ L, Elt.chk r.1 r.2 = 4) := Lib.hid (fun h => by rw [any_chk.2 h] at ha; cases ha)
        clear ha
        go_wp2_with fail
        refine HC.out.mono ?_
        rintro e w2 ⟨rfl, g2⟩
        have B2 := Lib.hid (B1.out.trans (g2.mono B1.out.size)); clear g2
        go_wp2_with fail
        go_roundw
        case rel => exact ⟨B2.out, .inr (.inl ⟨rfl, HN⟩)⟩
        case measure => simp [intOf]
    · have b1 := HB.out.alloc HB.out.size (.cells #[.int .i64 1] 31)
      have r1 := Row.new wr #[.int .i64 1] 31
      go_upto_region 4 with fail
      generalize wr.alloc (.cells #[.int .i64 1] 31) = W1 at *
      generalize wr.heap.size = ge at *
      have c1 : W1.cell? ⟨ge, 0, none⟩ = some (.int .i64 1) := (r1.cell 0).trans rfl
      have HC := Lib.hid (containsFunc_any _ L 1 ge W1 (HL.out.under b1) (HT.out.under b1) r1.lt c1)
      have B1 := Lib.hid b1
      have R1 := Lib.hid r1
      clear b1 r1 c1
      cases ha : (L.any fun r => Elt.chk r.1 r.2 == 1) with
      | true =>
        rw [ha] at HC
        have HV : Hid (z = 1) := Lib.hid (by rw [← HZ.out, Elt.vld_range hn.out (any_chk.1 ha)])
        clear ha
        go_wp2_with fail
        refine HC.out.mono ?_
        rintro e w2 ⟨rfl, g2⟩
        have c2 : w2.cell? ⟨ge, 0, none⟩ = some (.int .i64 1) := ((R1.out.under g2).cell 0).trans rfl
        have B2 := Lib.hid (B1.out.trans (g2.mono B1.out.size)); clear g2
        go_wp2_with fail
        go_ret
        exact ⟨ret_i64 HV.out.symm, B2.out⟩
      | false =>
        rw [ha] at HC
        have HN : Hid (¬ ∃ r ∈ L, Elt.chk r.1 r.2 = 1) := Lib.hid (fun h => by rw [any_chk.2 h] at ha; cases ha)
        clear ha
        go_wp2_with fail
        refine HC.out.mono ?_
        rintro e w2 ⟨rfl, g2⟩
        have B2 := Lib.hid (B1.out.trans (g2.mono B1.out.size)); clear g2
        go_wp2_with fail
        go_roundw
        case rel => exact ⟨B2.out, .inr (.inr ⟨rfl, hn, HN⟩)⟩
        case measure => simp [intOf]
    · have HV := Lib.hid (Elt.vld_sort hn.out hm.out)
      clear hn hm j0 j1
      go_wp2_with fail
      go_loopw [5] (fun t w' => ∃ m : Nat, t = .int .i64 ((m : Int) + 1) ∧ m ≤ L.length ∧ Below w.heap.size w w' ∧ Hid (∀ j, ∀ h : j + 1 < L.length, j < m → (L[j]).1 < (L[j + 1]).1)) (fun t _ => L.length + 2 - (intOf t).toNat)
      case atStart => exact ⟨0, rfl, Nat.zero_le _, HB.out, Lib.hid (fun j h h' => by omega)⟩
      case round =>
        clear HB
        obtain ⟨m, rfl, hml, hb, ha⟩ := hrel
        by_cases hlt : m + 1 < L.length
        · have hR := HL.out.under hb
          obtain ⟨A', cap', e, -, -, hR⟩ := hR
          injection e with e1 e2 e3
          subst e1
          obtain ⟨g, off, rfl, -, c0, c1⟩ := hR m (by omega)
          obtain ⟨g', off', e, -, d0, d1⟩ := hR (m + 1) hlt
          injection e with e
          injection e with e1 e2
          subst e1; subst e2
          have HB := Lib.hid hb; clear hb hR e3
          have k0 : (0 : Int) ≤ (m : Int) := by omega
          have k1 : (m : Int) < (L.length : Int) := by omega
          have k2 : (m : Int) + 1 < (L.length : Int) := by omega
          have k3 : (0 : Int) ≤ (m : Int) + 1 := by omega
          have x1 : IntKind.i64.wrap (m : Int) = (m : Int) := IntWalk.i64_in _ (by omega)
          by_cases hc : (L[m]).1 < (L[m + 1]).1
          · have HA : Hid (∀ j, ∀ h : j + 1 < L.length, j < m + 1 → (L[j]).1 < (L[j + 1]).1) := Lib.hid (fun j h h' => by
              rcases Nat.lt_or_ge j m with q | q
              · exact ha.out j h q
              · obtain rfl : j = m := by omega
                exact hc)
            clear ha
            generalize L[m] = x at *
            generalize L[m + 1] = y at *
            have hc' : ¬ y.1 ≤ x.1 := by omega
            clear hc
            go_wp2_with fail
            go_quiet (fail)
            go_wp2_with fail
            go_roundw
            case rel => exact ⟨m + 1, by go_num, by omega, by first | exact HB.out | exact below_drewN HB.out _, HA⟩
            case measure => simp [intOf]; omega
          · have HV8 : Hid (z = 8) := Lib.hid (by rw [← HZ.out]; exact HV.out.2 (fun h => hc (h m hlt)))
            clear ha
            generalize L[m] = x at *
            generalize L[m + 1] = y at *
            have hc' : y.1 ≤ x.1 := by omega
            clear hc
            go_wp2_with fail
            go_quiet (fail)
            go_wp2_with fail
            go_ret
            exact ⟨ret_i64 HV8.out.symm, by first | exact HB.out | exact below_drewN HB.out _⟩
        · have HV0 : Hid (z = 0) := Lib.hid (by rw [← HZ.out]; exact HV.out.1 (fun j h => ha.out j h (by omega)))
          have k2 : ¬ (m : Int) + 1 < (L.length : Int) := by omega
          have HB := Lib.hid hb; clear hb ha
          go_wp2_with fail
          go_ret
          exact ⟨ret_i64 HV0.out.symm, HB.out⟩
/-- The closure that Find hands over: whether a reading is of this element. -/
theorem pred_find (c : Int) (ge : Nat) (w : World) (hg : ge < w.heap.size) (hcell : w.cell? ⟨ge, 0, none⟩ = some (.int .i64 c)) :
    PredBelow Tryd.prog 36 #[.pointer (some ⟨ge, 0, none⟩)] (fun x : Elt.R => .agg (encR x).toArray) (fun r => r.1 == c) w := fun W x hb => by
  have hcW : W.cell? ⟨ge, 0, none⟩ = some (.int .i64 c) := (hb.cell (p := ⟨ge, 0, none⟩) hg).trans hcell
  have hgW : ge < W.heap.size := Nat.lt_of_lt_of_le hg hb.size
  obtain ⟨a, b⟩ := x
  show Calls Tryd.prog 36 #[.agg #[.int .i64 a, .int .i64 b], .pointer (some ⟨ge, 0, none⟩)] W _
  have b1 : Below W.heap.size W (W.alloc (.cells #[.int .i64 a, .int .i64 b] 47)) := (Below.refl _ _).alloc (Nat.le_refl _) _
  have r1 := Row.new W #[.int .i64 a, .int .i64 b] 47
  have hc1 := (b1.cell (p := ⟨ge, 0, none⟩) hgW).trans hcW
  have HB := Lib.hid (hb.trans (b1.mono hb.size))
  obtain ⟨p0, p1⟩ := row2 r1
  clear hcW hcell hb
  go_enter Tryd.func36, Tryd.ntmps36
  go_upto_region 1 with fail
  generalize W.alloc (.cells #[.int .i64 a, .int .i64 b] 47) = W1 at *
  generalize W.heap.size = gb at *
  clear r1 b1
  go_wp2_with fail
  go_ret
  exact ⟨rfl, HB.out⟩
theorem indexFunc_any (v : Value) (L : List Elt.R) (c : Int) (ge : Nat) (w : World) (hL : RdIn w v L) (hg : ge < w.heap.size) (hcell : w.cell? ⟨ge, 0, none⟩ = some (.int .i64 c)) :
    Calls Tryd.prog 35 #[v, .func (.func 36) #[] #[.pointer (some ⟨ge, 0, none⟩)]] w fun e' w' => (∃ z, e' = .returned (.int .i64 z) ∧ ((z = -1 ∧ Elt.fnd L c = none) ∨ ∃ k : Nat, ∃ h : k < L.length, z = k ∧ Elt.fnd L c = some (L[k]).2)) ∧ Below w.heap.size w w' := by
  by_cases hp : 0 < L.length
  · obtain ⟨g, off, cap, rfl, h1, h2, hgl, hc⟩ := hL.one hp
    have eg : ∀ args w, (callFunc 36 args).run Tryd.prog w = .ok (.enter 36 args) w := enters_of Tryd.func36 (by kernel_rfl) rfl
    have := AnyQ.slices_IndexFunc Tryd.lIdx 2 agg47 size47 encR encR_len (fun r => r.1 == c) 36 #[.pointer (some ⟨ge, 0, none⟩)] eg g off L.length cap L w (pred_find c ge w hg hcell) (Nat.le_refl _) (by omega) hgl (enc_cells hc)
    refine Calls.mono this fun e' w' ⟨he, hb⟩ => ⟨?_, hb⟩
    rcases least (L := L) (fun r => r.1 == c) with hn | ⟨k, hk, k1, k2⟩
    · refine ⟨-1, by rw [he, Lib.idxBy_miss _ _ _ _ (fun j hj => by rw [getE hj]; exact hn j hj)], .inl ⟨rfl, ?_⟩⟩
      unfold Elt.fnd
      have hf : L.find? (fun r => r.1 == c) = none := List.find?_eq_none.2 (fun r hr => by
        obtain ⟨i, hi, rfl⟩ := List.getElem_of_mem hr
        rw [hn i hi]; decide)
      rw [hf]; rfl
    · refine ⟨k, by rw [he, Lib.idxBy_hit _ _ _ _ _ hk (Nat.le_refl _) (by rw [getE hk]; exact k1) (fun j hj => by rw [getE (by omega)]; exact k2 j (by omega) hj)], .inr ⟨k, hk, rfl, ?_⟩⟩
      unfold Elt.fnd
      have hf : L.find? (fun r => r.1 == c) = some L[k] := List.find?_eq_some_iff_getElem.2 ⟨k1, k, hk, rfl, fun j hj => by rw [k2 j (by omega) hj]; rfl⟩
      rw [hf]; rfl
  · obtain rfl : L = [] := List.eq_nil_of_length_eq_zero (by omega)
    obtain ⟨A, cap, rfl, -⟩ := hL
    exact (index_nil A cap _ _ w).mono fun e' w' ⟨he, hw⟩ => ⟨⟨-1, he, .inl ⟨rfl, rfl⟩⟩, hw ▸ Below.refl _ _⟩
/-- What Find answers. -/
def FndR (w : World) (L : List Elt.R) (c : Int) (e : Ending) (w' : World) : Prop := e = .returned (.tuple #[.int .i64 ((Elt.fnd L c).getD 0), .bool (Elt.fnd L c).isSome]) ∧ Below w.heap.size w w'
set_option maxHeartbeats 1000000 in
theorem find_any (v : Value) (L : List Elt.R) (c : Int) (w : World) (hL : RdIn w v L) :
    Calls Tryd.prog 15 #[v, .int .i64 c] w (FndR w L c) := by
  have b1 : Below w.heap.size w (w.alloc (.cells #[.int .i64 c] 3)) := (Below.refl _ _).alloc (Nat.le_refl _) _
  have r1 := Row.new w #[.int .i64 c] 3
  have hL1 := hL.under b1
  have HI := Lib.hid (indexFunc_any v L c w.heap.size _ hL1 r1.lt ((r1.cell 0).trans rfl))
  obtain ⟨A, cap, rfl, h1, h2, -⟩ := id hL
  have HL := Lib.hid hL1
  clear hL hL1 r1
  go_enter Tryd.func15, Tryd.ntmps15
  go_upto_region 1 with fail
  generalize w.alloc (.cells #[.int .i64 c] 3) = W1 at *
  go_wp2_with fail
  refine HI.out.mono ?_
  rintro e w2 ⟨⟨z, rfl, hz⟩, g2⟩
  have B2 := Lib.hid (b1.trans (g2.mono b1.size))
  have L2 := HL.out.under g2
  clear g2 b1 HI
  rcases hz with ⟨rfl, hf⟩ | ⟨k, hk, rfl, hf⟩
  · have HF := Lib.hid hf; clear hf L2
    go_wp2_with fail
    go_ret2
    exact ⟨by rw [HF.out]; rfl, B2.out⟩
  · obtain ⟨A', cap', e, -, -, hR⟩ := L2
    injection e with e1 e2 e3
    subst e1
    obtain ⟨g, off, rfl, -, c0, c1⟩ := hR k hk
    have HF := Lib.hid hf; clear hf hR e3
    have k0 : (0 : Int) ≤ (k : Int) := by omega
    have k1 : (k : Int) < (L.length : Int) := by omega
    have k2 : ¬ (k : Int) < 0 := by omega
    generalize L[k] = x at *
    go_wp2_with fail
    go_ret2
    exact ⟨by rw [HF.out]; rfl, B2.out⟩
end Go.Proofs.YthlcpmkjemdhkaaDoor
