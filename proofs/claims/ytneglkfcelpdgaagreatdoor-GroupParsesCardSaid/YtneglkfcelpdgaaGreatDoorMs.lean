/- The contract of Validate of the program.; The contracts of Validate and Find of the program.; The contract of Without of the program.; The contract of the reference's List: valid readings of some elements, ascending. -/
import Derived.Test.YtneglkfcelpdgaaGreatDoorMr
namespace Go.Proofs.YtneglkfcelpdgaaGreatDoor.El
open Go.RowKit

/-- The closure that Validate hands over: whether a reading has this error. -/
theorem pred_check (e : Int) (ge : Nat) (w : World) (hT : Tab w) (hg : ge < w.heap.size) (hcell : w.cell? ⟨ge, 0, none⟩ = some (.int .i64 e)) :
    PredBelow Tryz.prog 88 #[.pointer (some ⟨ge, 0, none⟩)] (fun x : Elt.R => .agg (encR x).toArray) (fun r => Elt.chk r.1 r.2 == e) w := fun W x hb => by
  have hcW : W.cell? ⟨ge, 0, none⟩ = some (.int .i64 e) := (hb.cell (p := ⟨ge, 0, none⟩) hg).trans hcell
  have hgW : ge < W.heap.size := Nat.lt_of_lt_of_le hg hb.size
  have hTW := hT.under hb
  obtain ⟨a, b⟩ := x
  show Calls Tryz.prog 88 #[.agg #[.int .i64 a, .int .i64 b], .pointer (some ⟨ge, 0, none⟩)] W _
  have b1 : Below W.heap.size W (W.alloc (.cells #[.int .i64 a, .int .i64 b] 63)) := (Below.refl _ _).alloc (Nat.le_refl _) _
  have r1 := Row.new W #[.int .i64 a, .int .i64 b] 63
  have hT1 := hTW.under b1
  have hc1 := (b1.cell (p := ⟨ge, 0, none⟩) hgW).trans hcW
  have HB := Lib.hid (hb.trans (b1.mono hb.size))
  obtain ⟨p0, p1⟩ := row2 r1
  have HK := Lib.hid (fun W (hW : Tab W) => check_any a b W hW)
  have hs1 : ge < (W.alloc (.cells #[.int .i64 a, .int .i64 b] 63)).heap.size := Nat.lt_of_lt_of_le hgW b1.size
  clear hcW hTW hT hcell hb
  go_enter Tryz.func88, Tryz.ntmps88
  go_upto_region 1 with fail
  generalize W.alloc (.cells #[.int .i64 a, .int .i64 b] 63) = W1 at *
  generalize W.heap.size = gb at *
  have R1 := Lib.hid r1
  have T1 := Lib.hid hT1
  clear r1 hT1 b1
  refine wp_region_held_drew (S := fun w' : World => w'.cell? ⟨gb, 0, none⟩ = some (.int .i64 a) ∧ w'.cell? ⟨gb, 1, none⟩ = some (.int .i64 b) ∧ w'.cell? ⟨ge, 0, none⟩ = some (.int .i64 e)) (by kernel_rfl) ⟨p0, p1, hc1⟩ (fun hHeld => ?_)
  refine wpAnyH_take (i := 0) (oi := ⟨some 4, _, _, _, _, none⟩) (v := ?_) rfl (by kernel_rfl) (by kernel_rfl) (by kernel_rfl) (fun _ _ _ h => h) (Or.inl ⟨by rfl, ?_⟩) (by assumption) ?_
  case refine_2 => (intro wx hSx; (try dsimp only at hSx); go_simp; first | done | with_reducible rfl)
  try simp only [Act.put]
  refine wpAnyH_take (i := 2) (oi := ⟨some 6, _, _, _, _, none⟩) (v := ?_) rfl (by kernel_rfl) (by kernel_rfl) (by kernel_rfl) (fun _ _ _ h => h) (Or.inl ⟨by rfl, ?_⟩) (by assumption) ?_
  case refine_2 => (intro wx hSx; (try dsimp only at hSx); go_simp; first | done | with_reducible rfl)
  try simp only [Act.put]
  refine wpAnyH_ready (rs := [1]) (by kernel_rfl) (by simp) ?_
  refine AllReadyH.cons rfl (fun K hK => ?_) AllReadyH.nil
  go_simp
  have hTd : Tab W1.drew := T1.out
  refine (HK.out _ hTd).mono ?_
  rintro e' w3 ⟨rfl, g3⟩
  have G3 : Hid (Below W1.heap.size W1 w3) := Lib.hid (undrew g3)
  clear g3
  have SS := row2 (R1.out.under G3.out)
  have SC := (G3.out.cell (p := ⟨ge, 0, none⟩) hs1).trans hc1
  go_wp2_with fail
  refine hK.out _ _ ⟨SS.1, SS.2, SC⟩ (fun hHeld2 => ?_)
  clear hK K hHeld SS SC
  try simp only [Act.put]
  refine wpAnyH_take (i := 3) (oi := ⟨some 7, _, _, _, _, none⟩) (v := ?_) rfl (by kernel_rfl) (by kernel_rfl) (by kernel_rfl) (fun _ _ _ h => h) (Or.inl ⟨by rfl, ?_⟩) (by assumption) ?_
  case refine_2 => (intro wx hSx; (try dsimp only at hSx); go_simp; first | done | with_reducible rfl)
  try simp only [Act.put]
  refine wpAnyH_take (i := 4) (oi := ⟨some 3, _, _, _, _, none⟩) (v := ?_) rfl (by kernel_rfl) (by kernel_rfl) (by kernel_rfl) (fun _ _ _ h => h) (Or.inl ⟨by rfl, ?_⟩) (by assumption) ?_
  case refine_2 => (intro wx hSx; (try dsimp only at hSx); go_simp; first | done | with_reducible rfl)
  try simp only [Act.put]
  refine wpAnyH_done (by kernel_rfl) ?_ _
  go_wp2_with fail
  go_ret
  exact ⟨rfl, HB.out.trans (G3.out.mono HB.out.size)⟩
theorem agg47 : ∀ w, (isAgg 63).run Tryz.prog w = .ok true w := Tryz.isAgg63
theorem size47 : ∀ w, (Go.sizeOf 63).run Tryz.prog w = .ok 2 w := Tryz.sizeOf63
set_option maxHeartbeats 1000000 in
theorem index_nil (A : Option Addr) (cap g : Nat) (lb : Array Value) (w : World) :
    Calls Tryz.prog 122 #[.slice A 0 cap, .func (.func g) #[] lb] w fun e w' => e = .returned (.int .i64 (-1)) ∧ w = w' := by
  go_enter Tryz.func122, Tryz.ntmps122
  go_wp2_with fail
  go_loop [5, 8] (fun _ t => t = .int .i64 0) (fun _ _ => 0)
  case atStart => rfl
  case round =>
    subst hrel
    go_wp2_with fail
    go_ret
    exact ⟨rfl, rfl⟩
theorem least {L : List Elt.R} (p : Elt.R → Bool) : (∀ j (h : j < L.length), p L[j] = false) ∨ ∃ k, ∃ h : k < L.length, p L[k] = true ∧ ∀ j (hj : j < L.length), j < k → p L[j] = false := by
  induction L with
  | nil => exact .inl (fun j h => by simp at h)
  | cons x r ih =>
    by_cases hx : p x = true
    · exact .inr ⟨0, by simp, hx, fun j _ h => by omega⟩
    · have hx' : p x = false := by simpa using hx
      rcases ih with h | ⟨k, hk, h1, h2⟩
      · refine .inl (fun j hj => ?_)
        cases j with
        | zero => exact hx'
        | succ j => exact h j (by simpa using hj)
      · refine .inr ⟨k + 1, by simpa using hk, h1, fun j hj hlt => ?_⟩
        cases j with
        | zero => exact hx'
        | succ j => exact h2 j (by simpa using hj) (by omega)
theorem getE {L : List Elt.R} {j : Nat} (h : j < L.length) : L[j]! = L[j] := by
  rw [List.getElem!_eq_getElem?_getD, List.getElem?_eq_getElem h]; rfl
theorem encR_len (x : Elt.R) : (encR x).length = 2 := rfl
theorem enc_cells {w : World} {g off : Nat} {L : List Elt.R} (hc : ∀ i (h : i < L.length), w.cell? ⟨g, off + i * 2, none⟩ = some (.int .i64 (L[i]).1) ∧ w.cell? ⟨g, off + i * 2 + 1, none⟩ = some (.int .i64 (L[i]).2)) :
    ∀ j, j < L.length → ∀ i v, (encR L[j]!)[i]? = some v → w.cell? ⟨g, off + j * 2 + i, none⟩ = some v := by
  intro j hj i v hv
  rw [getE hj] at hv
  obtain ⟨c0, c1⟩ := hc j hj
  match i, hv with
  | 0, hv => simp [encR] at hv; rw [← hv]; exact c0
  | 1, hv => simp [encR] at hv; rw [← hv]; exact c1
  | i + 2, hv => simp [encR] at hv
theorem containsFunc_any (v : Value) (L : List Elt.R) (e : Int) (ge : Nat) (w : World) (hL : RdIn w v L) (hT : Tab w) (hg : ge < w.heap.size) (hcell : w.cell? ⟨ge, 0, none⟩ = some (.int .i64 e)) :
    Calls Tryz.prog 87 #[v, .func (.func 88) #[] #[.pointer (some ⟨ge, 0, none⟩)]] w fun e' w' => e' = .returned (.bool (L.any fun r => Elt.chk r.1 r.2 == e)) ∧ Below w.heap.size w w' := by
  by_cases hp : 0 < L.length
  · obtain ⟨g, off, cap, rfl, h1, h2, hgl, hc⟩ := hL.one hp
    have eg : ∀ args w, (callFunc 88 args).run Tryz.prog w = .ok (.enter 88 args) w := enters_of Tryz.func88 (by kernel_rfl) rfl
    have := AnyQ.slices_ContainsFunc Tryz.lCon 2 agg47 size47 encR encR_len (fun r => Elt.chk r.1 r.2 == e) 88 #[.pointer (some ⟨ge, 0, none⟩)] eg g off L.length cap L w (pred_check e ge w hT hg hcell) (Nat.le_refl _) (by omega) hgl (enc_cells hc)
    rw [List.take_length] at this
    exact this
  · obtain rfl : L = [] := List.eq_nil_of_length_eq_zero (by omega)
    obtain ⟨A, cap, rfl, -⟩ := hL
    clear hT hg hcell
    show Calls Tryz.prog 87 #[.slice A 0 cap, .func (.func 88) #[] #[.pointer (some ⟨ge, 0, none⟩)]] w _
    go_enter Tryz.func87, Tryz.ntmps87
    go_wp2_with fail
    refine (index_nil _ _ _ _ _).mono ?_
    rintro e' w1 ⟨rfl, rfl⟩
    go_wp2_with fail
    go_ret
    exact ⟨rfl, Below.refl _ _⟩
end Go.Proofs.YtneglkfcelpdgaaGreatDoor.El
namespace Go.Proofs.YtneglkfcelpdgaaGreatDoor.El
open Go.RowKit

theorem any_chk {L : List Elt.R} {e : Int} : (L.any fun r => Elt.chk r.1 r.2 == e) = true ↔ ∃ r ∈ L, Elt.chk r.1 r.2 = e := by
  rw [List.any_eq_true]
  exact ⟨fun ⟨r, h, he⟩ => ⟨r, h, beq_iff_eq.1 he⟩, fun ⟨r, h, he⟩ => ⟨r, h, beq_iff_eq.2 he⟩⟩
set_option maxRecDepth 100000 in
set_option maxHeartbeats 2000000 in
theorem validate_any (v : Value) (L : List Elt.R) (w : World) (hL : RdIn w v L) (hT : Tab w) :
    Calls Tryz.prog 44 #[v] w fun e w' => e = .returned (.int .i64 (Elt.vld L)) ∧ Below w.heap.size w w' := by
  obtain ⟨z, hz⟩ : ∃ z, Elt.vld L = z := ⟨_, rfl⟩
  rw [hz]
  have HZ := Lib.hid hz; clear hz
  have HL := Lib.hid hL
  have HT := Lib.hid hT
  obtain ⟨A, cap, rfl, h1, h2, -⟩ := hL
  clear hT
  have j0 : ∀ w, (Instr.index 114 (.agg #[.int .i64 4, .int .i64 1]) (.int .i64 0)).run Tryz.prog w = .ok (.int .i64 4) w := fun _ => by kernel_rfl
  have j1 : ∀ w, (Instr.index 114 (.agg #[.int .i64 4, .int .i64 1]) (.int .i64 1)).run Tryz.prog w = .ok (.int .i64 1) w := fun _ => by kernel_rfl
  go_enter Tryz.func44, Tryz.ntmps44
  go_wp2_with fail
  go_loopw [7] (fun t wr => Below w.heap.size w wr ∧ (t = .int .i64 0 ∨ (t = .int .i64 1 ∧ Hid (¬ ∃ r ∈ L, Elt.chk r.1 r.2 = 4)) ∨ (t = .int .i64 2 ∧ Hid (¬ ∃ r ∈ L, Elt.chk r.1 r.2 = 4) ∧ Hid (¬ ∃ r ∈ L, Elt.chk r.1 r.2 = 1)))) (fun t _ => 2 - (intOf t).toNat)
  case atStart => exact ⟨Below.refl _ _, .inl rfl⟩
  case round =>
    obtain ⟨hb, hr⟩ := hrel
    have HB := Lib.hid hb; clear hb
    rcases hr with rfl | ⟨rfl, hn⟩ | ⟨rfl, hn, hm⟩
    · have b1 := HB.out.alloc HB.out.size (.cells #[.int .i64 4] 36)
      have r1 := Row.new wr #[.int .i64 4] 36
      go_upto_region 4 with fail
      generalize wr.alloc (.cells #[.int .i64 4] 36) = W1 at *
      generalize wr.heap.size = ge at *
      have c1 : W1.cell? ⟨ge, 0, none⟩ = some (.int .i64 4) := (r1.cell 0).trans rfl
      have HC := Lib.hid (containsFunc_any _ L 4 ge W1 (HL.out.under b1) (HT.out.under b1) r1.lt c1)
      have B1 := Lib.hid b1
      have R1 := Lib.hid r1
      clear b1 r1 c1
      cases ha : (L.any fun r => Elt.chk r.1 r.2 == 4) with
      | true =>
        rw [ha] at HC
        have HV : Hid (z = 4) := Lib.hid (by rw [← HZ.out, Elt.vld_kind (any_chk.1 ha)])
        clear ha
        go_wp2_with fail
        refine HC.out.mono ?_
        rintro e w2 ⟨rfl, g2⟩
        have c2 : w2.cell? ⟨ge, 0, none⟩ = some (.int .i64 4) := ((R1.out.under g2).cell 0).trans rfl
        have B2 := Lib.hid (B1.out.trans (g2.mono B1.out.size)); clear g2
        go_wp2_with fail
        go_ret
        exact ⟨ret_i64 HV.out.symm, B2.out⟩
      | false =>
        rw [ha] at HC
        have HN : Hid (¬ ∃ r ∈ L, Elt.chk r.1 r.2 = 4) := Lib.hid (fun h => by rw [any_chk.2 h] at ha; cases ha)
        clear ha
        go_wp2_with fail
        refine HC.out.mono ?_
        rintro e w2 ⟨rfl, g2⟩
        have B2 := Lib.hid (B1.out.trans (g2.mono B1.out.size)); clear g2
        go_wp2_with fail
        go_roundw
        case rel => exact ⟨B2.out, .inr (.inl ⟨rfl, HN⟩)⟩
        case measure => simp [intOf]
    · have b1 := HB.out.alloc HB.out.size (.cells #[.int .i64 1] 36)
      have r1 := Row.new wr #[.int .i64 1] 36
      go_upto_region 4 with fail
      generalize wr.alloc (.cells #[.int .i64 1] 36) = W1 at *
      generalize wr.heap.size = ge at *
      have c1 : W1.cell? ⟨ge, 0, none⟩ = some (.int .i64 1) := (r1.cell 0).trans rfl
      have HC := Lib.hid (containsFunc_any _ L 1 ge W1 (HL.out.under b1) (HT.out.under b1) r1.lt c1)
      have B1 := Lib.hid b1
      have R1 := Lib.hid r1
      clear b1 r1 c1
      cases ha : (L.any fun r => Elt.chk r.1 r.2 == 1) with
      | true =>
        rw [ha] at HC
        have HV : Hid (z = 1) := Lib.hid (by rw [← HZ.out, Elt.vld_range hn.out (any_chk.1 ha)])
        clear ha
        go_wp2_with fail
        refine HC.out.mono ?_
        rintro e w2 ⟨rfl, g2⟩
        have c2 : w2.cell? ⟨ge, 0, none⟩ = some (.int .i64 1) := ((R1.out.under g2).cell 0).trans rfl
        have B2 := Lib.hid (B1.out.trans (g2.mono B1.out.size)); clear g2
        go_wp2_with fail
        go_ret
        exact ⟨ret_i64 HV.out.symm, B2.out⟩
      | false =>
        rw [ha] at HC
        have HN : Hid (¬ ∃ r ∈ L, Elt.chk r.1 r.2 = 1) := Lib.hid (fun h => by rw [any_chk.2 h] at ha; cases ha)
        clear ha
        go_wp2_with fail
        refine HC.out.mono ?_
        rintro e w2 ⟨rfl, g2⟩
        have B2 := Lib.hid (B1.out.trans (g2.mono B1.out.size)); clear g2
        go_wp2_with fail
        go_roundw
        case rel => exact ⟨B2.out, .inr (.inr ⟨rfl, hn, HN⟩)⟩
        case measure => simp [intOf]
    · have HV := Lib.hid (Elt.vld_sort hn.out hm.out)
      clear hn hm j0 j1
      go_wp2_with fail
      go_loopw [5] (fun t w' => ∃ m : Nat, t = .int .i64 ((m : Int) + 1) ∧ m ≤ L.length ∧ Below w.heap.size w w' ∧ Hid (∀ j, ∀ h : j + 1 < L.length, j < m → (L[j]).1 < (L[j + 1]).1)) (fun t _ => L.length + 2 - (intOf t).toNat)
      case atStart => exact ⟨0, rfl, Nat.zero_le _, HB.out, Lib.hid (fun j h h' => by omega)⟩
      case round =>
        clear HB
        obtain ⟨m, rfl, hml, hb, ha⟩ := hrel
        by_cases hlt : m + 1 < L.length
        · have hR := HL.out.under hb
          obtain ⟨A', cap', e, -, -, hR⟩ := hR
          injection e with e1 e2 e3
          subst e1
          obtain ⟨g, off, rfl, -, c0, c1⟩ := hR m (by omega)
          obtain ⟨g', off', e, -, d0, d1⟩ := hR (m + 1) hlt
          injection e with e
          injection e with e1 e2
          subst e1; subst e2
          have HB := Lib.hid hb; clear hb hR e3
          have k0 : (0 : Int) ≤ (m : Int) := by omega
          have k1 : (m : Int) < (L.length : Int) := by omega
          have k2 : (m : Int) + 1 < (L.length : Int) := by omega
          have k3 : (0 : Int) ≤ (m : Int) + 1 := by omega
          have x1 : IntKind.i64.wrap (m : Int) = (m : Int) := IntWalk.i64_in _ (by omega)
          by_cases hc : (L[m]).1 < (L[m + 1]).1
          · have HA : Hid (∀ j, ∀ h : j + 1 < L.length, j < m + 1 → (L[j]).1 < (L[j + 1]).1) := Lib.hid (fun j h h' => by
              rcases Nat.lt_or_ge j m with q | q
              · exact ha.out j h q
              · obtain rfl : j = m := by omega
                exact hc)
            clear ha
            generalize L[m] = x at *
            generalize L[m + 1] = y at *
            have hc' : ¬ y.1 ≤ x.1 := by omega
            clear hc
            go_wp2_with fail
            go_quiet (fail)
            go_wp2_with fail
            go_roundw
            case rel => exact ⟨m + 1, by go_num, by omega, by first | exact HB.out | exact below_drewN HB.out _, HA⟩
            case measure => simp [intOf]; omega
          · have HV8 : Hid (z = 8) := Lib.hid (by rw [← HZ.out]; exact HV.out.2 (fun h => hc (h m hlt)))
            clear ha
            generalize L[m] = x at *
            generalize L[m + 1] = y at *
            have hc' : y.1 ≤ x.1 := by omega
            clear hc
            go_wp2_with fail
            go_quiet (fail)
            go_wp2_with fail
            go_ret
            exact ⟨ret_i64 HV8.out.symm, by first | exact HB.out | exact below_drewN HB.out _⟩
        · have HV0 : Hid (z = 0) := Lib.hid (by rw [← HZ.out]; exact HV.out.1 (fun j h => ha.out j h (by omega)))
          have k2 : ¬ (m : Int) + 1 < (L.length : Int) := by omega
          have HB := Lib.hid hb; clear hb ha
          go_wp2_with fail
          go_ret
          exact ⟨ret_i64 HV0.out.symm, HB.out⟩
/-- What Find answers. -/
def FndR (w : World) (L : List Elt.R) (c : Int) (e : Ending) (w' : World) : Prop := e = .returned (.tuple #[.int .i64 ((Elt.fnd L c).getD 0), .bool (Elt.fnd L c).isSome]) ∧ Below w.heap.size w w'
end Go.Proofs.YtneglkfcelpdgaaGreatDoor.El
namespace Go.Proofs.YtneglkfcelpdgaaGreatDoor.El
open Go.RowKit

theorem infoReading : (Tryz.prog.info? 63).map (fun i => (i.zero, i.size, i.bytes)) = some (some (.agg #[.int .i64 0, .int .i64 0]), 2, 16) := by kernel_rfl
/-- What is known while the list is gone through. -/
structure Wt (W : World) (M : List Elt.R) (u : Value) (w : World) : Prop where
  below : Below W.heap.size W w
  own : w.ownsRow W.heap.size 63 2 u M.length (rdc M)
theorem Wt.under {W w w' : World} {M : List Elt.R} {u : Value} (h : Wt W M u w) (hb : Below w.heap.size w w') : Wt W M u w' := ⟨h.below.trans (hb.mono h.below.size), own_under h.own hb⟩
theorem Wt.more {W w w' : World} {M : List Elt.R} {u : Value} {g' cap' : Nat} {x : Elt.R} (h : Wt W M u w)
    (hown : w'.ownsRow W.heap.size 63 2 (.slice (some ⟨g', 0, none⟩) (M.length + 1) cap') (M.length + 1) (rdc M ++ [.int .i64 x.1, .int .i64 x.2])) (hg : w.grownBy w' u.ownBlock) : Wt W (M ++ [x]) (.slice (some ⟨g', 0, none⟩) (M.length + 1) cap') w' :=
  ⟨below_own h.below h.below.size h.own hg, by rw [rdc_snoc]; simpa using hown⟩
theorem wout_snoc (L : List Elt.R) (C : List Int) (k : Nat) (h : k < L.length) : Elt.wout (L.take (k + 1)) C = Elt.wout (L.take k) C ++ (if C.contains (L[k]).1 then [] else [L[k]]) := by
  unfold Elt.wout
  rw [List.take_succ_eq_append_getElem h, List.filter_append]
  congr 1
  cases hc : C.contains (L[k]).1 <;> (rw [List.filter_cons, List.filter_nil]; simp only [hc]; rfl)
theorem wout_len (L : List Elt.R) (C : List Int) (k : Nat) : (Elt.wout (L.take k) C).length ≤ L.length := by
  unfold Elt.wout
  have h1 := List.length_filter_le (fun r : Elt.R => !C.contains r.1) (L.take k)
  have h2 : (L.take k).length ≤ L.length := by rw [List.length_take]; omega
  omega
end Go.Proofs.YtneglkfcelpdgaaGreatDoor.El
namespace Go.Proofs.YtneglkfcelpdgaaGreatDoor.El
open Go.RowKit

/-- A good list, its codes below k. -/
structure Good (k : Int) (M : List Elt.R) : Prop where
  val : ∀ r ∈ M, Elt.Val r.1 r.2
  lt : ∀ r ∈ M, r.1 < k
  asc : Elt.Asc M
  len : (M.length : Int) ≤ k - 1
theorem Good.nil : Good 1 [] := ⟨fun r h => (by cases h), fun r h => (by cases h), fun j h => absurd h (by simp), by simp⟩
theorem Good.skip {k : Int} {M : List Elt.R} (h : Good k M) : Good (k + 1) M := ⟨h.val, fun r hr => by have := h.lt r hr; omega, h.asc, by have := h.len; omega⟩
theorem asc_snoc {M : List Elt.R} {x : Elt.R} (h : Elt.Asc M) (hl : ∀ r ∈ M, r.1 < x.1) : Elt.Asc (M ++ [x]) := by
  intro j hj
  have hjl : j < M.length := by simpa using hj
  rw [List.getElem_append_left hjl]
  by_cases hj1 : j + 1 < M.length
  · rw [List.getElem_append_left hj1]; exact h j hj1
  · rw [List.getElem_append_right (by omega)]
    simp only [show j + 1 - M.length = 0 by omega, List.getElem_cons_zero]
    exact hl _ (List.getElem_mem _)
theorem Good.snoc {k : Int} {M : List Elt.R} {v : Int} (h : Good k M) (hv : Elt.Val k v) : Good (k + 1) (M ++ [(k, v)]) := by
  refine ⟨fun r hr => ?_, fun r hr => ?_, asc_snoc h.asc h.lt, by have := h.len; simp; omega⟩
  · rcases List.mem_append.1 hr with hr | hr
    · exact h.val r hr
    · obtain rfl := List.mem_singleton.1 hr
      exact hv
  · rcases List.mem_append.1 hr with hr | hr
    · have := h.lt r hr; omega
    · obtain rfl := List.mem_singleton.1 hr
      show k < k + 1
      omega
/-- What is known while the list grows: the reader, the list. -/
structure Gl (W : World) (b : Nat) (w0 : World) (M : List Elt.R) (u : Value) (w : World) : Prop where
  src : Src W b w
  gro : w0.grownBy w (some b)
  own : w.ownsRow w0.heap.size 63 2 u M.length (rdc M)
theorem src_row {W w : World} {b : Nat} (h : Src W b w) : ∃ cs, Row w b 54 cs := by
  obtain ⟨A, n, c, k, h1, h2, h3, h4⟩ := h.row
  exact ⟨_, h3⟩
theorem Gl.step {W w0 w w' : World} {b : Nat} {M : List Elt.R} {u : Value} (h : Gl W b w0 M u w) (hs : Src W b w') (hg : w.grownBy w' (some b)) : Gl W b w0 M u w' := by
  obtain ⟨cs, hr⟩ := src_row h.src
  exact ⟨hs, grown_trans h.gro hg, h.own.kept hg (.inr (fun e => own_ne h.own hr (by decide) e.symm))⟩
theorem Gl.under {W w0 w w' : World} {b : Nat} {M : List Elt.R} {u : Value} (h : Gl W b w0 M u w) (hb : Below w.heap.size w w') : Gl W b w0 M u w' := h.step (h.src.under hb) (grown_below hb)
theorem src_kept {W w w' : World} {b : Nat} {r : Option Nat} (h : Src W b w) (hg : w.grownBy w' r) (hr : r ≠ some b) (hW : ∀ i, r = some i → W.heap.size ≤ i) : Src W b w' := by
  obtain ⟨A, n, c, k, h1, h2, h3, h4⟩ := h.row
  have hbl : b < w.heap.size := (Array.getElem?_eq_some_iff.1 h3).1
  refine ⟨h.base, ⟨hg.os.trans h.below.os, hg.tape.trans h.below.tape, hg.output.trans h.below.output, Nat.le_trans h.below.size hg.size, fun i hi => (hg.block i (Nat.lt_of_lt_of_le hi h.below.size) (fun e => ?_)).trans (h.below.block i hi)⟩, A, n, c, k, h1, h2, (hg.block b hbl (Ne.symm hr)).trans h3, h4⟩
  have := hW i e.symm
  omega
theorem Gl.more {W w0 w w' : World} {b : Nat} {M : List Elt.R} {u : Value} {g' cap' : Nat} {x : Elt.R} (h : Gl W b w0 M u w) (hW : W.heap.size ≤ w0.heap.size)
    (hown : w'.ownsRow w0.heap.size 63 2 (.slice (some ⟨g', 0, none⟩) (M.length + 1) cap') (M.length + 1) (rdc M ++ [.int .i64 x.1, .int .i64 x.2])) (hg : w.grownBy w' u.ownBlock) : Gl W b w0 (M ++ [x]) (.slice (some ⟨g', 0, none⟩) (M.length + 1) cap') w' := by
  obtain ⟨cs, hr⟩ := src_row h.src
  have hlo : ∀ i, u.ownBlock = some i → w0.heap.size ≤ i := fun i e => (h.own.lt i e).1
  refine ⟨src_kept h.src hg (fun e => own_ne h.own hr (by decide) e.symm) (fun i e => Nat.le_trans hW (hlo i e)), ?_, by rw [rdc_snoc]; simpa using hown⟩
  exact ⟨hg.os.trans h.gro.os, hg.tape.trans h.gro.tape, hg.output.trans h.gro.output, Nat.le_trans h.gro.size hg.size, fun i hi hne => (hg.block i (Nat.lt_of_lt_of_le hi h.gro.size) (fun e => by have := hlo i e.symm; omega)).trans (h.gro.block i hi hne)⟩
/-- What List leaves. -/
def Lst (W : World) (b : Nat) (w : World) (e : Ending) (w' : World) : Prop := ∃ u M, e = .returned u ∧ Good 12 M ∧ Gl W b w M u w'
set_option maxRecDepth 100000 in
set_option maxHeartbeats 2000000 in
theorem list_any (W : World) (b : Nat) (w : World) (h : Src W b w) :
    Calls Tryz.prog 31 #[.pointer (some ⟨b, 0, none⟩)] w (Lst W b w) := by
  obtain ⟨i0, hi, hz0, hz1, hz2⟩ := info_parts infoReading
  have hW := h.below.size
  go_enter Tryz.func31, Tryz.ntmps31
  go_wp2_with fail
  go_loopw [3, 4] (fun u t wr => ∃ (k : Int) (M : List Elt.R), 1 ≤ k ∧ k ≤ 12 ∧ t = .int .i64 k ∧ Good k M ∧ Gl W b w M u wr) (fun _ t _ => (12 - intOf t).toNat)
  case atStart => exact ⟨1, [], by omega, by omega, rfl, Good.nil, h, grown_refl _ _, World.ownsRow_nil _ _ _ _⟩
  case round =>
    clear h
    obtain ⟨k, M, k1, k2, rfl, hG, hS⟩ := hrel
    have HG := Lib.hid hG; clear hG
    by_cases k3 : k ≤ 11
    · go_wp2_with fail
      refine (n_any W b _ _ hS.src (by omega) (by omega)).mono ?_
      rintro e w1 ⟨x, ⟨x1, x2⟩, rfl, s1, g1⟩
      have S1 := Lib.hid (hS.step s1 g1)
      clear hS s1 g1
      by_cases hx : x = 0
      · subst hx
        clear x1 x2
        go_wp2_with fail
        refine (some_any W b _ k S1.out.src ⟨k1, k3⟩).mono ?_
        rintro e w2 ⟨v, hv, rfl, s2, g2⟩
        have S2 := Lib.hid (S1.out.step s2 g2)
        have HN := Lib.hid (HG.out.snoc hv)
        have hml : M.length ≤ 11 := by have := HG.out.len; omega
        have S3 := Lib.hid (S2.out.under ((Below.refl _ _).alloc (Nat.le_refl _) (.cells #[.int .i64 k, .int .i64 v] 63)))
        clear s2 g2 hv S1 S2
        go_wp2_with (at_builtin; refine wpList_append_lies _ rfl (.tmp 12) (.tmp 16) 24 rfl w.heap.size 63 i0 _ 2 16 Tryz.underlying24 hi hz0 hz1 hz2 rfl (by decide) «u3» M.length (rdc M) rfl S3.out.own ⟨w2.heap.size, 0, none⟩ 1 1 [.int .i64 k, .int .i64 v] rfl rfl (World.news_of_block (cs := #[.int .i64 k, .int .i64 v]) (t := 63) (fr := (0, 0)) (heap_alloc_new w2 _)) (by simp [Value.oneCell']) (by omega) (by unfold maxLen; omega) (by omega) S3.out.gro.size (w2.heap.size + 1) (by simp) ?_; intro g' cap' w4 hown4 hgrow4 hat4 hlt4; have S4 := Lib.hid (S3.out.more (x := (k, v)) hW hown4 hgrow4); clear hown4 hgrow4 hat4 hlt4)
        go_roundw
        case rel => exact ⟨k + 1, M ++ [(k, v)], by omega, by omega, by go_num, HN.out, S4.out⟩
        case measure => simp [intOf]; omega
      · have q : (x == 0) = false := beq_eq_false_iff_ne.2 hx
        clear x1 x2 hx
        go_wp2_with fail
        go_roundw
        case rel => exact ⟨k + 1, M, by omega, by omega, by go_num, HG.out.skip, S1.out⟩
        case measure => simp [intOf]; omega
    · obtain rfl : k = 12 := by omega
      have HS := Lib.hid hS; clear hS
      go_wp2_with fail
      go_ret
      exact ⟨_, M, rfl, HG.out, HS.out⟩
theorem asc_pw {M : List Elt.R} (h : Elt.Asc M) : M.Pairwise (fun a b : Elt.R => a.1 < b.1) := by
  rw [List.pairwise_iff_getElem]
  intro i j hi hj hij
  obtain ⟨d, rfl⟩ : ∃ d, j = i + 1 + d := ⟨j - (i + 1), by omega⟩
  induction d with
  | zero => exact h i hj
  | succ d ih =>
    have h1 := ih (by omega) (by omega)
    have h2 := h (i + 1 + d) hj
    exact Int.lt_trans h1 h2
theorem pw_asc {M : List Elt.R} (h : M.Pairwise (fun a b : Elt.R => a.1 < b.1)) : Elt.Asc M := fun j hj => List.pairwise_iff_getElem.1 h j (j + 1) (by omega) hj (by omega)
theorem Good.vld {k : Int} {M : List Elt.R} (h : Good k M) : Elt.vld M = 0 := (Elt.vld_good h.val).1 h.asc
theorem Good.wout {k : Int} {M : List Elt.R} (h : Good k M) (C : List Int) : Elt.vld (Elt.wout M C) = 0 :=
  (Elt.vld_good (fun r hr => h.val r (List.mem_filter.1 hr).1)).1 (pw_asc ((asc_pw h.asc).filter _))
theorem fnd_wout (M : List Elt.R) (C : List Int) (c : Int) : Elt.fnd (Elt.wout M C) c = if C.contains c then none else Elt.fnd M c := by
  unfold Elt.fnd Elt.wout
  rw [List.find?_filter]
  cases hc : C.contains c with
  | true =>
    rw [if_pos rfl]
    have : M.find? (fun a => decide ((!C.contains a.1) = true ∧ (a.1 == c) = true)) = none := List.find?_eq_none.2 (fun r _ h => by
      have h := of_decide_eq_true h
      have e := beq_iff_eq.1 h.2
      rw [e, hc] at h
      exact absurd h.1 (by decide))
    rw [this]; rfl
  | false =>
    rw [if_neg (by decide)]
    congr 2
    funext a
    by_cases h : a.1 = c
    · rw [h, hc]; simp
    · have : (a.1 == c) = false := beq_eq_false_iff_ne.2 h
      rw [this]
      exact decide_eq_false (fun h => by cases h.2)
end Go.Proofs.YtneglkfcelpdgaaGreatDoor.El
