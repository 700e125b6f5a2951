/- Contracts of slices.IndexFunc and ContainsFunc over entries. -/
import Derived.Test.YtjaopjhfjijdaaaDoorPb
namespace Go.Proofs.YtjaopjhfjijdaaaDoor
open Go.RowKit

/-- What IndexFunc answers. -/
def IdxR {α : Type} (p : α → Bool) (L : List α) (z : Int) : Prop := (z = -1 ∧ ∀ x ∈ L, p x = false) ∨ (0 ≤ z ∧ z ≤ 9223372036854775807 ∧ ∃ x ∈ L, p x = true)
/-- What is asked of each. -/
def p_lacks : En → Bool := fun e : En => decide (¬ Elt.Ex e.2.1)
set_option maxHeartbeats 1000000 in
theorem index_lacks (v : Value) (L : List En) (w : World) (hL : EnIn w v L) (hT : Tab w) :
    Calls Tryd.prog 59 #[v, .func (.func 40) #[] #[]] w fun e w' => (∃ z : Int, e = .returned (.int .i64 z) ∧ IdxR (p_lacks) L z) ∧ Below w.heap.size w w' := by
  obtain ⟨A, cap, rfl, h1, h2, h3⟩ := hL
  have H := Lib.hid h3; clear h3
  have HT := Lib.hid hT; clear hT
  go_enter Tryd.func59, Tryd.ntmps59
  go_wp2_with fail
  go_loopw [5, 8] (fun _ t wr => ∃ k : Nat, k ≤ L.length ∧ t = .int .i64 k ∧ Below w.heap.size w wr ∧ Hid (∀ j (h : j < L.length), j < k → (p_lacks) L[j] = false)) (fun _ t _ => L.length - (intOf t).toNat)
  case atStart => exact ⟨0, Nat.zero_le _, rfl, Below.refl _ _, Lib.hid (fun j h h' => by omega)⟩
  case round =>
    obtain ⟨k, hk, rfl, hb, hn⟩ := hrel
    have HB := Lib.hid hb; clear hb
    by_cases hlt : k < L.length
    · obtain ⟨g, off, rfl, hgl, ⟨c0, c1, c2, c3, c4⟩, hi⟩ := H.out k hlt
      replace c0 := (HB.out.cell (p := ⟨g, off + k * 5, none⟩) hgl).trans c0
      replace c1 := (HB.out.cell (p := ⟨g, off + k * 5 + 1, none⟩) hgl).trans c1
      replace c2 := (HB.out.cell (p := ⟨g, off + k * 5 + 2, none⟩) hgl).trans c2
      replace c3 := (HB.out.cell (p := ⟨g, off + k * 5 + 3, none⟩) hgl).trans c3
      replace c4 := (HB.out.cell (p := ⟨g, off + k * 5 + 4, none⟩) hgl).trans c4
      have k0 : (0 : Int) ≤ (k : Int) := by omega
      have k1 : (k : Int) < (L.length : Int) := by omega
      obtain ⟨x, hx⟩ : ∃ x, L[k] = x := ⟨_, rfl⟩
      have hm : Hid (x ∈ L) := Lib.hid (hx ▸ List.getElem_mem hlt)
      rw [hx] at c0 c1 c2 c3 c4 hi
      have HN : Hid ((p_lacks) x = false → ∀ j (h : j < L.length), j < k + 1 → (p_lacks) L[j] = false) := Lib.hid (fun hf j h h' => by
        rcases Nat.lt_or_ge j k with q | q
        · exact hn.out j h q
        · obtain rfl : j = k := by omega
          rw [hx]; exact hf)
      clear hn hx
      obtain ⟨y0, y1, y2, y3, y4⟩ := x
      have HC := lacks_any (y0, y1, y2, y3, y4) wr (HT.out.under HB.out)
      clear hi
      cases hp : (p_lacks) (y0, y1, y2, y3, y4) with
      | true =>
        have hp2 : decide (¬ Elt.Ex y1) = true := hp
        rw [hp2] at HC
        clear hp2
        have HC := Lib.hid HC
        have HP := Lib.hid hp; clear hp
        go_wp2_with fail
        refine HC.out.mono ?_
        rintro e w2 ⟨rfl, g2⟩
        have B2 := Lib.hid (HB.out.trans (g2.mono HB.out.size)); clear g2
        go_wp2_with fail
        go_ret
        exact ⟨⟨(k : Int), rfl, .inr ⟨by omega, by omega, _, hm.out, HP.out⟩⟩, B2.out⟩
      | false =>
        have HN2 := Lib.hid (HN.out hp)
        have hp2 : decide (¬ Elt.Ex y1) = false := hp
        rw [hp2] at HC
        clear hp2
        have HC := Lib.hid HC
        clear hp HN
        go_wp2_with fail
        refine HC.out.mono ?_
        rintro e w2 ⟨rfl, g2⟩
        have B2 := Lib.hid (HB.out.trans (g2.mono HB.out.size)); clear g2
        go_wp2_with fail
        go_roundw
        case rel => exact ⟨k + 1, by omega, by go_num, B2.out, HN2⟩
        case measure => simp [intOf]; omega
    · have k1 : ¬ (k : Int) < (L.length : Int) := by omega
      go_wp2_with fail
      go_ret
      exact ⟨⟨-1, rfl, .inl ⟨rfl, fun x hx => by
        obtain ⟨j, hj, rfl⟩ := List.getElem_of_mem hx
        exact hn.out j hj (by omega)⟩⟩, HB.out⟩
set_option maxHeartbeats 400000 in
theorem contains_lacks (v : Value) (L : List En) (w : World) (hL : EnIn w v L) (hT : Tab w) :
    Calls Tryd.prog 39 #[v, .func (.func 40) #[] #[]] w fun e w' => e = .returned (.bool (L.any (p_lacks))) ∧ Below w.heap.size w w' := by
  have HI := Lib.hid (index_lacks v L w hL hT)
  obtain ⟨A, cap, rfl, -⟩ := hL
  clear hT
  obtain ⟨z, hz⟩ : ∃ z, L.any (p_lacks) = z := ⟨_, rfl⟩
  rw [hz]
  have HZ := Lib.hid hz; clear hz
  go_enter Tryd.func39, Tryd.ntmps39
  go_wp2_with fail
  refine HI.out.mono ?_
  rintro e w1 ⟨⟨y, rfl, hy⟩, g1⟩
  have B1 := Lib.hid g1; clear g1
  rcases hy with ⟨rfl, hn⟩ | ⟨hy, hy2, x, hx, hp⟩
  · have HN : Hid (z = false) := Lib.hid (by rw [← HZ.out, List.any_eq_false]; exact fun x hx => by rw [hn x hx]; exact Bool.false_ne_true)
    clear hn HI
    go_wp2_with fail
    go_ret
    exact ⟨ret_bool HN.out.symm, B1.out⟩
  · have HN : Hid (z = true) := Lib.hid (by rw [← HZ.out, List.any_eq_true]; exact ⟨x, hx, hp⟩)
    clear hp hx HI
    go_wp2_with fail
    go_ret
    exact ⟨ret_bool (Eq.trans (b := true) (by first | rfl | exact decide_eq_true hy) HN.out.symm), B1.out⟩
/-- What is asked of each. -/
def p_faulty : En → Bool := fun e : En => decide (¬ okE e)
set_option maxHeartbeats 1000000 in
theorem index_faulty (v : Value) (L : List En) (w : World) (hL : EnIn w v L) (hT : Tab w) :
    Calls Tryd.prog 59 #[v, .func (.func 41) #[] #[]] w fun e w' => (∃ z : Int, e = .returned (.int .i64 z) ∧ IdxR (p_faulty) L z) ∧ Below w.heap.size w w' := by
  obtain ⟨A, cap, rfl, h1, h2, h3⟩ := hL
  have H := Lib.hid h3; clear h3
  have HT := Lib.hid hT; clear hT
  go_enter Tryd.func59, Tryd.ntmps59
  go_wp2_with fail
  go_loopw [5, 8] (fun _ t wr => ∃ k : Nat, k ≤ L.length ∧ t = .int .i64 k ∧ Below w.heap.size w wr ∧ Hid (∀ j (h : j < L.length), j < k → (p_faulty) L[j] = false)) (fun _ t _ => L.length - (intOf t).toNat)
  case atStart => exact ⟨0, Nat.zero_le _, rfl, Below.refl _ _, Lib.hid (fun j h h' => by omega)⟩
  case round =>
    obtain ⟨k, hk, rfl, hb, hn⟩ := hrel
    have HB := Lib.hid hb; clear hb
    by_cases hlt : k < L.length
    · obtain ⟨g, off, rfl, hgl, ⟨c0, c1, c2, c3, c4⟩, hi⟩ := H.out k hlt
      replace c0 := (HB.out.cell (p := ⟨g, off + k * 5, none⟩) hgl).trans c0
      replace c1 := (HB.out.cell (p := ⟨g, off + k * 5 + 1, none⟩) hgl).trans c1
      replace c2 := (HB.out.cell (p := ⟨g, off + k * 5 + 2, none⟩) hgl).trans c2
      replace c3 := (HB.out.cell (p := ⟨g, off + k * 5 + 3, none⟩) hgl).trans c3
      replace c4 := (HB.out.cell (p := ⟨g, off + k * 5 + 4, none⟩) hgl).trans c4
      have k0 : (0 : Int) ≤ (k : Int) := by omega
      have k1 : (k : Int) < (L.length : Int) := by omega
      obtain ⟨x, hx⟩ : ∃ x, L[k] = x := ⟨_, rfl⟩
      have hm : Hid (x ∈ L) := Lib.hid (hx ▸ List.getElem_mem hlt)
      rw [hx] at c0 c1 c2 c3 c4 hi
      have HN : Hid ((p_faulty) x = false → ∀ j (h : j < L.length), j < k + 1 → (p_faulty) L[j] = false) := Lib.hid (fun hf j h h' => by
        rcases Nat.lt_or_ge j k with q | q
        · exact hn.out j h q
        · obtain rfl : j = k := by omega
          rw [hx]; exact hf)
      clear hn hx
      obtain ⟨y0, y1, y2, y3, y4⟩ := x
      have HC := isFaulty_any (y0, y1, y2, y3, y4) wr (HT.out.under HB.out) hi
      clear hi
      cases hp : (p_faulty) (y0, y1, y2, y3, y4) with
      | true =>
        have hp2 : decide (¬ okE (y0, y1, y2, y3, y4)) = true := hp
        rw [hp2] at HC
        clear hp2
        have HC := Lib.hid HC
        have HP := Lib.hid hp; clear hp
        go_wp2_with fail
        refine HC.out.mono ?_
        rintro e w2 ⟨rfl, g2⟩
        have B2 := Lib.hid (HB.out.trans (g2.mono HB.out.size)); clear g2
        go_wp2_with fail
        go_ret
        exact ⟨⟨(k : Int), rfl, .inr ⟨by omega, by omega, _, hm.out, HP.out⟩⟩, B2.out⟩
      | false =>
        have HN2 := Lib.hid (HN.out hp)
        have hp2 : decide (¬ okE (y0, y1, y2, y3, y4)) = false := hp
        rw [hp2] at HC
        clear hp2
        have HC := Lib.hid HC
        clear hp HN
        go_wp2_with fail
        refine HC.out.mono ?_
        rintro e w2 ⟨rfl, g2⟩
        have B2 := Lib.hid (HB.out.trans (g2.mono HB.out.size)); clear g2
        go_wp2_with fail
        go_roundw
        case rel => exact ⟨k + 1, by omega, by go_num, B2.out, HN2⟩
        case measure => simp [intOf]; omega
    · have k1 : ¬ (k : Int) < (L.length : Int) := by omega
      go_wp2_with fail
      go_ret
      exact ⟨⟨-1, rfl, .inl ⟨rfl, fun x hx => by
        obtain ⟨j, hj, rfl⟩ := List.getElem_of_mem hx
        exact hn.out j hj (by omega)⟩⟩, HB.out⟩
set_option maxHeartbeats 400000 in
theorem contains_faulty (v : Value) (L : List En) (w : World) (hL : EnIn w v L) (hT : Tab w) :
    Calls Tryd.prog 39 #[v, .func (.func 41) #[] #[]] w fun e w' => e = .returned (.bool (L.any (p_faulty))) ∧ Below w.heap.size w w' := by
  have HI := Lib.hid (index_faulty v L w hL hT)
  obtain ⟨A, cap, rfl, -⟩ := hL
  clear hT
  obtain ⟨z, hz⟩ : ∃ z, L.any (p_faulty) = z := ⟨_, rfl⟩
  rw [hz]
  have HZ := Lib.hid hz; clear hz
  go_enter Tryd.func39, Tryd.ntmps39
  go_wp2_with fail
  refine HI.out.mono ?_
  rintro e w1 ⟨⟨y, rfl, hy⟩, g1⟩
  have B1 := Lib.hid g1; clear g1
  rcases hy with ⟨rfl, hn⟩ | ⟨hy, hy2, x, hx, hp⟩
  · have HN : Hid (z = false) := Lib.hid (by rw [← HZ.out, List.any_eq_false]; exact fun x hx => by rw [hn x hx]; exact Bool.false_ne_true)
    clear hn HI
    go_wp2_with fail
    go_ret
    exact ⟨ret_bool HN.out.symm, B1.out⟩
  · have HN : Hid (z = true) := Lib.hid (by rw [← HZ.out, List.any_eq_true]; exact ⟨x, hx, hp⟩)
    clear hp hx HI
    go_wp2_with fail
    go_ret
    exact ⟨ret_bool (Eq.trans (b := true) (by first | rfl | exact decide_eq_true hy) HN.out.symm), B1.out⟩
end Go.Proofs.YtjaopjhfjijdaaaDoor
