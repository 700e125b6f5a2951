/- Contracts of slices.IndexFunc and ContainsFunc over sequences and numbers; isMiscoded. -/
import Derived.Test.YtjaopjhfjijdaaaDoorIxE
namespace Go.Proofs.YtjaopjhfjijdaaaDoor
open Go.RowKit

/-- What is asked of each. -/
def p_none : Int → Bool := fun c : Int => decide (knd c = 0)
set_option maxHeartbeats 1000000 in
theorem index_none (v : Value) (L : List Int) (w : World) (hL : NmIn w v L) (hT : Tab w) :
    Calls Tryd.prog 66 #[v, .func (.func 62) #[] #[]] w fun e w' => (∃ z : Int, e = .returned (.int .i64 z) ∧ IdxR (p_none) L z) ∧ Below w.heap.size w w' := by
  obtain ⟨A, cap, rfl, h1, h2, h3⟩ := hL
  have H := Lib.hid h3; clear h3
  have HT := Lib.hid hT; clear hT
  go_enter Tryd.func66, Tryd.ntmps66
  go_wp2_with fail
  go_loopw [5, 8] (fun _ t wr => ∃ k : Nat, k ≤ L.length ∧ t = .int .i64 k ∧ Below w.heap.size w wr ∧ Hid (∀ j (h : j < L.length), j < k → (p_none) L[j] = false)) (fun _ t _ => L.length - (intOf t).toNat)
  case atStart => exact ⟨0, Nat.zero_le _, rfl, Below.refl _ _, Lib.hid (fun j h h' => by omega)⟩
  case round =>
    obtain ⟨k, hk, rfl, hb, hn⟩ := hrel
    have HB := Lib.hid hb; clear hb
    by_cases hlt : k < L.length
    · obtain ⟨g, off, rfl, hgl, c0, hi⟩ := H.out k hlt
      replace c0 := (HB.out.cell (p := ⟨g, off + k, none⟩) hgl).trans c0
      have k0 : (0 : Int) ≤ (k : Int) := by omega
      have k1 : (k : Int) < (L.length : Int) := by omega
      obtain ⟨x, hx⟩ : ∃ x, L[k] = x := ⟨_, rfl⟩
      have hm : Hid (x ∈ L) := Lib.hid (hx ▸ List.getElem_mem hlt)
      rw [hx] at c0 hi
      have HN : Hid ((p_none) x = false → ∀ j (h : j < L.length), j < k + 1 → (p_none) L[j] = false) := Lib.hid (fun hf j h h' => by
        rcases Nat.lt_or_ge j k with q | q
        · exact hn.out j h q
        · obtain rfl : j = k := by omega
          rw [hx]; exact hf)
      clear hn hx
      have HC := isNone_any x wr hi
      clear hi
      cases hp : (p_none) x with
      | true =>
        have hp2 : decide (knd x = 0) = true := hp
        rw [hp2] at HC
        clear hp2
        have HC := Lib.hid HC
        have HP := Lib.hid hp; clear hp
        go_wp2_with fail
        refine HC.out.mono ?_
        rintro e w2 ⟨rfl, g2⟩
        have B2 := Lib.hid (HB.out.trans (g2.mono HB.out.size)); clear g2
        go_wp2_with fail
        go_ret
        exact ⟨⟨(k : Int), rfl, .inr ⟨by omega, by omega, _, hm.out, HP.out⟩⟩, B2.out⟩
      | false =>
        have HN2 := Lib.hid (HN.out hp)
        have hp2 : decide (knd x = 0) = false := hp
        rw [hp2] at HC
        clear hp2
        have HC := Lib.hid HC
        clear hp HN
        go_wp2_with fail
        refine HC.out.mono ?_
        rintro e w2 ⟨rfl, g2⟩
        have B2 := Lib.hid (HB.out.trans (g2.mono HB.out.size)); clear g2
        go_wp2_with fail
        go_roundw
        case rel => exact ⟨k + 1, by omega, by go_num, B2.out, HN2⟩
        case measure => simp [intOf]; omega
    · have k1 : ¬ (k : Int) < (L.length : Int) := by omega
      go_wp2_with fail
      go_ret
      exact ⟨⟨-1, rfl, .inl ⟨rfl, fun x hx => by
        obtain ⟨j, hj, rfl⟩ := List.getElem_of_mem hx
        exact hn.out j hj (by omega)⟩⟩, HB.out⟩
set_option maxHeartbeats 400000 in
theorem contains_none (v : Value) (L : List Int) (w : World) (hL : NmIn w v L) (hT : Tab w) :
    Calls Tryd.prog 61 #[v, .func (.func 62) #[] #[]] w fun e w' => e = .returned (.bool (L.any (p_none))) ∧ Below w.heap.size w w' := by
  have HI := Lib.hid (index_none v L w hL hT)
  obtain ⟨A, cap, rfl, -⟩ := hL
  clear hT
  obtain ⟨z, hz⟩ : ∃ z, L.any (p_none) = z := ⟨_, rfl⟩
  rw [hz]
  have HZ := Lib.hid hz; clear hz
  go_enter Tryd.func61, Tryd.ntmps61
  go_wp2_with fail
  refine HI.out.mono ?_
  rintro e w1 ⟨⟨y, rfl, hy⟩, g1⟩
  have B1 := Lib.hid g1; clear g1
  rcases hy with ⟨rfl, hn⟩ | ⟨hy, hy2, x, hx, hp⟩
  · have HN : Hid (z = false) := Lib.hid (by rw [← HZ.out, List.any_eq_false]; exact fun x hx => by rw [hn x hx]; exact Bool.false_ne_true)
    clear hn HI
    go_wp2_with fail
    go_ret
    exact ⟨ret_bool HN.out.symm, B1.out⟩
  · have HN : Hid (z = true) := Lib.hid (by rw [← HZ.out, List.any_eq_true]; exact ⟨x, hx, hp⟩)
    clear hp hx HI
    go_wp2_with fail
    go_ret
    exact ⟨ret_bool (Eq.trans (b := true) (by first | rfl | exact decide_eq_true hy) HN.out.symm), B1.out⟩
/-- What is asked of each. -/
def p_long : Sq → Bool := fun s : Sq => decide (20 < s.2.length)
set_option maxHeartbeats 1000000 in
theorem index_long (v : Value) (L : List Sq) (w : World) (hL : SqIn w v L) (hT : Tab w) :
    Calls Tryd.prog 58 #[v, .func (.func 38) #[] #[]] w fun e w' => (∃ z : Int, e = .returned (.int .i64 z) ∧ IdxR (p_long) L z) ∧ Below w.heap.size w w' := by
  obtain ⟨A, cap, rfl, h1, h2, h3⟩ := hL
  have H := Lib.hid h3; clear h3
  have HT := Lib.hid hT; clear hT
  go_enter Tryd.func58, Tryd.ntmps58
  go_wp2_with fail
  go_loopw [5, 8] (fun _ t wr => ∃ k : Nat, k ≤ L.length ∧ t = .int .i64 k ∧ Below w.heap.size w wr ∧ Hid (∀ j (h : j < L.length), j < k → (p_long) L[j] = false)) (fun _ t _ => L.length - (intOf t).toNat)
  case atStart => exact ⟨0, Nat.zero_le _, rfl, Below.refl _ _, Lib.hid (fun j h h' => by omega)⟩
  case round =>
    obtain ⟨k, hk, rfl, hb, hn⟩ := hrel
    have HB := Lib.hid hb; clear hb
    by_cases hlt : k < L.length
    · obtain ⟨g, off, u, rfl, hgl, c0, c1, hu, hi⟩ := H.out k hlt
      replace c0 := (HB.out.cell (p := ⟨g, off + k * 2, none⟩) hgl).trans c0
      replace c1 := (HB.out.cell (p := ⟨g, off + k * 2 + 1, none⟩) hgl).trans c1
      have k0 : (0 : Int) ≤ (k : Int) := by omega
      have k1 : (k : Int) < (L.length : Int) := by omega
      obtain ⟨x, hx⟩ : ∃ x, L[k] = x := ⟨_, rfl⟩
      have hm : Hid (x ∈ L) := Lib.hid (hx ▸ List.getElem_mem hlt)
      rw [hx] at c0 hi hu
      have HN : Hid ((p_long) x = false → ∀ j (h : j < L.length), j < k + 1 → (p_long) L[j] = false) := Lib.hid (fun hf j h h' => by
        rcases Nat.lt_or_ge j k with q | q
        · exact hn.out j h q
        · obtain rfl : j = k := by omega
          rw [hx]; exact hf)
      clear hn hx
      obtain ⟨y0, Y⟩ := x
      replace hu := hu.under HB.out
      have HC := isLong_any y0 u Y wr hu
      clear hi hu
      cases hp : (p_long) (y0, Y) with
      | true =>
        have hp2 : decide (20 < Y.length) = true := hp
        rw [hp2] at HC
        clear hp2
        have HC := Lib.hid HC
        have HP := Lib.hid hp; clear hp
        go_wp2_with fail
        refine HC.out.mono ?_
        rintro e w2 ⟨rfl, g2⟩
        have B2 := Lib.hid (HB.out.trans (g2.mono HB.out.size)); clear g2
        go_wp2_with fail
        go_ret
        exact ⟨⟨(k : Int), rfl, .inr ⟨by omega, by omega, _, hm.out, HP.out⟩⟩, B2.out⟩
      | false =>
        have HN2 := Lib.hid (HN.out hp)
        have hp2 : decide (20 < Y.length) = false := hp
        rw [hp2] at HC
        clear hp2
        have HC := Lib.hid HC
        clear hp HN
        go_wp2_with fail
        refine HC.out.mono ?_
        rintro e w2 ⟨rfl, g2⟩
        have B2 := Lib.hid (HB.out.trans (g2.mono HB.out.size)); clear g2
        go_wp2_with fail
        go_roundw
        case rel => exact ⟨k + 1, by omega, by go_num, B2.out, HN2⟩
        case measure => simp [intOf]; omega
    · have k1 : ¬ (k : Int) < (L.length : Int) := by omega
      go_wp2_with fail
      go_ret
      exact ⟨⟨-1, rfl, .inl ⟨rfl, fun x hx => by
        obtain ⟨j, hj, rfl⟩ := List.getElem_of_mem hx
        exact hn.out j hj (by omega)⟩⟩, HB.out⟩
set_option maxHeartbeats 400000 in
theorem contains_long (v : Value) (L : List Sq) (w : World) (hL : SqIn w v L) (hT : Tab w) :
    Calls Tryd.prog 37 #[v, .func (.func 38) #[] #[]] w fun e w' => e = .returned (.bool (L.any (p_long))) ∧ Below w.heap.size w w' := by
  have HI := Lib.hid (index_long v L w hL hT)
  obtain ⟨A, cap, rfl, -⟩ := hL
  clear hT
  obtain ⟨z, hz⟩ : ∃ z, L.any (p_long) = z := ⟨_, rfl⟩
  rw [hz]
  have HZ := Lib.hid hz; clear hz
  go_enter Tryd.func37, Tryd.ntmps37
  go_wp2_with fail
  refine HI.out.mono ?_
  rintro e w1 ⟨⟨y, rfl, hy⟩, g1⟩
  have B1 := Lib.hid g1; clear g1
  rcases hy with ⟨rfl, hn⟩ | ⟨hy, hy2, x, hx, hp⟩
  · have HN : Hid (z = false) := Lib.hid (by rw [← HZ.out, List.any_eq_false]; exact fun x hx => by rw [hn x hx]; exact Bool.false_ne_true)
    clear hn HI
    go_wp2_with fail
    go_ret
    exact ⟨ret_bool HN.out.symm, B1.out⟩
  · have HN : Hid (z = true) := Lib.hid (by rw [← HZ.out, List.any_eq_true]; exact ⟨x, hx, hp⟩)
    clear hp hx HI
    go_wp2_with fail
    go_ret
    exact ⟨ret_bool (Eq.trans (b := true) (by first | rfl | exact decide_eq_true hy) HN.out.symm), B1.out⟩
set_option maxHeartbeats 800000 in
theorem isMiscoded_any (c : Int) (u : Value) (C : List Int) (w : World) (hu : NmIn w u C) (hI : I64 c) (hT : Tab w) :
    Calls Tryd.prog 42 #[.agg #[.int .i64 c, u]] w fun x w' => x = .returned (.bool (decide (badS (c, C)))) ∧ Below w.heap.size w w' := by
  obtain ⟨z, hz⟩ : ∃ z, decide (badS (c, C)) = z := ⟨_, rfl⟩
  rw [hz]
  have HZ := Lib.hid hz; clear hz
  have b1 : Below w.heap.size w (w.alloc (.cells #[.int .i64 c, u] 58)) := (Below.refl _ _).alloc (Nat.le_refl _) _
  have r1 := Row.new w #[.int .i64 c, u] 58
  have HC := Lib.hid (contains_none u C _ (hu.under b1) (hT.under b1))
  have HKd := Lib.hid (fun W => kindOf_any c W hI)
  obtain ⟨A, cap, rfl, h2, h3, -⟩ := hu
  clear hI hT
  go_enter Tryd.func42, Tryd.ntmps42
  go_upto_region 1 with fail
  generalize w.alloc (.cells #[.int .i64 c, .slice A C.length cap] 58) = W1 at *
  generalize w.heap.size = gb at r1 ⊢
  obtain ⟨p0, p1⟩ := row2 r1
  have B1 := Lib.hid b1
  clear r1 b1
  obtain ⟨k, hk⟩ : ∃ k, knd c = k := ⟨_, rfl⟩
  have HB2 : Hid (z = decide (k ≠ 2 ∨ ∃ x ∈ C, knd x = 0)) := Lib.hid (by rw [← HZ.out, ← hk]; rfl)
  rw [hk] at HKd
  clear hk HZ
  go_wp2_with fail
  refine (HKd.out _).mono ?_
  rintro x w2 ⟨rfl, rfl⟩
  clear HKd
  by_cases hk : k = 2
  case neg =>
    have HN : Hid (z = true) := Lib.hid (HB2.out.trans (decide_eq_true (.inl hk)))
    go_wp2_with fail
    go_ret
    exact ⟨ret_bool HN.out.symm, B1.out⟩
  subst hk
  cases ha : C.any p_none with
  | true =>
    rw [ha] at HC
    have HN : Hid (z = true) := Lib.hid (HB2.out.trans (decide_eq_true (.inr (by
      obtain ⟨x, hx, hp⟩ := List.any_eq_true.1 ha
      exact ⟨x, hx, of_decide_eq_true hp⟩))))
    clear ha
    go_wp2_with fail
    refine HC.out.mono ?_
    rintro x w3 ⟨rfl, g3⟩
    have B3 := Lib.hid (B1.out.trans (g3.mono B1.out.size)); clear g3
    go_wp2_with fail
    go_ret
    exact ⟨ret_bool HN.out.symm, B3.out⟩
  | false =>
    rw [ha] at HC
    have HN : Hid (z = false) := Lib.hid (HB2.out.trans (decide_eq_false (fun q => by
      rcases q with q | ⟨x, hx, hp⟩
      · exact q rfl
      · have := List.any_eq_false.1 ha x hx
        exact this (decide_eq_true hp))))
    clear ha
    go_wp2_with fail
    refine HC.out.mono ?_
    rintro x w3 ⟨rfl, g3⟩
    have B3 := Lib.hid (B1.out.trans (g3.mono B1.out.size)); clear g3
    go_wp2_with fail
    go_ret
    exact ⟨ret_bool HN.out.symm, B3.out⟩
/-- What is asked of each. -/
def p_mis : Sq → Bool := fun s : Sq => decide (badS s)
set_option maxHeartbeats 1000000 in
theorem index_mis (v : Value) (L : List Sq) (w : World) (hL : SqIn w v L) (hT : Tab w) :
    Calls Tryd.prog 58 #[v, .func (.func 42) #[] #[]] w fun e w' => (∃ z : Int, e = .returned (.int .i64 z) ∧ IdxR (p_mis) L z) ∧ Below w.heap.size w w' := by
  obtain ⟨A, cap, rfl, h1, h2, h3⟩ := hL
  have H := Lib.hid h3; clear h3
  have HT := Lib.hid hT; clear hT
  go_enter Tryd.func58, Tryd.ntmps58
  go_wp2_with fail
  go_loopw [5, 8] (fun _ t wr => ∃ k : Nat, k ≤ L.length ∧ t = .int .i64 k ∧ Below w.heap.size w wr ∧ Hid (∀ j (h : j < L.length), j < k → (p_mis) L[j] = false)) (fun _ t _ => L.length - (intOf t).toNat)
  case atStart => exact ⟨0, Nat.zero_le _, rfl, Below.refl _ _, Lib.hid (fun j h h' => by omega)⟩
  case round =>
    obtain ⟨k, hk, rfl, hb, hn⟩ := hrel
    have HB := Lib.hid hb; clear hb
    by_cases hlt : k < L.length
    · obtain ⟨g, off, u, rfl, hgl, c0, c1, hu, hi⟩ := H.out k hlt
      replace c0 := (HB.out.cell (p := ⟨g, off + k * 2, none⟩) hgl).trans c0
      replace c1 := (HB.out.cell (p := ⟨g, off + k * 2 + 1, none⟩) hgl).trans c1
      have k0 : (0 : Int) ≤ (k : Int) := by omega
      have k1 : (k : Int) < (L.length : Int) := by omega
      obtain ⟨x, hx⟩ : ∃ x, L[k] = x := ⟨_, rfl⟩
      have hm : Hid (x ∈ L) := Lib.hid (hx ▸ List.getElem_mem hlt)
      rw [hx] at c0 hi hu
      have HN : Hid ((p_mis) x = false → ∀ j (h : j < L.length), j < k + 1 → (p_mis) L[j] = false) := Lib.hid (fun hf j h h' => by
        rcases Nat.lt_or_ge j k with q | q
        · exact hn.out j h q
        · obtain rfl : j = k := by omega
          rw [hx]; exact hf)
      clear hn hx
      obtain ⟨y0, Y⟩ := x
      replace hu := hu.under HB.out
      have HC := isMiscoded_any y0 u Y wr hu hi (HT.out.under HB.out)
      clear hi hu
      cases hp : (p_mis) (y0, Y) with
      | true =>
        have hp2 : decide (badS (y0, Y)) = true := hp
        rw [hp2] at HC
        clear hp2
        have HC := Lib.hid HC
        have HP := Lib.hid hp; clear hp
        go_wp2_with fail
        refine HC.out.mono ?_
        rintro e w2 ⟨rfl, g2⟩
        have B2 := Lib.hid (HB.out.trans (g2.mono HB.out.size)); clear g2
        go_wp2_with fail
        go_ret
        exact ⟨⟨(k : Int), rfl, .inr ⟨by omega, by omega, _, hm.out, HP.out⟩⟩, B2.out⟩
      | false =>
        have HN2 := Lib.hid (HN.out hp)
        have hp2 : decide (badS (y0, Y)) = false := hp
        rw [hp2] at HC
        clear hp2
        have HC := Lib.hid HC
        clear hp HN
        go_wp2_with fail
        refine HC.out.mono ?_
        rintro e w2 ⟨rfl, g2⟩
        have B2 := Lib.hid (HB.out.trans (g2.mono HB.out.size)); clear g2
        go_wp2_with fail
        go_roundw
        case rel => exact ⟨k + 1, by omega, by go_num, B2.out, HN2⟩
        case measure => simp [intOf]; omega
    · have k1 : ¬ (k : Int) < (L.length : Int) := by omega
      go_wp2_with fail
      go_ret
      exact ⟨⟨-1, rfl, .inl ⟨rfl, fun x hx => by
        obtain ⟨j, hj, rfl⟩ := List.getElem_of_mem hx
        exact hn.out j hj (by omega)⟩⟩, HB.out⟩
set_option maxHeartbeats 400000 in
theorem contains_mis (v : Value) (L : List Sq) (w : World) (hL : SqIn w v L) (hT : Tab w) :
    Calls Tryd.prog 37 #[v, .func (.func 42) #[] #[]] w fun e w' => e = .returned (.bool (L.any (p_mis))) ∧ Below w.heap.size w w' := by
  have HI := Lib.hid (index_mis v L w hL hT)
  obtain ⟨A, cap, rfl, -⟩ := hL
  clear hT
  obtain ⟨z, hz⟩ : ∃ z, L.any (p_mis) = z := ⟨_, rfl⟩
  rw [hz]
  have HZ := Lib.hid hz; clear hz
  go_enter Tryd.func37, Tryd.ntmps37
  go_wp2_with fail
  refine HI.out.mono ?_
  rintro e w1 ⟨⟨y, rfl, hy⟩, g1⟩
  have B1 := Lib.hid g1; clear g1
  rcases hy with ⟨rfl, hn⟩ | ⟨hy, hy2, x, hx, hp⟩
  · have HN : Hid (z = false) := Lib.hid (by rw [← HZ.out, List.any_eq_false]; exact fun x hx => by rw [hn x hx]; exact Bool.false_ne_true)
    clear hn HI
    go_wp2_with fail
    go_ret
    exact ⟨ret_bool HN.out.symm, B1.out⟩
  · have HN : Hid (z = true) := Lib.hid (by rw [← HZ.out, List.any_eq_true]; exact ⟨x, hx, hp⟩)
    clear hp hx HI
    go_wp2_with fail
    go_ret
    exact ⟨ret_bool (Eq.trans (b := true) (by first | rfl | exact decide_eq_true hy) HN.out.symm), B1.out⟩
end Go.Proofs.YtjaopjhfjijdaaaDoor
