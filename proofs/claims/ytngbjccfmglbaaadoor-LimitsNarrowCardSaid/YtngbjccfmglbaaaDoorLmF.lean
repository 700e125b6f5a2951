/- Lists compared; the sanity check. -/
import Derived.Test.YtngbjccfmglbaaaDoorLmE
namespace Go.Proofs.YtngbjccfmglbaaaDoor
open Go.RowKit

theorem RdIn.row {w : World} {g : Nat} {t : TypeId} {L : List Elt.R} (h : Row w g t (rdc L).toArray) (hl : L.length ≤ 1000) : RdIn w (.slice (some ⟨g, 0, none⟩) L.length L.length) L :=
  ⟨some ⟨g, 0, none⟩, L.length, rfl, Nat.le_refl _, by omega, fun i hi => ⟨g, 0, rfl, h.lt, by rw [h.cell, Nat.zero_add]; simpa using (rdc_at L i hi).1, by rw [h.cell, Nat.zero_add]; simpa using (rdc_at L i hi).2⟩⟩
theorem NmIn.row {w : World} {g : Nat} {t : TypeId} {C : List Int} (h : Row w g t (nmc C).toArray) (hl : C.length ≤ 1000) : NmIn w (.slice (some ⟨g, 0, none⟩) C.length C.length) C :=
  ⟨some ⟨g, 0, none⟩, C.length, rfl, Nat.le_refl _, by omega, fun i hi => ⟨g, 0, rfl, h.lt, by rw [h.cell, Nat.zero_add]; simpa using nmc_at hi⟩⟩
/-- The first numbers agree. -/
def eqTo (a b : List Int) (i : Nat) : Prop := ∀ j, j < i → a[j]? = b[j]?
theorem eqTo_all {a b : List Int} (hl : a.length = b.length) (h : eqTo a b a.length) : a = b := by
  refine List.ext_getElem? fun i => ?_
  by_cases hi : i < a.length
  · exact h i hi
  · rw [List.getElem?_eq_none (by omega), List.getElem?_eq_none (by omega)]
theorem NmIn.at {w : World} {A : Option Addr} {n c : Nat} {C : List Int} (h : NmIn w (.slice A n c) C) {i : Nat} (hi : i < C.length) : ∃ g off, A = some ⟨g, off, none⟩ ∧ w.cell? ⟨g, off + i, none⟩ = some (.int .i64 C[i]) := by
  obtain ⟨A', cap, e, -, -, h3⟩ := h
  injection e with e1 e2 e3
  subst e1
  obtain ⟨g, off, rfl, -, c0⟩ := h3 i hi
  exact ⟨g, off, rfl, c0⟩
set_option maxHeartbeats 4000000 in
theorem ints_any (u v : Value) (a b : List Int) (w : World) (ha : NmIn w u a) (hb : NmIn w v b) :
    Calls Tryd.prog 24 #[u, v] w fun e w' => e = .returned (.bool (decide (a = b))) ∧ Below w.heap.size w w' := by
  obtain ⟨A, c1, rfl, l1, l2, -⟩ := id ha
  obtain ⟨B, c2, rfl, l3, l4, -⟩ := id hb
  have HA := Lib.hid ha; clear ha
  have HB := Lib.hid hb; clear hb
  obtain ⟨z, hz⟩ : ∃ z, decide (a = b) = z := ⟨_, rfl⟩
  have HZ := Lib.hid hz
  rw [hz]; clear hz
  by_cases hn : a.length = b.length
  · have HN := Lib.hid hn
    have k9 : ((a.length : Int) == (b.length : Int)) = true := by rw [beq_iff_eq]; omega
    rw [← hn] at HB k9 l3 ⊢
    clear hn k9
    go_enter Tryd.func24, Tryd.ntmps24
    go_wp2_with fail
    go_loopw [5] (fun t wr => ∃ i : Nat, i ≤ a.length ∧ t = .int .i64 (i : Int) ∧ Hid (eqTo a b i) ∧ Hid (Below w.heap.size w wr)) (fun t _ => a.length - (intOf t).toNat)
    case atStart => exact ⟨0, by omega, rfl, Lib.hid (fun i hi => by omega), Lib.hid (Below.refl _ _)⟩
    case round =>
      obtain ⟨i, hi, rfl, HT, HW⟩ := hrel
      by_cases hlt : i < a.length
      · have k0 : (i : Int) < (a.length : Int) := by omega
        have k1 : (0 : Int) ≤ (i : Int) := by omega
        have hib : i < b.length := by have := HN.out; omega
        obtain ⟨g, o1, rfl, p1⟩ := (HA.out.under HW.out).at hlt
        obtain ⟨g', o2, rfl, q1⟩ := (HB.out.under HW.out).at hib
        have HST := Lib.hid (show a[i] = b[i] → eqTo a b (i + 1) from fun h j hj => by
          rcases (by omega : j < i ∨ j = i) with hj' | rfl
          · exact HT.out j hj'
          · rw [List.getElem?_eq_getElem hlt, List.getElem?_eq_getElem hib, h])
        have HNO := Lib.hid (show a[i] ≠ b[i] → ¬ a = b from fun h h' => by subst h'; exact h rfl)
        generalize a[i] = x at *
        generalize b[i] = y at *
        clear hib
        go_upto_region 6 with fail
        refine wp_region_held_drew (S := fun w' : World => w'.cell? ⟨g, o1 + i, none⟩ = some (.int .i64 x) ∧ w'.cell? ⟨g', o2 + i, none⟩ = some (.int .i64 y)) (by kernel_rfl) ⟨p1, q1⟩ (fun hHeld => ?_)
        refine wpAnyH_take (i := 0) (oi := ⟨some 17, _, _, _, _, none⟩) (v := ?_) rfl (by kernel_rfl) (by kernel_rfl) (by kernel_rfl) (fun _ _ _ h => h) (Or.inl ⟨by rfl, ?_⟩) (by assumption) ?_
        case refine_2 => (intro wx hSx; (try dsimp only at hSx); go_simp; first | done | with_reducible rfl)
        ((try simp only [Act.put]); (try simp only [List.setIfInBounds_toArray]); (try simp only [List.set_cons_succ]); (try simp only [List.set_cons_zero]))
        refine wpAnyH_take (i := 1) (oi := ⟨some 18, _, _, _, _, none⟩) (v := ?_) rfl (by kernel_rfl) (by kernel_rfl) (by kernel_rfl) (fun _ _ _ h => h) (Or.inl ⟨by rfl, ?_⟩) (by assumption) ?_
        case refine_2 => (intro wx hSx; (try dsimp only at hSx); go_simp; first | done | with_reducible rfl)
        ((try simp only [Act.put]); (try simp only [List.setIfInBounds_toArray]); (try simp only [List.set_cons_succ]); (try simp only [List.set_cons_zero]))
        refine wpAnyH_take (i := 2) (oi := ⟨some 19, _, _, _, _, none⟩) (v := ?_) rfl (by kernel_rfl) (by kernel_rfl) (by kernel_rfl) (fun _ _ _ h => h) (Or.inl ⟨by rfl, ?_⟩) (by assumption) ?_
        case refine_2 => (intro wx hSx; (try dsimp only at hSx); go_simp; first | done | with_reducible rfl)
        ((try simp only [Act.put]); (try simp only [List.setIfInBounds_toArray]); (try simp only [List.set_cons_succ]); (try simp only [List.set_cons_zero]))
        refine wpAnyH_take (i := 3) (oi := ⟨some 20, _, _, _, _, none⟩) (v := ?_) rfl (by kernel_rfl) (by kernel_rfl) (by kernel_rfl) (fun _ _ _ h => h) (Or.inl ⟨by rfl, ?_⟩) (by assumption) ?_
        case refine_2 => (intro wx hSx; (try dsimp only at hSx); go_simp; first | done | with_reducible rfl)
        ((try simp only [Act.put]); (try simp only [List.setIfInBounds_toArray]); (try simp only [List.set_cons_succ]); (try simp only [List.set_cons_zero]))
        refine wpAnyH_take (i := 4) (oi := ⟨some 21, _, _, _, _, none⟩) (v := ?_) rfl (by kernel_rfl) (by kernel_rfl) (by kernel_rfl) (fun _ _ _ h => h) (Or.inl ⟨by rfl, ?_⟩) (by assumption) ?_
        case refine_2 => (intro wx hSx; (try dsimp only at hSx); go_simp; first | done | with_reducible rfl)
        ((try simp only [Act.put]); (try simp only [List.setIfInBounds_toArray]); (try simp only [List.set_cons_succ]); (try simp only [List.set_cons_zero]))
        refine wpAnyH_take (i := 5) (oi := ⟨some 22, _, _, _, _, none⟩) (v := ?_) rfl (by kernel_rfl) (by kernel_rfl) (by kernel_rfl) (fun _ _ _ h => h) (Or.inl ⟨by rfl, ?_⟩) (by assumption) ?_
        case refine_2 => (intro wx hSx; (try dsimp only at hSx); go_simp; first | done | with_reducible rfl)
        ((try simp only [Act.put]); (try simp only [List.setIfInBounds_toArray]); (try simp only [List.set_cons_succ]); (try simp only [List.set_cons_zero]))
        refine wpAnyH_take (i := 6) (oi := ⟨some 23, _, _, _, _, none⟩) (v := ?_) rfl (by kernel_rfl) (by kernel_rfl) (by kernel_rfl) (fun _ _ _ h => h) (Or.inl ⟨by rfl, ?_⟩) (by assumption) ?_
        case refine_2 => (intro wx hSx; (try dsimp only at hSx); go_simp; first | done | with_reducible rfl)
        ((try simp only [Act.put]); (try simp only [List.setIfInBounds_toArray]); (try simp only [List.set_cons_succ]); (try simp only [List.set_cons_zero]))
        refine wpAnyH_take (i := 7) (oi := ⟨some 24, _, _, _, _, none⟩) (v := ?_) rfl (by kernel_rfl) (by kernel_rfl) (by kernel_rfl) (fun _ _ _ h => h) (Or.inl ⟨by rfl, ?_⟩) (by assumption) ?_
        case refine_2 => (intro wx hSx; (try dsimp only at hSx); go_simp; first | done | with_reducible rfl)
        ((try simp only [Act.put]); (try simp only [List.setIfInBounds_toArray]); (try simp only [List.set_cons_succ]); (try simp only [List.set_cons_zero]))
        refine wpAnyH_take (i := 8) (oi := ⟨some 25, _, _, _, _, none⟩) (v := ?_) rfl (by kernel_rfl) (by kernel_rfl) (by kernel_rfl) (fun _ _ _ h => h) (Or.inl ⟨by rfl, ?_⟩) (by assumption) ?_
        case refine_2 => (intro wx hSx; (try dsimp only at hSx); go_simp; first | done | with_reducible rfl)
        ((try simp only [Act.put]); (try simp only [List.setIfInBounds_toArray]); (try simp only [List.set_cons_succ]); (try simp only [List.set_cons_zero]))
        refine wpAnyH_done (by kernel_rfl) ?_ _
        have HB2 := Lib.hid (HW.out.trans (show Below w.heap.size wr wr.drew from ⟨rfl, rfl, rfl, Nat.le_refl _, fun _ _ => rfl⟩))
        clear hHeld p1 q1
        by_cases hxy : x = y
        · have HS2 := Lib.hid (HST.out hxy)
          subst hxy
          clear HST HNO
          go_wp2_with fail
          go_roundw
          case rel => exact ⟨i + 1, by omega, by go_num, HS2, HB2⟩
          case measure => simp [intOf]; omega
        · have hc : ((x : Int) == (y : Int)) = false := by rw [beq_eq_false_iff_ne]; omega
          have HF : Hid (z = false) := Lib.hid (by rw [← HZ.out]; exact decide_eq_false (HNO.out hxy))
          clear HST HNO hxy
          go_wp2_with fail
          go_ret
          exact ⟨ret_bool HF.out.symm, HB2.out⟩
      · have k0 : ¬ (i : Int) < (a.length : Int) := by omega
        have HF : Hid (z = true) := Lib.hid (by
          rw [← HZ.out]
          have e : i = a.length := by omega
          exact decide_eq_true (eqTo_all HN.out (e ▸ HT.out)))
        go_wp2_with fail
        go_ret
        exact ⟨ret_bool HF.out.symm, HW.out⟩
  · have k9 : ((a.length : Int) == (b.length : Int)) = false := by rw [beq_eq_false_iff_ne]; omega
    have HF : Hid (z = false) := Lib.hid (by rw [← HZ.out]; exact decide_eq_false (fun h => hn (by rw [h])))
    clear hn
    go_enter Tryd.func24, Tryd.ntmps24
    go_wp2_with fail
    go_ret
    exact ⟨ret_bool HF.out.symm, Below.refl _ _⟩
theorem ck_a {C : List Int} (h : Lm.Ck [(2, 2800), (3, 2810)] C) : C = [2, 3] := h.eq (by decide) (fun x => by rw [show Lm.raw [(2, 2800), (3, 2810)] = [2, 3] from by decide +kernel])
theorem ck_b {C : List Int} (h : Lm.Ck [(2, 2800), (3, 2800)] C) : C = [] := h.eq (by decide) (fun x => by rw [show Lm.raw [(2, 2800), (3, 2800)] = [] from by decide +kernel])
theorem ck_c {C : List Int} (h : Lm.Ck [(4, 700), (5, 700)] C) : C = [4, 5] := h.eq (by decide) (fun x => by rw [show Lm.raw [(4, 700), (5, 700)] = [4, 5] from by decide +kernel])
theorem smalls_two (a b c d : Int) (h : -100000 ≤ b ∧ b ≤ 100000 ∧ -100000 ≤ d ∧ d ≤ 100000) : Smalls [(a, b), (c, d)] := ⟨by simp, fun r hr => by
  simp only [List.mem_cons, List.not_mem_nil, or_false] at hr
  rcases hr with rfl | rfl
  · exact ⟨h.1, h.2.1⟩
  · exact ⟨h.2.2.1, h.2.2.2⟩⟩
/-- What is known between the steps of the sanity check. -/
structure Aw (W : World) (u v : Value) (A B : List Int) (w : World) : Prop where
  below : Below W.heap.size W w
  a : NmIn w u A
  b : NmIn w v B
set_option maxRecDepth 100000 in
set_option maxHeartbeats 2000000 in
theorem awake_any (w : World) (hE : Env w) :
    Calls Tryd.prog 13 #[] w fun e w' => e = .returned (.bool true) ∧ Below w.heap.size w w' := by
  have HE := Lib.hid hE
  clear hE
  have B1 : Hid (Below w.heap.size w (w.alloc (.cells #[.int .i64 2, .int .i64 2800, .int .i64 3, .int .i64 2810] 30))) := Lib.hid ((Below.refl _ _).alloc (Nat.le_refl _) _)
  have C1 := Lib.hid (check_any _ [(2, 2800), (3, 2810)] _ (RdIn.row (L := [(2, 2800), (3, 2810)]) (Row.new w #[.int .i64 2, .int .i64 2800, .int .i64 3, .int .i64 2810] 30) (by decide)) (smalls_two _ _ _ _ (by decide)) (HE.out.under B1.out))
  go_enter Tryd.func13, Tryd.ntmps13
  go_wp2_with fail
  refine C1.out.mono ?_
  rintro e w1 ⟨u1, A1, rfl, ck, g1, n1⟩
  obtain rfl := ck_a ck
  have N1 := Lib.hid n1
  have D1 := Lib.hid (B1.out.trans (g1.mono B1.out.size))
  clear g1 n1 ck C1 B1
  have B2 : Hid (Below w1.heap.size w1 (w1.alloc (.cells #[.int .i64 2, .int .i64 2800, .int .i64 3, .int .i64 2800] 30))) := Lib.hid ((Below.refl _ _).alloc (Nat.le_refl _) _)
  have C2 := Lib.hid (check_any _ [(2, 2800), (3, 2800)] _ (RdIn.row (L := [(2, 2800), (3, 2800)]) (Row.new w1 #[.int .i64 2, .int .i64 2800, .int .i64 3, .int .i64 2800] 30) (by decide)) (smalls_two _ _ _ _ (by decide)) ((HE.out.under D1.out).under B2.out))
  go_wp2_with fail
  refine C2.out.mono ?_
  rintro e w2 ⟨u2, A2, rfl, ck, g2, n2⟩
  obtain rfl := ck_b ck
  have D2 := Lib.hid (B2.out.trans (g2.mono B2.out.size))
  have N2 := Lib.hid (N1.out.under D2.out)
  have M2 := Lib.hid n2
  have E2 := Lib.hid (D1.out.trans (D2.out.mono D1.out.size))
  clear g2 n2 ck C2 B2 N1 D2 D1
  have B3 : Hid (Below w2.heap.size w2 (w2.alloc (.cells #[.int .i64 4, .int .i64 700, .int .i64 5, .int .i64 700] 30))) := Lib.hid ((Below.refl _ _).alloc (Nat.le_refl _) _)
  have C3 := Lib.hid (check_any _ [(4, 700), (5, 700)] _ (RdIn.row (L := [(4, 700), (5, 700)]) (Row.new w2 #[.int .i64 4, .int .i64 700, .int .i64 5, .int .i64 700] 30) (by decide)) (smalls_two _ _ _ _ (by decide)) ((HE.out.under E2.out).under B3.out))
  go_wp2_with fail
  refine C3.out.mono ?_
  rintro e w3 ⟨u3, A3, rfl, ck, g3, n3⟩
  obtain rfl := ck_c ck
  have D3 := Lib.hid (B3.out.trans (g3.mono B3.out.size))
  have N3 := Lib.hid (N2.out.under D3.out)
  have M3 := Lib.hid (M2.out.under D3.out)
  have O3 := Lib.hid n3
  have E3 := Lib.hid (E2.out.trans (D3.out.mono E2.out.size))
  clear g3 n3 ck C3 B3 N2 M2 D3 E2
  obtain ⟨A0, cp0, e0, -⟩ := id M3.out
  subst e0
  have b4 := (Below.refl w3.heap.size w3).alloc (Nat.le_refl _) (.cells #[.int .i64 2, .int .i64 3] 3)
  have B4 := Lib.hid b4
  have i1 := (ints_any u1 _ [2, 3] [2, 3] _ (N3.out.under b4) (NmIn.row (C := [2, 3]) (Row.new w3 #[.int .i64 2, .int .i64 3] 3) (by decide)))
  rw [decide_eq_true rfl] at i1
  have I1 := Lib.hid i1
  clear b4 i1
  go_wp2_with fail
  refine I1.out.mono ?_
  rintro e w4 ⟨rfl, g4⟩
  have D4 := Lib.hid (B4.out.trans (g4.mono B4.out.size))
  clear g4 I1 B4
  have b5 := (Below.refl w4.heap.size w4).alloc (Nat.le_refl _) (.cells #[.int .i64 4, .int .i64 5] 3)
  have B5 := Lib.hid b5
  have i2 := (ints_any u3 _ [4, 5] [4, 5] _ ((O3.out.under D4.out).under b5) (NmIn.row (C := [4, 5]) (Row.new w4 #[.int .i64 4, .int .i64 5] 3) (by decide)))
  rw [decide_eq_true rfl] at i2
  have I2 := Lib.hid i2
  clear b5 i2
  go_wp2_with fail
  refine I2.out.mono ?_
  rintro e w5 ⟨rfl, g5⟩
  have D5 := Lib.hid (E3.out.trans ((D4.out.trans ((B5.out.trans (g5.mono B5.out.size)).mono D4.out.size)).mono E3.out.size))
  clear g5 I2 B5
  go_wp2_with fail
  go_ret
  exact ⟨rfl, D5.out⟩
theorem awake_from {w0 : World} (X : World) (hE : Env X) (hb : Below w0.heap.size w0 X) :
    Calls Tryd.prog 13 #[] X fun e w' => e = .returned (.bool true) ∧ Below w0.heap.size w0 w' :=
  (awake_any X hE).mono fun _ _ ⟨he, hg⟩ => ⟨he, hb.trans (hg.mono hb.size)⟩
end Go.Proofs.YtngbjccfmglbaaaDoor
