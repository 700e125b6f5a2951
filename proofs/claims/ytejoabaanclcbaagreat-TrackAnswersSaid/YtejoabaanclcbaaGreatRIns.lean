/- The contract of the reference's insert: ascending cells with one more. -/
import Derived.Test.YtejoabaanclcbaaGreatQao
import Derived.BigQuiet
namespace Go.Proofs.YtejoabaanclcbaaGreat
open Go.RowKit Go.Maps Go.Shelf

theorem infoCellR : (Tryz.prog.info? 126).map (fun i => (i.zero, i.size, i.bytes)) = some (some (.agg #[.int .i64 0, .int .i64 0, .int .i64 0]), 3, 24) := by kernel_rfl
theorem tr_form {w : World} {base : Nat} {e : TypeId} {v : Value} {L : List Lat.Tr} (h : w.ownsRow base e 3 v L.length (tcs L)) : ∃ A cap, v = .slice A L.length cap ∧ L.length ≤ cap ∧ cap ≤ 9223372036854775807 ∧ ∀ i (hi : i < L.length), ∃ g, A = some ⟨g, 0, none⟩ ∧ w.cell? ⟨g, i * 3, none⟩ = some (.int .i64 ((L[i]).1 : Int)) ∧ w.cell? ⟨g, i * 3 + 1, none⟩ = some (.int .i64 ((L[i]).2.1 : Int)) ∧ w.cell? ⟨g, i * 3 + 2, none⟩ = some (.int .i64 ((L[i]).2.2 : Int)) := by
  have hx := h
  rcases hx.2 with ⟨rfl, h0⟩ | ⟨g, cap, cur, rfl, hb, hh, hle, hmax, _⟩
  · exact ⟨none, 0, by rw [h0], by omega, by omega, fun i hi => by omega⟩
  · refine ⟨some ⟨g, 0, none⟩, cap, rfl, hle, by unfold maxLen at hmax; omega, fun i hi => ⟨g, rfl, ?_, ?_, ?_⟩⟩
    · rw [h.cellAt _ (by omega)]; exact (tcs_at L i hi).1
    · rw [h.cellAt _ (by omega)]; exact (tcs_at L i hi).2.1
    · rw [h.cellAt _ (by omega)]; exact (tcs_at L i hi).2.2
/-- What is known inside of insert. -/
structure InsI (W : World) (base gx : Nat) (L : List Lat.Tr) (t : Lat.Tr) (v : Value) (w : World) : Prop where
  below : Below base W w
  row : Row w gx 126 #[.int .i64 (t.1 : Int), .int .i64 (t.2.1 : Int), .int .i64 (t.2.2 : Int)]
  own : w.ownsRow base 126 3 v L.length (tcs L)
  ne : v.ownBlock ≠ some gx
  bl : base ≤ gx
theorem InsI.drewN {W w : World} {base gx n : Nat} {L : List Lat.Tr} {t : Lat.Tr} {v : Value} (h : InsI W base gx L t v w) (hb : base ≤ w.heap.size) : InsI W base gx L t v (w.drewN n) :=
  ⟨h.below.trans ((⟨rfl, rfl, rfl, Nat.le_refl _, fun _ _ => rfl⟩ : Below w.heap.size w (w.drewN n)).mono hb), h.row, h.own, h.ne, h.bl⟩
theorem own_set {w : World} {base n g cap size : Nat} {e : TypeId} {xs : List Value} (h : w.ownsRow base e size (.slice (some ⟨g, 0, none⟩) n cap) n xs) (j : Nat) (u : Value) : (w.setCell ⟨g, j, none⟩ u).ownsRow base e size (.slice (some ⟨g, 0, none⟩) n cap) n (xs.set j u) := by
  have hx := h
  rcases hx.2 with ⟨h0, _⟩ | ⟨g', cap', cur, h0, hb, hh, hle, hmax, hsz, htk⟩
  · cases h0
  · injection h0 with h0 _ h3
    injection h0 with h0
    injection h0 with h0
    subst h0
    subst h3
    exact ⟨by rw [List.length_set]; exact h.1, .inr ⟨g, cap, cur.setIfInBounds j u, rfl, hb, by rw [setCell_eq_setRow w g j cur e (0, 0) u hh]; exact setRow_heap w g cur _ e _ hh, hle, hmax, by rw [Array.size_setIfInBounds]; exact hsz, by rw [Array.toList_setIfInBounds, List.take_set, htk]⟩⟩
theorem set3 {P S : List Value} {x0 x1 x2 a b c : Value} {p : Nat} (h : P.length = p) : ((((P ++ [x0, x1, x2] ++ S).set p a).set (p + 1) b).set (p + 2) c) = P ++ [a, b, c] ++ S := by
  subst h
  rw [List.append_assoc, List.set_append_right _ _ (Nat.le_refl _), List.set_append_right _ _ (by omega), List.set_append_right _ _ (by omega), show P.length - P.length = 0 by omega, show P.length + 1 - P.length = 1 by omega, show P.length + 2 - P.length = 2 by omega]
  simp
/-- What insert leaves. -/
def InsR (W : World) (base : Nat) (L : List Lat.Tr) (t : Lat.Tr) (e : Ending) (w : World) : Prop := ∃ g cap k, e = .returned (.slice (some ⟨g, 0, none⟩) (L.length + 1) cap) ∧ k ≤ L.length ∧ (∀ i (h : i < L.length), k ≤ i → ¬ Lat.cle L[i] t) ∧ (∀ h : k - 1 < L.length, 0 < k → Lat.cle L[k - 1] t) ∧ Below base W w ∧ w.ownsRow base 126 3 (.slice (some ⟨g, 0, none⟩) (L.length + 1) cap) (L.length + 1) (tcs (Lat.insC k t L))
def z3 : List Value := [.int .i64 0, .int .i64 0, .int .i64 0]
theorem InsI.app {W w w' : World} {base gx g' cap' : Nat} {L : List Lat.Tr} {t : Lat.Tr} {v : Value} (h : InsI W base gx L t v w) (hb : base ≤ w.heap.size) (ho : w'.ownsRow base 126 3 (.slice (some ⟨g', 0, none⟩) (L.length + 1) cap') (L.length + 1) (tcs L ++ [.int .i64 0, .int .i64 0, .int .i64 0])) (hg : (w.alloc (.cells #[.int .i64 0, .int .i64 0, .int .i64 0] 126)).grownBy w' v.ownBlock) (hat : v.ownBlock = some g' ∨ g' = (w.alloc (.cells #[.int .i64 0, .int .i64 0, .int .i64 0] 126)).heap.size) :
    Below base W w' ∧ Row w' gx 126 #[.int .i64 (t.1 : Int), .int .i64 (t.2.1 : Int), .int .i64 (t.2.2 : Int)] ∧ w'.ownsRow base 126 3 (.slice (some ⟨g', 0, none⟩) (L.length + 1) cap') (L.length + 1) (tcs L ++ z3) ∧ g' ≠ gx := by
  have b1 := h.below.alloc hb (.cells #[.int .i64 0, .int .i64 0, .int .i64 0] 126)
  have o1 := h.own.alloc (.cells #[.int .i64 0, .int .i64 0, .int .i64 0] 126)
  have hl := h.row.lt
  refine ⟨below_own b1 (by simp; omega) o1 hg, ((h.row.alloc _).grown hg (fun e => h.ne e.symm)), ho, fun e => ?_⟩
  subst e
  rcases hat with e | e
  · exact h.ne e
  · simp at e; omega
set_option maxRecDepth 100000 in
set_option maxHeartbeats 8000000 in
theorem insert_any (base : Nat) (L : List Lat.Tr) (t : Lat.Tr) (v : Value) (w : World) (hb : base ≤ w.heap.size) (ho : w.ownsRow base 126 3 v L.length (tcs L)) (hl : L.length ≤ 3000) :
    Calls Tryz.prog 113 #[v, .agg #[.int .i64 (t.1 : Int), .int .i64 (t.2.1 : Int), .int .i64 (t.2.2 : Int)]] w (InsR w base L t) := by
  have hne : v.ownBlock ≠ some w.heap.size := fun e => by have := (ho.lt _ e).2; omega
  obtain ⟨A, cap, rfl, f1, f2, f3⟩ := tr_form ho
  clear f3
  have H0 : Hid (InsI w base w.heap.size L t (.slice A L.length cap) (w.alloc (.cells #[.int .i64 (t.1 : Int), .int .i64 (t.2.1 : Int), .int .i64 (t.2.2 : Int)] 126))) := Lib.hid ⟨((Below.refl w.heap.size w).alloc (Nat.le_refl _) _).mono hb, Row.new _ _ _, ho.alloc _, hne, hb⟩
  clear ho hne
  obtain ⟨ta, tb, tc'⟩ := t
  obtain ⟨i0, hi, hz0, hz1, hz2⟩ := info_parts infoCellR
  go_enter Tryz.func113, Tryz.ntmps113
  go_upto_region 1 with fail
  refine forget (fun Y => InsI w base w.heap.size L (ta, tb, tc') (.slice A L.length cap) Y) H0.out ?_
  clear H0
  generalize hgx : w.heap.size = gx at *
  have HGX := Lib.hid hgx; clear hgx
  rintro Y hY
  have HY := Lib.hid hY; clear hY
  go_wp2_with fail
  go_loopw [5] (fun s wr => ∃ k : Nat, k ≤ L.length ∧ s = .int .i64 k ∧ (∀ i (h : i < L.length), k ≤ i → ¬ Lat.cle L[i] (ta, tb, tc')) ∧ InsI w base gx L (ta, tb, tc') (.slice A L.length cap) wr) (fun s _ => (intOf s).toNat)
  case atStart => exact ⟨L.length, Nat.le_refl _, rfl, fun i h hi => by omega, HY.out⟩
  case round =>
    clear HY
    obtain ⟨k, hk, rfl, hall, M⟩ := hrel
    have HALL := Lib.hid hall; clear hall
    have HSZ := Lib.hid (show base ≤ wr.heap.size from by have := M.row.lt; omega)
    obtain ⟨bb, hbb⟩ : ∃ bb : Bool, bb = true ↔ (0 < k ∧ ∀ h : k - 1 < L.length, ¬ Lat.cle L[k - 1] (ta, tb, tc')) := by
      rcases Classical.em (0 < k ∧ ∀ h : k - 1 < L.length, ¬ Lat.cle L[k - 1] (ta, tb, tc')) with h | h
      · exact ⟨true, fun _ => h, fun _ => rfl⟩
      · exact ⟨false, fun e => (nomatch e), fun h' => absurd h' h⟩
    have HBB := Lib.hid hbb; clear hbb
    have k0 : (0 : Int) ≤ (k : Int) := by omega
    obtain ⟨q0, q1, q2⟩ := row3 M.row
    have HM := Lib.hid M; clear M
    go_upto_region 2 with fail
    go_cut [64] from 8 to 64 (fun u wc => u = .bool bb ∧ InsI w base gx L (ta, tb, tc') (.slice A L.length cap) wc)
    case first =>
      by_cases hk0 : k = 0
      · have hbf : bb = false := by
          cases bb
          · rfl
          · have := (HBB.out.1 rfl).1; omega
        subst hbf
        have d0 : decide ((0 : Int) < (k : Int)) = false := decide_eq_false (by omega)
        have d1 : decide (0 < k) = false := decide_eq_false (by omega)
        have d2 : ¬ (0 < k) := by omega
        clear hk0
        go_quiet (fail)
        go_wp2_with fail
        go_meet
        exact ⟨rfl, HM.out.drewN HSZ.out⟩
      · have hkL : k - 1 < L.length := by omega
        obtain ⟨_, _, e1, -, -, hf⟩ := tr_form HM.out.own
        obtain ⟨g, e2, c0, c1, c2⟩ := hf (k - 1) hkL
        injection e1 with e1 _ e3
        subst e3
        rw [← e1] at e2
        clear e1 hf
        subst e2
        have HC : Hid (bb = true ↔ ¬ Lat.cle L[k - 1] (ta, tb, tc')) := Lib.hid (by
          rw [HBB.out]
          exact ⟨fun h => h.2 hkL, fun h => ⟨by omega, fun _ => h⟩⟩)
        generalize L[k - 1] = s at *
        obtain ⟨p, q, r⟩ := s
        have hkp : (0 : Int) < (k : Int) := by omega
        have hkq : 0 < k := by omega
        have w1 : IntKind.i64.wrap ((k : Int) - 1) = (k : Int) - 1 := IntWalk.i64_in _ (by omega)
        have w2 : ((k : Int) - 1).toNat = k - 1 := by omega
        have w3 : (0 : Int) ≤ (k : Int) - 1 := by omega
        have w4 : (k : Int) - 1 < (L.length : Int) := by omega
        have d0 : decide ((0 : Int) < (k : Int)) = true := decide_eq_true hkp
        simp only at c0 c1 c2 q0 q1 q2
        clear hk0
        rcases Nat.lt_trichotomy ta p with h | h | h
        · obtain rfl : bb = true := HC.out.2 (by unfold Lat.cle; simp only; omega)
          have y1 : decide ((ta : Int) < (p : Int)) = true := decide_eq_true (by omega)
          have y2 : decide (ta < p) = true := decide_eq_true (by omega)
          clear h
          go_quiet (fail)
          go_wp2_with fail
          go_meet
          exact ⟨rfl, HM.out.drewN HSZ.out⟩
        · subst h
          rcases Nat.lt_trichotomy tb q with h | h | h
          · obtain rfl : bb = true := HC.out.2 (by unfold Lat.cle; simp only; omega)
            have y3 : decide ((tb : Int) < (q : Int)) = true := decide_eq_true (by omega)
            have y4 : decide (tb < q) = true := decide_eq_true (by omega)
            clear h
            go_quiet (fail)
            go_wp2_with fail
            go_meet
            exact ⟨rfl, HM.out.drewN HSZ.out⟩
          · subst h
            by_cases h : tc' < r
            · obtain rfl : bb = true := HC.out.2 (by unfold Lat.cle; simp only; omega)
              have y5 : decide ((tc' : Int) < (r : Int)) = true := decide_eq_true (by omega)
              have y6 : decide (tc' < r) = true := decide_eq_true (by omega)
              clear h
              go_quiet (fail)
              go_wp2_with fail
              go_meet
              exact ⟨rfl, HM.out.drewN HSZ.out⟩
            · obtain rfl : bb = false := by
                cases bb
                · rfl
                · exact (HC.out.1 rfl (.inr ⟨rfl, .inr ⟨rfl, show r ≤ tc' from by omega⟩⟩)).elim
              have y7 : decide ((tc' : Int) < (r : Int)) = false := decide_eq_false (by omega)
              have y8 : decide (tc' < r) = false := decide_eq_false (by omega)
              clear h
              go_quiet (fail)
              go_wp2_with fail
              go_meet
              exact ⟨rfl, HM.out.drewN HSZ.out⟩
          · obtain rfl : bb = false := by
              cases bb
              · rfl
              · exact (HC.out.1 rfl (.inr ⟨rfl, .inl (show q < tb from by omega)⟩)).elim
            have y9 : decide ((tb : Int) < (q : Int)) = false := decide_eq_false (by omega)
            have y10 : decide (tb < q) = false := decide_eq_false (by omega)
            have y11 : decide ((tb : Int) = (q : Int)) = false := decide_eq_false (by omega)
            have y12 : decide (tb = q) = false := decide_eq_false (by omega)
            have y13 : ((tb : Int) == (q : Int)) = false := beq_eq_false_iff_ne.2 (by omega)
            have y14 : ¬ (tb = q) := by omega
            clear h
            go_quiet (fail)
            go_wp2_with fail
            go_meet
            exact ⟨rfl, HM.out.drewN HSZ.out⟩
        · obtain rfl : bb = false := by
            cases bb
            · rfl
            · exact (HC.out.1 rfl (by unfold Lat.cle; simp only; omega)).elim
          have y15 : decide ((ta : Int) < (p : Int)) = false := decide_eq_false (by omega)
          have y16 : decide (ta < p) = false := decide_eq_false (by omega)
          have y17 : decide ((ta : Int) = (p : Int)) = false := decide_eq_false (by omega)
          have y18 : decide (ta = p) = false := decide_eq_false (by omega)
          have y19 : ((ta : Int) == (p : Int)) = false := beq_eq_false_iff_ne.2 (by omega)
          have y20 : ¬ (ta = p) := by omega
          clear h
          go_quiet (fail)
          go_wp2_with fail
          go_meet
          exact ⟨rfl, HM.out.drewN HSZ.out⟩
    case rest =>
      obtain ⟨rfl, M⟩ := hcut
      clear HM q0 q1 q2
      cases bb
      · have HNO := Lib.hid (fun (h : k - 1 < L.length) (h0 : 0 < k) => (show Lat.cle L[k - 1] (ta, tb, tc') from Classical.byContradiction fun hc => nomatch (HBB.out.2 ⟨h0, fun _ => hc⟩)))
        have HM := Lib.hid M; clear M
        have HO := Lib.hid (HM.out.own.alloc (.cells #[.int .i64 0, .int .i64 0, .int .i64 0] 126))
        have hsz : base ≤ wc.heap.size := by have := HM.out.row.lt; have := HM.out.bl; omega
        go_wp2_with (at_builtin; refine wpList_append_lies _ rfl (.tmp 67) (.tmp 69) 122 rfl base 126 i0 _ 3 24 Tryz.underlying122 hi hz0 hz1 hz2 rfl (by decide) (.slice A L.length cap) L.length (tcs L) rfl HO.out ⟨wc.heap.size, 0, none⟩ 1 1 [.int .i64 0, .int .i64 0, .int .i64 0] rfl rfl (World.news_of_block (cs := #[.int .i64 0, .int .i64 0, .int .i64 0]) (t := 126) (fr := (0, 0)) (heap_alloc_new _ _)) (by simp [Value.oneCell']) (by omega) (by unfold maxLen; omega) (by omega) (by have := HM.out.row.lt; have := HM.out.bl; simp; omega) _ rfl ?_; intro g' cap' w6 hown6 hgrow6 hat6 hlt6; have H6 := Lib.hid (HM.out.app hsz hown6 hgrow6 hat6); clear hown6 hgrow6 hat6 hlt6 HO HM)
        go_upto_region 5 with fail
        refine forget (fun Z => Below base w Z ∧ Row Z gx 126 #[.int .i64 (ta : Int), .int .i64 (tb : Int), .int .i64 (tc' : Int)] ∧ Z.ownsRow base 126 3 (.slice (some ⟨g', 0, none⟩) (L.length + 1) cap') (L.length + 1) (tcs L ++ z3) ∧ g' ≠ gx) H6.out ?_
        clear H6 hsz
        rintro Z hZ
        have HZ := Lib.hid hZ
        obtain ⟨-, -, o4, -⟩ := hZ
        obtain ⟨e1, e2, e3, e4, -⟩ := own_heap o4
        clear o4
        obtain ⟨cur, u1, u2, u3, u4⟩ := copied (Y := z3) rfl HZ.out.2.2.1 hk
        have U1 := Lib.hid u1; clear u1
        have U3 := Lib.hid u3; clear u3
        have U4 := Lib.hid u4; clear u4
        have hone : ∀ u ∈ tcs (L.drop k), u.oneCell' = true := fun u hu => by
          unfold tcs at hu
          obtain ⟨y, -, hy⟩ := List.mem_flatMap.1 hu
          exact tc_one y u hy
        have HONE := Lib.hid hone; clear hone
        have hlen : (tcs (L.drop k)).length = (L.length - k) * 3 := by rw [tcs_len, List.length_drop]
        rw [hlen] at u2
        have HLEN := Lib.hid hlen; clear hlen
        have w1 : IntKind.i64.wrap ((k : Int) + 1) = (k : Int) + 1 := IntWalk.i64_in _ (by omega)
        have w2 : ((k : Int) + 1).toNat = k + 1 := by omega
        have w3 : (0 : Int) ≤ (k : Int) + 1 := by omega
        have w4 : (k : Int) + 1 ≤ ((L.length + 1 : Nat) : Int) := by omega
        have w5 : (k : Int) ≤ ((L.length + 1 : Nat) : Int) := by omega
        have w6' : k + 1 ≤ L.length + 1 := by omega
        have w7 : k ≤ L.length + 1 := by omega
        have w8 : k + 1 ≤ cap' := by omega
        have w9 : k ≤ cap' := by omega
        have wa : (k : Int) + 1 ≤ (L.length : Int) + 1 := by omega
        have wb : (k : Int) ≤ (L.length : Int) + 1 := by omega
        have wc' : ((L.length : Int) + 1) ≤ (cap' : Int) := by omega
        have we : ¬ (cap' = k) := by omega
        have wf : (L.length + 1 : Nat) ≤ cap' := by omega
        go_cut [78] from 71 to 78 (fun _ wc => (Below base w wc ∧ Row wc gx 126 #[.int .i64 (ta : Int), .int .i64 (tb : Int), .int .i64 (tc' : Int)]) ∧ ∃ X : List Value, X.length = 3 ∧ wc.ownsRow base 126 3 (.slice (some ⟨g', 0, none⟩) (L.length + 1) cap') (L.length + 1) (tcs (L.take k) ++ X ++ tcs (L.drop k)))
        case first =>
          by_cases wd : cap' = k + 1
          · have HKL := Lib.hid (show k = L.length by omega)
            subst wd
            go_still_tail 7, (by kernel_rfl)
            change wpList _ _ _ _ _ Z.drew
            refine wpList_copy_wide rfl (.tmp 74) (.tmp 77) 122 122 rfl 126 3 Tryz.underlying122 (by kernel_rfl) _ _ _ _ _ _ _ rfl rfl cur 126 ?_ (tcs (L.drop k)) ?_ ?_ ?_ HONE.out ?_
            · exact U1.out
            · rw [HLEN.out]; have := HKL.out; show _ = min _ _ * 3; omega
            · exact U3.out
            · rw [HLEN.out]; have := HKL.out; omega
            have HW := Lib.hid (U4.out (Z.drew.setRow g' _) (setRow_heap Z.drew g' cur _ 126 _ U1.out))
            have HB := Lib.hid (below_setRow (g := g') (HZ.out.1.trans ((⟨rfl, rfl, rfl, Nat.le_refl _, fun _ _ => rfl⟩ : Below Z.heap.size Z Z.drew).mono (by omega))) e1)
            have HR := Lib.hid (fun cs => (setRow_other Z.drew g' gx cs HZ.out.2.2.2.symm).trans HZ.out.2.1)
            rw [show cur.toList.take 0 ++ tcs (L.drop k) ++ cur.toList.drop (0 + (tcs (L.drop k)).length) = cur.toList.take ((k + 1) * 3) ++ tcs (L.drop k) ++ cur.toList.drop ((k + 1) * 3 + (tcs (L.drop k)).length) from by rw [List.eq_nil_of_length_eq_zero (show (tcs (L.drop k)).length = 0 by rw [HLEN.out]; have := HKL.out; omega)]; simp]
            go_wp2_with fail
            go_meet
            exact ⟨⟨HB.out _, HR.out _⟩, HW.out⟩
          · have hkx : k + 1 ≤ cap' := w8
            go_still_tail 7, (by kernel_rfl)
            change wpList _ _ _ _ _ Z.drew
            refine wpList_copy_wide rfl (.tmp 74) (.tmp 77) 122 122 rfl 126 3 Tryz.underlying122 (by kernel_rfl) _ _ _ _ _ _ _ rfl rfl cur 126 ?_ (tcs (L.drop k)) ?_ ?_ ?_ HONE.out ?_
            · exact U1.out
            · rw [HLEN.out]; show _ = min _ _ * 3; omega
            · exact U3.out
            · rw [HLEN.out]; omega
            have HW := Lib.hid (U4.out (Z.drew.setRow g' _) (setRow_heap Z.drew g' cur _ 126 _ U1.out))
            have HB := Lib.hid (below_setRow (g := g') (HZ.out.1.trans ((⟨rfl, rfl, rfl, Nat.le_refl _, fun _ _ => rfl⟩ : Below Z.heap.size Z Z.drew).mono (by omega))) e1)
            have HR := Lib.hid (fun cs => (setRow_other Z.drew g' gx cs HZ.out.2.2.2.symm).trans HZ.out.2.1)
            go_wp2_with fail
            go_meet
            exact ⟨⟨HB.out _, HR.out _⟩, HW.out⟩
        case rest =>
          obtain ⟨⟨bZ, rZ⟩, X, hX, oX⟩ := hcut
          clear w1 w2 w3 w4 w5 w6' w8 wa wb wc' we wf u2 HLEN HONE U1 U3 U4
          have HNG := Lib.hid HZ.out.2.2.2; clear HZ
          obtain ⟨q0, q1, q2⟩ := row3 rZ
          obtain ⟨x0, x1, x2, rfl⟩ : ∃ x0 x1 x2, X = [x0, x1, x2] := by
            match X, hX with
            | [a, b, c], _ => exact ⟨a, b, c, rfl⟩
          have hl1 : (tcs (L.take k)).length = k * 3 := by rw [tcs_len, List.length_take, Nat.min_eq_left hk]
          have hxx : ∀ i (h : i < 3), wc.cell? ⟨g', k * 3 + i, none⟩ = [x0, x1, x2][i]? := fun i h => by
            rw [oX.cellAt _ (by omega), List.append_assoc, List.getElem?_append_right (by omega), hl1, show k * 3 + i - k * 3 = i by omega, List.getElem?_append_left (by simpa using h)]
          have c0 : wc.cell? ⟨g', k * 3, none⟩ = some x0 := hxx 0 (by omega)
          have c1 : wc.cell? ⟨g', k * 3 + 1, none⟩ = some x1 := hxx 1 (by omega)
          have c2 : wc.cell? ⟨g', k * 3 + 2, none⟩ = some x2 := hxx 2 (by omega)
          have z0 := oX.frozenAt (k * 3)
          have z1 := oX.frozenAt (k * 3 + 1)
          have z2 := oX.frozenAt (k * 3 + 2)
          have k2 : (k : Int) < (L.length : Int) + 1 := by omega
          have k3 : k < L.length + 1 := by omega
          have HL1 := Lib.hid hl1; clear hl1 hxx hX
          have HOX := Lib.hid oX; clear oX
          have HBZ := Lib.hid bZ; clear bZ
          have HRZ := Lib.hid rZ; clear rZ
          go_wp2_with fail
          go_ret
          have o1 := own_set (own_set (own_set HOX.out (k * 3) (.int .i64 (ta : Int))) (k * 3 + 1) (.int .i64 (tb : Int))) (k * 3 + 2) (.int .i64 (tc' : Int))
          rw [set3 HL1.out] at o1
          have b1 : Below base w (wc.setCell ⟨g', k * 3, none⟩ (.int .i64 (ta : Int))) := below_by HBZ.out (by have := HRZ.out.lt; omega) e1 (grown_one _ _ _ _)
          have b2 : Below base w ((wc.setCell ⟨g', k * 3, none⟩ (.int .i64 (ta : Int))).setCell ⟨g', k * 3 + 1, none⟩ (.int .i64 (tb : Int))) := below_by b1 (by have := HRZ.out.lt; simp [World.setCell]; omega) e1 (grown_one _ _ _ _)
          have b3 : Below base w (((wc.setCell ⟨g', k * 3, none⟩ (.int .i64 (ta : Int))).setCell ⟨g', k * 3 + 1, none⟩ (.int .i64 (tb : Int))).setCell ⟨g', k * 3 + 2, none⟩ (.int .i64 (tc' : Int))) := below_by b2 (by have := HRZ.out.lt; simp [World.setCell]; omega) e1 (grown_one _ _ _ _)
          refine ⟨g', cap', k, rfl, hk, HALL.out, HNO.out, b3, ?_⟩
          have e5 : tcs (Lat.insC k (ta, tb, tc') L) = tcs (L.take k) ++ [.int .i64 (ta : Int), .int .i64 (tb : Int), .int .i64 (tc' : Int)] ++ tcs (L.drop k) := by
            unfold Lat.insC
            rw [tcs_app, List.append_assoc]
            rfl
          rw [e5]
          exact o1
      · have h0 := (HBB.out.1 rfl).1
        have hlk : k - 1 < L.length := by omega
        have HNX : Hid (∀ i (h : i < L.length), k - 1 ≤ i → ¬ Lat.cle L[i] (ta, tb, tc')) := Lib.hid (fun i h hi => by
          rcases Nat.lt_or_ge i k with h1 | h1
          · obtain rfl : i = k - 1 := by omega
            exact (HBB.out.1 rfl).2 h
          · exact HALL.out i h h1)
        have HM := Lib.hid M; clear M
        have w1 : IntKind.i64.wrap ((k : Int) - 1) = (k : Int) - 1 := IntWalk.i64_in _ (by omega)
        go_wp2_with fail
        go_roundw
        case rel => exact ⟨k - 1, by omega, by congr 1; omega, HNX.out, HM.out⟩
        case measure => simp [intOf]; omega
end Go.Proofs.YtejoabaanclcbaaGreat


