/- The walk of TableJoins. -/
import Derived.Test.YtjaopjhfjijdaaaDoorJof
import Derived.Test.YtjaopjhfjijdaaaDoorRf
namespace Go.Proofs.YtjaopjhfjijdaaaDoor
open Go.RowKit

/-- What the law holds while it draws. -/
def Jp (W : World) (b base g4 : Nat) (va vb : Value) (es : List En) (ss : List Sq) (L : List (Int × Value)) (u : Value) (Ca : List Int) (t : Value) (Cb : List Int) (Y : World) : Prop := Src W b Y ∧ Row Y g4 25 #[.int .i64 1, va, vb] ∧ TbL b base Y va vb es ss L ∧ NmO b Y u Ca ∧ NmO b Y t Cb
theorem Jp.under {W : World} {b base g4 : Nat} {va vb : Value} {es : List En} {ss : List Sq} {L : List (Int × Value)} {u : Value} {Ca : List Int} {t : Value} {Cb : List Int} {Y Y' : World} (h : Jp W b base g4 va vb es ss L u Ca t Cb Y) (hb : Below Y.heap.size Y Y') : Jp W b base g4 va vb es ss L u Ca t Cb Y' := ⟨h.1.under hb, h.2.1.under hb, h.2.2.1.under hb, h.2.2.2.1.under hb, h.2.2.2.2.under hb⟩
theorem Jp.drew {W : World} {b base g4 : Nat} {va vb : Value} {es : List En} {ss : List Sq} {L : List (Int × Value)} {u : Value} {Ca : List Int} {t : Value} {Cb : List Int} {Y : World} (h : Jp W b base g4 va vb es ss L u Ca t Cb Y) : Jp W b base g4 va vb es ss L u Ca t Cb Y.drew := h.under (below_drewN (Below.refl _ _) 1)
/-- What it holds once all is drawn. -/
def Jq (W : World) (g4 : Nat) (va vb : Value) (es : List En) (ss : List Sq) (vv : Value) (C : List Int) (Y : World) : Prop := Below W.heap.size W Y ∧ Row Y g4 25 #[.int .i64 1, va, vb] ∧ TbIn Y (.agg #[.int .i64 1, va, vb]) 1 es ss ∧ NmIn Y vv C
theorem Jq.under {W : World} {g4 : Nat} {va vb : Value} {es : List En} {ss : List Sq} {vv : Value} {C : List Int} {Y Y' : World} (h : Jq W g4 va vb es ss vv C Y) (hb : Below Y.heap.size Y Y') : Jq W g4 va vb es ss vv C Y' := ⟨h.1.trans (hb.mono h.1.size), h.2.1.under hb, h.2.2.1.under hb, h.2.2.2.under hb⟩
theorem Jq.drew {W : World} {g4 : Nat} {va vb : Value} {es : List En} {ss : List Sq} {vv : Value} {C : List Int} {Y : World} (h : Jq W g4 va vb es ss vv C Y) : Jq W g4 va vb es ss vv C Y.drew := h.under (below_drewN (Below.refl _ _) 1)
theorem EnIn.i64 {w : World} {v : Value} {D : List En} (h : EnIn w v D) : ∀ x ∈ D, I64 x.1 := fun x hx => by
  obtain ⟨A, cap, -, -, -, h4⟩ := h
  obtain ⟨i, hi, rfl⟩ := List.getElem_of_mem hx
  obtain ⟨g, off, -, -, -, h⟩ := h4 i hi
  exact h
theorem many_mem {C : List Int} {p : Int → Prop} (h : ∀ x ∈ C, p x) : ∀ t, ∀ x ∈ many C t, p x
  | 0, x, hx => absurd hx List.not_mem_nil
  | t + 1, x, hx => (List.mem_append.1 hx).elim (h x) (many_mem h t x)
theorem NmIn.i64 {w : World} {v : Value} {C : List Int} (h : NmIn w v C) : ∀ x ∈ C, I64 x := fun x hx => by
  obtain ⟨A, cap, -, -, -, h4⟩ := h
  obtain ⟨i, hi, rfl⟩ := List.getElem_of_mem hx
  obtain ⟨g, off, -, -, -, h⟩ := h4 i hi
  exact h
set_option maxRecDepth 100000 in
set_option maxHeartbeats 4000000 in
theorem tableJoins_any (v : Value) (W : World) (hT : Tab W) (hv : ListIn W v) :
    Calls Tryd.prog 5 #[v] W fun e w' => e = .returned (.bool true) ∧ Below W.heap.size W w' := by
  have HT := Lib.hid hT
  clear hT
  go_enter Tryd.func5, Tryd.ntmps5
  go_wp2_with fail
  refine (new_any W v hv).mono ?_
  rintro e w1 ⟨rfl, hs, hb⟩
  have H1 : Hid (Src W W.heap.size w1) := Lib.hid hs
  clear hs hb hv
  obtain ⟨b, eb⟩ : ∃ b, W.heap.size = b := ⟨_, rfl⟩
  rw [eb] at H1 ⊢
  clear eb
  go_wp2_with fail
  refine (table_any W b w1 1 H1.out).mono ?_
  rintro e w2 ⟨tv, es, ss, rfl, htb, hes, hss, hs, hg⟩
  obtain ⟨va, vb, L, rfl, htb⟩ := htb
  obtain ⟨A, cap, ev⟩ := sl_of htb.2.2.1
  obtain ⟨B, cbp, ew⟩ := sl_of htb.2.2.2.1
  subst ev; subst ew
  have hb2 : Below w2.heap.size w2 (w2.alloc (.cells #[.int .i64 1, .slice A es.length cap, .slice B L.length cbp] 25)) := (Below.refl _ _).alloc (Nat.le_refl _) _
  generalize w1.heap.size = base at htb
  have H2 : Hid (Src W b (w2.alloc (.cells #[.int .i64 1, .slice A es.length cap, .slice B L.length cbp] 25)) ∧ Row (w2.alloc (.cells #[.int .i64 1, .slice A es.length cap, .slice B L.length cbp] 25)) w2.heap.size 25 #[.int .i64 1, .slice A es.length cap, .slice B L.length cbp] ∧ TbL b base (w2.alloc (.cells #[.int .i64 1, .slice A es.length cap, .slice B L.length cbp] 25)) (.slice A es.length cap) (.slice B L.length cbp) es ss L) := Lib.hid ⟨hs.under hb2, Row.new _ _ _, htb.under hb2⟩
  have HG : Hid (tbl 1 es ss = 0) := Lib.hid (good_iff.2 (tab_good (v := 1) ⟨by decide, by decide⟩ hes hss))
  clear hs htb hes hss hg H1 hb2
  go_upto_region 3 with fail
  refine forget (fun V => Hid (Src W b V ∧ Row V w2.heap.size 25 #[.int .i64 1, .slice A es.length cap, .slice B L.length cbp] ∧ TbL b base V (.slice A es.length cap) (.slice B L.length cbp) es ss L)) H2 ?_
  clear H2
  generalize w2.heap.size = g4
  intro V H2
  go_wp2_with fail
  refine (codes_any W b V 4 H2.out.1 (by decide)).mono ?_
  rintro e w3 ⟨vca, Ca, rfl, hna, hla, hs, hg⟩
  obtain ⟨Aa, ka, ec, -⟩ := id hna.1
  subst ec
  have H3 := Lib.hid (⟨hs, H2.out.2.1.keep H2.out.1 hg (by decide), H2.out.2.2.step hg, hna⟩ : Src W b w3 ∧ Row w3 g4 25 #[.int .i64 1, .slice A es.length cap, .slice B L.length cbp] ∧ TbL b base w3 (.slice A es.length cap) (.slice B L.length cbp) es ss L ∧ NmO b w3 (.slice Aa Ca.length ka) Ca)
  clear hs hg H2 hna
  go_wp2_with fail
  refine (codes_any W b w3 4 H3.out.1 (by decide)).mono ?_
  rintro e w4 ⟨vcb, Cb, rfl, hnb, hlb, hs, hg⟩
  obtain ⟨Ab, kb, ec, -⟩ := id hnb.1
  subst ec
  have J4 : Hid (Jp W b base g4 (.slice A es.length cap) (.slice B L.length cbp) es ss L (.slice Aa Ca.length ka) Ca (.slice Ab Cb.length kb) Cb w4) := Lib.hid ⟨hs, H3.out.2.1.keep H3.out.1 hg (by decide), H3.out.2.2.1.step hg, H3.out.2.2.2.step hg, hnb⟩
  clear hs hg H3 hnb
  go_upto_region 4 with fail
  obtain ⟨q0, q1, q2⟩ := row3 J4.out.2.1
  have HX := Lib.hid (expand_any _ _ 1 es ss Ca _ J4.out.2.2.1.tb J4.out.2.2.2.1.1 (HT.out.under J4.out.1.below))
  go_wp2_with fail
  refine HX.out.mono ?_
  rintro e w5 ⟨x1, L1, a1, ha, rfl, hl3, hb⟩
  have HA1 := Lib.hid ha
  have HE1 := Lib.hid hl3
  have Jw5 := Lib.hid (J4.out.under hb)
  clear hl3 hb ha HX J4 q0 q1 q2
  go_upto_region 5 with fail
  obtain ⟨q0, q1, q2⟩ := row3 Jw5.out.2.1
  have HX := Lib.hid (expand_any _ _ 1 es ss Cb _ Jw5.out.2.2.1.tb Jw5.out.2.2.2.2.1 (HT.out.under Jw5.out.1.below))
  go_wp2_with fail
  refine HX.out.mono ?_
  rintro e w6 ⟨x2, L2, a2, ha, rfl, hl3, hb⟩
  have HA2 := Lib.hid ha
  have HE2 := Lib.hid hl3
  have Jw6 := Lib.hid (Jw5.out.under hb)
  have K1 := Lib.hid (HE1.out.under hb)
  clear HE1
  have HE1 := K1
  clear K1
  clear hl3 hb ha HX Jw5 q0 q1 q2
  go_upto_region 6 with fail
  obtain ⟨q0, q1, q2⟩ := row3 Jw6.out.2.1
  refine wp_region_held_drew (S := fun Y : World => Y.cell? ⟨g4, 0, none⟩ = some (.int .i64 1) ∧ Y.cell? ⟨g4, 1, none⟩ = some (.slice A es.length cap) ∧ Y.cell? ⟨g4, 2, none⟩ = some (.slice B L.length cbp)) (by kernel_rfl) ⟨q0, q1, q2⟩ (fun hHeld => ?_)
  clear q0 q1 q2
  have HD := Lib.hid Jw6.out.drew
  have hd : Below w6.heap.size w6 w6.drew := below_drewN (Below.refl _ _) 1
  have K1 := Lib.hid (HE1.out.under hd)
  have K2 := Lib.hid (HE2.out.under hd)
  clear HE1 HE2 hd Jw6
  generalize w6.drew = X at HD K1 K2 hHeld ⊢
  refine wpAnyH_take (i := 0) (oi := ⟨some 44, _, _, _, _, none⟩) (v := ?_) rfl (by kernel_rfl) (by kernel_rfl) (by kernel_rfl) (fun _ _ _ h => h) (Or.inl ⟨by rfl, ?_⟩) (by assumption) ?_
  case refine_2 => (intro wx hSx; (try dsimp only at hSx); go_simp; first | done | with_reducible rfl)
  ((try simp only [Act.put]); (try simp only [List.setIfInBounds_toArray]); (try simp only [List.set_cons_succ]); (try simp only [List.set_cons_zero]))
  refine wpAnyH_take (i := 2) (oi := ⟨some 46, _, _, _, _, none⟩) (v := ?_) rfl (by kernel_rfl) (by kernel_rfl) (by kernel_rfl) (fun _ _ _ h => h) (Or.inl ⟨by rfl, ?_⟩) (by assumption) ?_
  case refine_2 => (intro wx hSx; (try dsimp only at hSx); go_simp; first | done | with_reducible rfl)
  ((try simp only [Act.put]); (try simp only [List.setIfInBounds_toArray]); (try simp only [List.set_cons_succ]); (try simp only [List.set_cons_zero]))
  refine wpAnyH_take (i := 4) (oi := ⟨some 48, _, _, _, _, none⟩) (v := ?_) rfl (by kernel_rfl) (by kernel_rfl) (by kernel_rfl) (fun _ _ _ h => h) (Or.inl ⟨by rfl, ?_⟩) (by assumption) ?_
  case refine_2 => (intro wx hSx; (try dsimp only at hSx); go_simp; first | done | with_reducible rfl)
  ((try simp only [Act.put]); (try simp only [List.setIfInBounds_toArray]); (try simp only [List.set_cons_succ]); (try simp only [List.set_cons_zero]))
  refine wpAnyH_ready (rs := [1]) (by kernel_rfl) (by simp) ?_
  refine AllReadyH.cons (o := ⟨some 45, _, _, _, _, none⟩) rfl (fun Kx hK => ?_) AllReadyH.nil
  go_simp
  have ha : Below X.heap.size X (X.alloc (.cells #[] 3)) := (Below.refl _ _).alloc (Nat.le_refl _) _
  have HA := Lib.hid (HD.out.under ha)
  have HO := Lib.hid (World.ownsRow_lit (e := 3) (base := X.heap.size) (size := 1) X #[] 0 (Nat.le_refl _) (by decide) rfl)
  refine hK.out _ _ (row3 HA.out.2.1) (fun hHeld2 => ?_)
  clear hK Kx hHeld
  ((try simp only [Act.put]); (try simp only [List.setIfInBounds_toArray]); (try simp only [List.set_cons_succ]); (try simp only [List.set_cons_zero]))
  refine wpAnyH_ready (rs := [3]) (by kernel_rfl) (by simp) ?_
  refine AllReadyH.cons (o := ⟨some 47, _, _, _, _, none⟩) rfl (fun Kx hK => ?_) AllReadyH.nil
  refine step_append_ints rfl (.tmp 45) (.tmp 46) rfl X.heap.size _ 0 _ rfl HO.out Aa Ca.length ka Ca rfl HA.out.2.2.2.1.1 (by omega) ha.size ?_
  intro va1 y1 ho1 hg1
  have hb1 : Below X.heap.size X y1 := below_grown ha hg1 (Nat.le_refl _) ha.size
  have HB := Lib.hid (HD.out.under hb1)
  have HO1 := Lib.hid ho1
  clear ho1 hg1 HA HO ha hHeld2
  refine hK.out _ _ (row3 HB.out.2.1) (fun hHeld => ?_)
  clear hK Kx
  ((try simp only [Act.put]); (try simp only [List.setIfInBounds_toArray]); (try simp only [List.set_cons_succ]); (try simp only [List.set_cons_zero]))
  refine wpAnyH_ready (rs := [5]) (by kernel_rfl) (by simp) ?_
  refine AllReadyH.cons (o := ⟨some 49, _, _, _, _, none⟩) rfl (fun Kx hK => ?_) AllReadyH.nil
  refine step_append_ints rfl (.tmp 47) (.tmp 48) rfl X.heap.size va1 _ _ rfl HO1.out Ab Cb.length kb Cb rfl HB.out.2.2.2.2.1 (by omega) hb1.size ?_
  intro va2 y2 ho2 hg2
  have hb2 : Below X.heap.size X y2 := below_own hb1 hb1.size HO1.out hg2
  have HE := Lib.hid (HD.out.under hb2)
  have HN := Lib.hid (NmIn.own (C := Ca ++ Cb) (fun x hx => (List.mem_append.1 hx).elim (HE.out.2.2.2.1.1.i64 x) (HE.out.2.2.2.2.1.i64 x)) (by simpa [Nat.add_comm] using ho2) : NmIn y2 va2 (Ca ++ Cb))
  have HE1 := Lib.hid (K1.out.under hb2)
  have HE2 := Lib.hid (K2.out.under hb2)
  clear ho2 hg2 hb1 hb2 HO1 HB HD K1 K2 hHeld
  refine hK.out _ _ (row3 HE.out.2.1) (fun hHeld => ?_)
  clear hK Kx
  ((try simp only [Act.put]); (try simp only [List.setIfInBounds_toArray]); (try simp only [List.set_cons_succ]); (try simp only [List.set_cons_zero]))
  refine wpAnyH_ready (rs := [6]) (by kernel_rfl) (by simp) ?_
  refine AllReadyH.cons (o := ⟨some 50, _, _, _, _, none⟩) rfl (fun Kx hK => ?_) AllReadyH.nil
  go_simp
  refine (expand_any (.agg #[.int .i64 1, .slice A es.length cap, .slice B L.length cbp]) va2 1 es ss (Ca ++ Cb) y2 HE.out.2.2.1.tb HN.out (HT.out.under HE.out.1.below)).mono ?_
  rintro e w7 ⟨x3, L3, a3, ha, rfl, hl3, hb⟩
  have HA3 := Lib.hid ha
  have HE3 := Lib.hid hl3
  have J7 := Lib.hid (HE.out.under hb)
  have K1 := Lib.hid (HE1.out.under hb)
  have K2 := Lib.hid (HE2.out.under hb)
  clear hl3 hb ha HE HN HE1 HE2 hHeld
  go_simp
  refine hK.out _ _ (row3 J7.out.2.1) (fun hHeld => ?_)
  clear hK Kx
  ((try simp only [Act.put]); (try simp only [List.setIfInBounds_toArray]); (try simp only [List.set_cons_succ]); (try simp only [List.set_cons_zero]))
  refine wpAnyH_take (i := 7) (oi := ⟨some 43, _, _, _, _, none⟩) (v := ?_) rfl (by kernel_rfl) (by kernel_rfl) (by kernel_rfl) (fun _ _ _ h => h) (Or.inl ⟨by rfl, ?_⟩) (by assumption) ?_
  case refine_2 => (intro wx hSx; (try dsimp only at hSx); go_simp; first | done | with_reducible rfl)
  ((try simp only [Act.put]); (try simp only [List.setIfInBounds_toArray]); (try simp only [List.set_cons_succ]); (try simp only [List.set_cons_zero]))
  refine wpAnyH_take (i := 8) (oi := ⟨some 51, _, _, _, _, none⟩) (v := ?_) rfl (by kernel_rfl) (by kernel_rfl) (by kernel_rfl) (fun _ _ _ h => h) (Or.inl ⟨by rfl, ?_⟩) (by assumption) ?_
  case refine_2 => (intro wx hSx; (try dsimp only at hSx); go_simp; first | done | with_reducible rfl)
  ((try simp only [Act.put]); (try simp only [List.setIfInBounds_toArray]); (try simp only [List.set_cons_succ]); (try simp only [List.set_cons_zero]))
  refine wpAnyH_take (i := 9) (oi := ⟨some 52, _, _, _, _, none⟩) (v := ?_) rfl (by kernel_rfl) (by kernel_rfl) (by kernel_rfl) (fun _ _ _ h => h) (Or.inl ⟨by rfl, ?_⟩) (by assumption) ?_
  case refine_2 => (intro wx hSx; (try dsimp only at hSx); go_simp; first | done | with_reducible rfl)
  ((try simp only [Act.put]); (try simp only [List.setIfInBounds_toArray]); (try simp only [List.set_cons_succ]); (try simp only [List.set_cons_zero]))
  refine wpAnyH_take (i := 10) (oi := ⟨some 11, _, _, _, _, none⟩) (v := ?_) rfl (by kernel_rfl) (by kernel_rfl) (by kernel_rfl) (fun _ _ _ h => h) (Or.inl ⟨by rfl, ?_⟩) (by assumption) ?_
  case refine_2 => (intro wx hSx; (try dsimp only at hSx); go_simp; first | done | with_reducible rfl)
  ((try simp only [Act.put]); (try simp only [List.setIfInBounds_toArray]); (try simp only [List.set_cons_succ]); (try simp only [List.set_cons_zero]))
  refine wpAnyH_take (i := 11) (oi := ⟨some 12, _, _, _, _, none⟩) (v := ?_) rfl (by kernel_rfl) (by kernel_rfl) (by kernel_rfl) (fun _ _ _ h => h) (Or.inl ⟨by rfl, ?_⟩) (by assumption) ?_
  case refine_2 => (intro wx hSx; (try dsimp only at hSx); go_simp; first | done | with_reducible rfl)
  ((try simp only [Act.put]); (try simp only [List.setIfInBounds_toArray]); (try simp only [List.set_cons_succ]); (try simp only [List.set_cons_zero]))
  refine wpAnyH_done (by kernel_rfl) ?_ _
  clear hHeld
  by_cases e1 : x1 = 0
  case neg =>
    have d1 : (x1 == 0) = false := by simpa using e1
    have J9 := J7
    clear J7
    go_upto_region 11 with fail
    go_wp2_with fail
    refine (codes_any W b w7 3 J9.out.1 (by decide)).mono ?_
    rintro e wa ⟨vcc, C, rfl, hnm, hlc, hs, hg⟩
    obtain ⟨Ac, kc, ec, -⟩ := id hnm.1
    subst ec
    have Ja := Lib.hid (⟨hs, J9.out.2.1.keep J9.out.1 hg (by decide), J9.out.2.2.1.step hg, hnm⟩ : Src W b wa ∧ Row wa g4 25 #[.int .i64 1, .slice A es.length cap, .slice B L.length cbp] ∧ TbL b base wa (.slice A es.length cap) (.slice B L.length cbp) es ss L ∧ NmO b wa (.slice Ac C.length kc) C)
    clear hs hg J9 hnm
    go_wp2_with fail
    refine (range_any W b wa 1 3 Ja.out.1 (by decide) (by decide) (by decide) (by decide)).mono ?_
    rintro e wb ⟨n0, ⟨n1, n2⟩, rfl, hs, hg⟩
    obtain ⟨n, rfl⟩ : ∃ n : Nat, n0 = (n : Int) := ⟨n0.toNat, by omega⟩
    have HQ : Hid (Jq W g4 (.slice A es.length cap) (.slice B L.length cbp) es ss (.slice Ac C.length kc) C wb) := Lib.hid ⟨hs.below, Ja.out.2.1.keep Ja.out.1 hg (by decide), (Ja.out.2.2.1.step hg).tb, (Ja.out.2.2.2.step hg).1⟩
    clear hs hg Ja
    by_cases hc0 : C.length = 0
    · have dc : ((C.length : Int) == 0) = true := by simp [hc0]
      have dc2 : (C.length : Int) = 0 := by omega
      go_wp2_with fail
      refine (awake_from (w0 := W) wb (HT.out.under HQ.out.1) HQ.out.1).mono ?_
      rintro e wz ⟨rfl, hb⟩
      have HF := Lib.hid hb
      clear hb
      go_wp2_with fail
      go_ret
      first | exact ⟨rfl, HF.out⟩ | exact ⟨ret_bool (by simpa using eh), HF.out⟩
    have dc : ((C.length : Int) == 0) = false := by simpa using hc0
    have dc2 : ¬ (C.length : Int) = 0 := by omega
    go_wp2_with fail
    go_loopw [15, 16] (fun vv t Y => ∃ k : Nat, k ≤ n ∧ t = .int .i64 k ∧ Hid (Y.ownsRow wb.heap.size 3 1 vv (many C k).length ((many C k).map (Value.int .i64)) ∧ Below wb.heap.size wb Y)) (fun _ t _ => n - (intOf t).toNat)
    case atStart => exact ⟨0, Nat.zero_le _, rfl, Lib.hid ⟨World.ownsRow_nil _ _ _ _, Below.refl _ _⟩⟩
    case round =>
      obtain ⟨k, hk, rfl, M⟩ := hrel
      obtain ⟨Am, cm, ev⟩ := sl_of M.out.1
      subst ev
      by_cases hlt : k < n
      · have k1 : (k : Int) < (n : Int) := by omega
        have hbd : (many C k).length + C.length ≤ 1000 := by
          rw [many_len]
          have : k * C.length ≤ 3 * 3 := Nat.mul_le_mul (by omega) hlc
          omega
        go_wp2_with (at_builtin; refine wpList_append_ints (by first | rfl | kernel_rfl | simp [Region.wanted, yielded]) (.tmp 96) (.tmp 97) rfl wb.heap.size _ _ _ rfl M.out.1 Ac C.length kc C rfl (HQ.out.under M.out.2).2.2.2 hbd M.out.2.size ?_; intro va5 y5 ho hg; have HM := Lib.hid (⟨by rw [← many_snoc, List.length_append, List.map_append]; exact ho, below_own M.out.2 M.out.2.size M.out.1 hg⟩ : y5.ownsRow wb.heap.size 3 1 va5 (many C (k + 1)).length ((many C (k + 1)).map (Value.int .i64)) ∧ Below wb.heap.size wb y5); clear ho hg)
        go_roundw
        case rel => exact ⟨k + 1, by omega, by go_num, HM⟩
        case measure => simp [intOf]; omega
      · have k1 : ¬ (k : Int) < (n : Int) := by omega
        obtain rfl : k = n := by omega
        have HQ2 := Lib.hid (HQ.out.under M.out.2)
        have HNm := Lib.hid (NmIn.own (many_mem HQ.out.2.2.2.i64 k) M.out.1)
        clear M HQ hlt k1 hk
        go_upto_region 20 with fail
        obtain ⟨q0, q1, q2⟩ := row3 HQ2.out.2.1
        refine wp_region_held_drew (S := fun Y : World => Y.cell? ⟨g4, 0, none⟩ = some (.int .i64 1) ∧ Y.cell? ⟨g4, 1, none⟩ = some (.slice A es.length cap) ∧ Y.cell? ⟨g4, 2, none⟩ = some (.slice B L.length cbp)) (by kernel_rfl) ⟨q0, q1, q2⟩ (fun hHeld => ?_)
        clear q0 q1 q2
        have HD := Lib.hid HQ2.out.drew
        have HNm2 := Lib.hid (HNm.out.under (w' := wr.drew) (below_drewN (Below.refl _ _) 1))
        clear HQ2 HNm
        generalize wr.drew = XX at HD HNm2 hHeld ⊢
        refine wpAnyH_take (i := 0) (oi := ⟨some 100, _, _, _, _, none⟩) (v := ?_) rfl (by kernel_rfl) (by kernel_rfl) (by kernel_rfl) (fun _ _ _ h => h) (Or.inl ⟨by rfl, ?_⟩) (by assumption) ?_
        case refine_2 => (intro wx hSx; (try dsimp only at hSx); go_simp; first | done | with_reducible rfl)
        ((try simp only [Act.put]); (try simp only [List.setIfInBounds_toArray]); (try simp only [List.set_cons_succ]); (try simp only [List.set_cons_zero]))
        refine wpAnyH_take (i := 1) (oi := ⟨some 101, _, _, _, _, none⟩) (v := ?_) rfl (by kernel_rfl) (by kernel_rfl) (by kernel_rfl) (fun _ _ _ h => h) (Or.inl ⟨by rfl, ?_⟩) (by assumption) ?_
        case refine_2 => (intro wx hSx; (try dsimp only at hSx); go_simp; first | done | with_reducible rfl)
        ((try simp only [Act.put]); (try simp only [List.setIfInBounds_toArray]); (try simp only [List.set_cons_succ]); (try simp only [List.set_cons_zero]))
        refine wpAnyH_take (i := 2) (oi := ⟨some 102, _, _, _, _, none⟩) (v := ?_) rfl (by kernel_rfl) (by kernel_rfl) (by kernel_rfl) (fun _ _ _ h => h) (Or.inl ⟨by rfl, ?_⟩) (by assumption) ?_
        case refine_2 => (intro wx hSx; (try dsimp only at hSx); go_simp; first | done | with_reducible rfl)
        ((try simp only [Act.put]); (try simp only [List.setIfInBounds_toArray]); (try simp only [List.set_cons_succ]); (try simp only [List.set_cons_zero]))
        refine wpAnyH_take (i := 3) (oi := ⟨some 103, _, _, _, _, none⟩) (v := ?_) rfl (by kernel_rfl) (by kernel_rfl) (by kernel_rfl) (fun _ _ _ h => h) (Or.inl ⟨by rfl, ?_⟩) (by assumption) ?_
        case refine_2 => (intro wx hSx; (try dsimp only at hSx); go_simp; first | done | with_reducible rfl)
        ((try simp only [Act.put]); (try simp only [List.setIfInBounds_toArray]); (try simp only [List.set_cons_succ]); (try simp only [List.set_cons_zero]))
        refine wpAnyH_take (i := 4) (oi := ⟨some 104, _, _, _, _, none⟩) (v := ?_) rfl (by kernel_rfl) (by kernel_rfl) (by kernel_rfl) (fun _ _ _ h => h) (Or.inl ⟨by rfl, ?_⟩) (by assumption) ?_
        case refine_2 => (intro wx hSx; (try dsimp only at hSx); go_simp; first | done | with_reducible rfl)
        ((try simp only [Act.put]); (try simp only [List.setIfInBounds_toArray]); (try simp only [List.set_cons_succ]); (try simp only [List.set_cons_zero]))
        refine wpAnyH_take (i := 5) (oi := ⟨some 105, _, _, _, _, none⟩) (v := ?_) rfl (by kernel_rfl) (by kernel_rfl) (by kernel_rfl) (fun _ _ _ h => h) (Or.inl ⟨by rfl, ?_⟩) (by assumption) ?_
        case refine_2 => (intro wx hSx; (try dsimp only at hSx); go_simp; first | done | with_reducible rfl)
        ((try simp only [Act.put]); (try simp only [List.setIfInBounds_toArray]); (try simp only [List.set_cons_succ]); (try simp only [List.set_cons_zero]))
        refine wpAnyH_take (i := 6) (oi := ⟨some 106, _, _, _, _, none⟩) (v := ?_) rfl (by kernel_rfl) (by kernel_rfl) (by kernel_rfl) (fun _ _ _ h => h) (Or.inl ⟨by rfl, ?_⟩) (by assumption) ?_
        case refine_2 => (intro wx hSx; (try dsimp only at hSx); go_simp; first | done | with_reducible rfl)
        ((try simp only [Act.put]); (try simp only [List.setIfInBounds_toArray]); (try simp only [List.set_cons_succ]); (try simp only [List.set_cons_zero]))
        refine wpAnyH_take (i := 8) (oi := ⟨some 108, _, _, _, _, none⟩) (v := ?_) rfl (by kernel_rfl) (by kernel_rfl) (by kernel_rfl) (fun _ _ _ h => h) (Or.inl ⟨by rfl, ?_⟩) (by assumption) ?_
        case refine_2 => (intro wx hSx; (try dsimp only at hSx); go_simp; first | done | with_reducible rfl)
        ((try simp only [Act.put]); (try simp only [List.setIfInBounds_toArray]); (try simp only [List.set_cons_succ]); (try simp only [List.set_cons_zero]))
        refine wpAnyH_ready (rs := [7]) (by kernel_rfl) (by simp) ?_
        refine AllReadyH.cons (o := ⟨some 107, _, _, _, _, none⟩) rfl (fun Kx hK => ?_) AllReadyH.nil
        go_simp
        rw [IntWalk.i64_in (100 * (C.length : Int)) (by omega), IntWalk.i64_in (20000 + 100 * (C.length : Int)) (by omega), IntWalk.i64_in (20000 + 100 * (C.length : Int) + (k : Int)) (by omega)]
        have ha : Below XX.heap.size XX (XX.alloc (.cells #[.int .i64 (20000 + 100 * (C.length : Int) + (k : Int))] 3)) := (Below.refl _ _).alloc (Nat.le_refl _) _
        have HA := Lib.hid (HD.out.under ha)
        have HO := Lib.hid (World.ownsRow_lit (e := 3) (base := XX.heap.size) (size := 1) XX #[.int .i64 (20000 + 100 * (C.length : Int) + (k : Int))] 1 (Nat.le_refl _) (by decide) rfl)
        refine hK.out _ _ (row3 HA.out.2.1) (fun hHeld2 => ?_)
        clear hK Kx hHeld
        ((try simp only [Act.put]); (try simp only [List.setIfInBounds_toArray]); (try simp only [List.set_cons_succ]); (try simp only [List.set_cons_zero]))
        refine wpAnyH_ready (rs := [9]) (by kernel_rfl) (by simp) ?_
        refine AllReadyH.cons (o := ⟨some 109, _, _, _, _, none⟩) rfl (fun Kx hK => ?_) AllReadyH.nil
        refine step_append_ints rfl (.tmp 107) (.tmp 108) rfl XX.heap.size _ 1 _ rfl HO.out Ac C.length kc C rfl HA.out.2.2.2 (by omega) ha.size ?_
        intro vn w' ho' hg'
        have hb' : Below XX.heap.size XX w' := below_grown ha hg' (Nat.le_refl _) ha.size
        have HB := Lib.hid (HD.out.under hb')
        have HNm := Lib.hid (HNm2.out.under hb')
        have HN := Lib.hid (NmIn.own (C := (20000 + 100 * (C.length : Int) + (k : Int)) :: C) (fun q hq => by
          rcases List.mem_cons.1 hq with rfl | hq
          · exact ⟨by omega, by omega⟩
          · exact HD.out.2.2.2.i64 q hq) (by simpa [Nat.add_comm] using ho') : NmIn w' vn ((20000 + 100 * (C.length : Int) + (k : Int)) :: C))
        clear ho' hg' hb' ha HA HO HD hHeld2 HNm2
        refine hK.out _ _ (row3 HB.out.2.1) (fun hHeld => ?_)
        clear hK Kx
        ((try simp only [Act.put]); (try simp only [List.setIfInBounds_toArray]); (try simp only [List.set_cons_succ]); (try simp only [List.set_cons_zero]))
        refine wpAnyH_ready (rs := [10]) (by kernel_rfl) (by simp) ?_
        refine AllReadyH.cons (o := ⟨some 110, _, _, _, _, none⟩) rfl (fun Kx hK => ?_) AllReadyH.nil
        go_simp
        refine (expand_any (.agg #[.int .i64 1, .slice A es.length cap, .slice B L.length cbp]) vn 1 es ss ((20000 + 100 * (C.length : Int) + (k : Int)) :: C) w' HB.out.2.2.1 HN.out (HT.out.under HB.out.1)).mono ?_
        rintro e wh ⟨xh, Lh, ah, ha, rfl, hl, hb⟩
        have HAh := Lib.hid ha
        have HC := Lib.hid (HB.out.under hb)
        have HEh := Lib.hid hl
        have HNm2 := Lib.hid (HNm.out.under hb)
        clear hl hb HB HN hHeld ha HNm
        go_simp
        refine hK.out _ _ (row3 HC.out.2.1) (fun hHeld => ?_)
        clear hK Kx
        ((try simp only [Act.put]); (try simp only [List.setIfInBounds_toArray]); (try simp only [List.set_cons_succ]); (try simp only [List.set_cons_zero]))
        refine wpAnyH_take (i := 11) (oi := ⟨some 99, _, _, _, _, none⟩) (v := ?_) rfl (by kernel_rfl) (by kernel_rfl) (by kernel_rfl) (fun _ _ _ h => h) (Or.inl ⟨by rfl, ?_⟩) (by assumption) ?_
        case refine_2 => (intro wx hSx; (try dsimp only at hSx); go_simp; first | done | with_reducible rfl)
        ((try simp only [Act.put]); (try simp only [List.setIfInBounds_toArray]); (try simp only [List.set_cons_succ]); (try simp only [List.set_cons_zero]))
        refine wpAnyH_take (i := 12) (oi := ⟨some 111, _, _, _, _, none⟩) (v := ?_) rfl (by kernel_rfl) (by kernel_rfl) (by kernel_rfl) (fun _ _ _ h => h) (Or.inl ⟨by rfl, ?_⟩) (by assumption) ?_
        case refine_2 => (intro wx hSx; (try dsimp only at hSx); go_simp; first | done | with_reducible rfl)
        ((try simp only [Act.put]); (try simp only [List.setIfInBounds_toArray]); (try simp only [List.set_cons_succ]); (try simp only [List.set_cons_zero]))
        refine wpAnyH_take (i := 13) (oi := ⟨some 112, _, _, _, _, none⟩) (v := ?_) rfl (by kernel_rfl) (by kernel_rfl) (by kernel_rfl) (fun _ _ _ h => h) (Or.inl ⟨by rfl, ?_⟩) (by assumption) ?_
        case refine_2 => (intro wx hSx; (try dsimp only at hSx); go_simp; first | done | with_reducible rfl)
        ((try simp only [Act.put]); (try simp only [List.setIfInBounds_toArray]); (try simp only [List.set_cons_succ]); (try simp only [List.set_cons_zero]))
        refine wpAnyH_take (i := 14) (oi := ⟨some 17, _, _, _, _, none⟩) (v := ?_) rfl (by kernel_rfl) (by kernel_rfl) (by kernel_rfl) (fun _ _ _ h => h) (Or.inl ⟨by rfl, ?_⟩) (by assumption) ?_
        case refine_2 => (intro wx hSx; (try dsimp only at hSx); go_simp; first | done | with_reducible rfl)
        ((try simp only [Act.put]); (try simp only [List.setIfInBounds_toArray]); (try simp only [List.set_cons_succ]); (try simp only [List.set_cons_zero]))
        refine wpAnyH_take (i := 15) (oi := ⟨some 18, _, _, _, _, none⟩) (v := ?_) rfl (by kernel_rfl) (by kernel_rfl) (by kernel_rfl) (fun _ _ _ h => h) (Or.inl ⟨by rfl, ?_⟩) (by assumption) ?_
        case refine_2 => (intro wx hSx; (try dsimp only at hSx); go_simp; first | done | with_reducible rfl)
        ((try simp only [Act.put]); (try simp only [List.setIfInBounds_toArray]); (try simp only [List.set_cons_succ]); (try simp only [List.set_cons_zero]))
        refine wpAnyH_done (by kernel_rfl) ?_ _
        clear hHeld
        go_upto_region 21 with fail
        obtain ⟨q0, q1, q2⟩ := row3 HC.out.2.1
        have HX := Lib.hid (expand_any _ _ 1 es ss (many C k) _ HC.out.2.2.1 HNm2.out (HT.out.under HC.out.1))
        go_wp2_with fail
        refine HX.out.mono ?_
        rintro e wi ⟨xi, Li, ai, ha, rfl, hl3, hb⟩
        have HAi := Lib.hid ha
        have HEi := Lib.hid hl3
        have Jwi := Lib.hid (HC.out.under hb)
        have Kh := Lib.hid (HEh.out.under hb)
        clear hl3 hb ha HX HC q0 q1 q2 HEh
        have HEh := Kh
        clear Kh
        go_upto_region 22 with fail
        obtain ⟨q0, q1, q2⟩ := row3 Jwi.out.2.1
        have HX := Lib.hid (refExpand_any _ _ 1 es ss C _ Jwi.out.2.2.1 Jwi.out.2.2.2)
        go_wp2_with fail
        refine HX.out.mono ?_
        rintro e wj ⟨xj, Lj, aj, ha, rfl, hl3, hb⟩
        have HAj := Lib.hid ha
        have Jwj := Lib.hid (Jwi.out.under hb)
        have Kh := Lib.hid (HEh.out.under hb)
        have Ki := Lib.hid (HEi.out.under hb)
        clear hl3 hb ha HX Jwi q0 q1 q2 HEh HEi
        by_cases ej : xj = 0
        case neg =>
          have dj : (xj == 0) = false := by simpa using ej
          have eh := rep_no HG.out (by omega) (by omega) (by omega) (by omega) HAh.out HAj.out ej
          have dh : (xh == 0) = false := by simpa using eh
          go_wp2_with fail
          refine (awake_from (w0 := W) wj (HT.out.under Jwj.out.1) Jwj.out.1).mono ?_
          rintro e wz ⟨rfl, hb⟩
          have HF := Lib.hid hb
          clear hb
          go_wp2_with fail
          go_ret
          first | exact ⟨rfl, HF.out⟩ | exact ⟨ret_bool (by simpa using eh), HF.out⟩
        subst ej
        by_cases eh : xh = 2
        · subst eh
          go_wp2_with fail
          refine (awake_from (w0 := W) wj (HT.out.under Jwj.out.1) Jwj.out.1).mono ?_
          rintro e wz ⟨rfl, hb⟩
          have HF := Lib.hid hb
          clear hb
          go_wp2_with fail
          go_ret
          first | exact ⟨rfl, HF.out⟩ | exact ⟨ret_bool (by simpa using eh), HF.out⟩
        have dh : (xh == 2) = false := by simpa using eh
        by_cases ei : xi = 2
        · subst ei
          go_wp2_with fail
          refine (awake_from (w0 := W) wj (HT.out.under Jwj.out.1) Jwj.out.1).mono ?_
          rintro e wz ⟨rfl, hb⟩
          have HF := Lib.hid hb
          clear hb
          go_wp2_with fail
          go_ret
          first | exact ⟨rfl, HF.out⟩ | exact ⟨ret_bool (by simpa using eh), HF.out⟩
        have di : (xi == 2) = false := by simpa using ei
        obtain ⟨hxi, hLL⟩ := rep_yes HG.out (by omega) (by omega) (by omega) (by omega) HAh.out HAj.out HAi.out eh ei
        have HS := same_any ah ai Lh Li wj Kh.out Ki.out
        rw [decide_eq_true hLL] at HS
        have HS := Lib.hid HS
        clear eh ei hLL
        subst hxi
        go_wp2_with fail
        refine HS.out.mono ?_
        rintro e wk ⟨rfl, hb⟩
        have Jwk := Lib.hid (Jwj.out.under hb)
        clear hb HS
        go_wp2_with fail
        refine (awake_from (w0 := W) wk (HT.out.under Jwk.out.1) Jwk.out.1).mono ?_
        rintro e wz ⟨rfl, hb⟩
        have HF := Lib.hid hb
        clear hb
        go_wp2_with fail
        go_ret
        first | exact ⟨rfl, HF.out⟩ | exact ⟨ret_bool (by simpa using eh), HF.out⟩
  by_cases e3 : x3 = 0
  case neg =>
    have d3 : (x3 == 0) = false := by simpa using e3
    subst e1
    by_cases e2 : x2 = 0
    · subst e2
      have J9 := J7
      clear J7
      go_upto_region 11 with fail
      go_wp2_with fail
      refine (codes_any W b w7 3 J9.out.1 (by decide)).mono ?_
      rintro e wa ⟨vcc, C, rfl, hnm, hlc, hs, hg⟩
      obtain ⟨Ac, kc, ec, -⟩ := id hnm.1
      subst ec
      have Ja := Lib.hid (⟨hs, J9.out.2.1.keep J9.out.1 hg (by decide), J9.out.2.2.1.step hg, hnm⟩ : Src W b wa ∧ Row wa g4 25 #[.int .i64 1, .slice A es.length cap, .slice B L.length cbp] ∧ TbL b base wa (.slice A es.length cap) (.slice B L.length cbp) es ss L ∧ NmO b wa (.slice Ac C.length kc) C)
      clear hs hg J9 hnm
      go_wp2_with fail
      refine (range_any W b wa 1 3 Ja.out.1 (by decide) (by decide) (by decide) (by decide)).mono ?_
      rintro e wb ⟨n0, ⟨n1, n2⟩, rfl, hs, hg⟩
      obtain ⟨n, rfl⟩ : ∃ n : Nat, n0 = (n : Int) := ⟨n0.toNat, by omega⟩
      have HQ : Hid (Jq W g4 (.slice A es.length cap) (.slice B L.length cbp) es ss (.slice Ac C.length kc) C wb) := Lib.hid ⟨hs.below, Ja.out.2.1.keep Ja.out.1 hg (by decide), (Ja.out.2.2.1.step hg).tb, (Ja.out.2.2.2.step hg).1⟩
      clear hs hg Ja
      by_cases hc0 : C.length = 0
      · have dc : ((C.length : Int) == 0) = true := by simp [hc0]
        have dc2 : (C.length : Int) = 0 := by omega
        go_wp2_with fail
        refine (awake_from (w0 := W) wb (HT.out.under HQ.out.1) HQ.out.1).mono ?_
        rintro e wz ⟨rfl, hb⟩
        have HF := Lib.hid hb
        clear hb
        go_wp2_with fail
        go_ret
        first | exact ⟨rfl, HF.out⟩ | exact ⟨ret_bool (by simpa using eh), HF.out⟩
      have dc : ((C.length : Int) == 0) = false := by simpa using hc0
      have dc2 : ¬ (C.length : Int) = 0 := by omega
      go_wp2_with fail
      go_loopw [15, 16] (fun vv t Y => ∃ k : Nat, k ≤ n ∧ t = .int .i64 k ∧ Hid (Y.ownsRow wb.heap.size 3 1 vv (many C k).length ((many C k).map (Value.int .i64)) ∧ Below wb.heap.size wb Y)) (fun _ t _ => n - (intOf t).toNat)
      case atStart => exact ⟨0, Nat.zero_le _, rfl, Lib.hid ⟨World.ownsRow_nil _ _ _ _, Below.refl _ _⟩⟩
      case round =>
        obtain ⟨k, hk, rfl, M⟩ := hrel
        obtain ⟨Am, cm, ev⟩ := sl_of M.out.1
        subst ev
        by_cases hlt : k < n
        · have k1 : (k : Int) < (n : Int) := by omega
          have hbd : (many C k).length + C.length ≤ 1000 := by
            rw [many_len]
            have : k * C.length ≤ 3 * 3 := Nat.mul_le_mul (by omega) hlc
            omega
          go_wp2_with (at_builtin; refine wpList_append_ints (by first | rfl | kernel_rfl | simp [Region.wanted, yielded]) (.tmp 96) (.tmp 97) rfl wb.heap.size _ _ _ rfl M.out.1 Ac C.length kc C rfl (HQ.out.under M.out.2).2.2.2 hbd M.out.2.size ?_; intro va5 y5 ho hg; have HM := Lib.hid (⟨by rw [← many_snoc, List.length_append, List.map_append]; exact ho, below_own M.out.2 M.out.2.size M.out.1 hg⟩ : y5.ownsRow wb.heap.size 3 1 va5 (many C (k + 1)).length ((many C (k + 1)).map (Value.int .i64)) ∧ Below wb.heap.size wb y5); clear ho hg)
          go_roundw
          case rel => exact ⟨k + 1, by omega, by go_num, HM⟩
          case measure => simp [intOf]; omega
        · have k1 : ¬ (k : Int) < (n : Int) := by omega
          obtain rfl : k = n := by omega
          have HQ2 := Lib.hid (HQ.out.under M.out.2)
          have HNm := Lib.hid (NmIn.own (many_mem HQ.out.2.2.2.i64 k) M.out.1)
          clear M HQ hlt k1 hk
          go_upto_region 20 with fail
          obtain ⟨q0, q1, q2⟩ := row3 HQ2.out.2.1
          refine wp_region_held_drew (S := fun Y : World => Y.cell? ⟨g4, 0, none⟩ = some (.int .i64 1) ∧ Y.cell? ⟨g4, 1, none⟩ = some (.slice A es.length cap) ∧ Y.cell? ⟨g4, 2, none⟩ = some (.slice B L.length cbp)) (by kernel_rfl) ⟨q0, q1, q2⟩ (fun hHeld => ?_)
          clear q0 q1 q2
          have HD := Lib.hid HQ2.out.drew
          have HNm2 := Lib.hid (HNm.out.under (w' := wr.drew) (below_drewN (Below.refl _ _) 1))
          clear HQ2 HNm
          generalize wr.drew = XX at HD HNm2 hHeld ⊢
          refine wpAnyH_take (i := 0) (oi := ⟨some 100, _, _, _, _, none⟩) (v := ?_) rfl (by kernel_rfl) (by kernel_rfl) (by kernel_rfl) (fun _ _ _ h => h) (Or.inl ⟨by rfl, ?_⟩) (by assumption) ?_
          case refine_2 => (intro wx hSx; (try dsimp only at hSx); go_simp; first | done | with_reducible rfl)
          ((try simp only [Act.put]); (try simp only [List.setIfInBounds_toArray]); (try simp only [List.set_cons_succ]); (try simp only [List.set_cons_zero]))
          refine wpAnyH_take (i := 1) (oi := ⟨some 101, _, _, _, _, none⟩) (v := ?_) rfl (by kernel_rfl) (by kernel_rfl) (by kernel_rfl) (fun _ _ _ h => h) (Or.inl ⟨by rfl, ?_⟩) (by assumption) ?_
          case refine_2 => (intro wx hSx; (try dsimp only at hSx); go_simp; first | done | with_reducible rfl)
          ((try simp only [Act.put]); (try simp only [List.setIfInBounds_toArray]); (try simp only [List.set_cons_succ]); (try simp only [List.set_cons_zero]))
          refine wpAnyH_take (i := 2) (oi := ⟨some 102, _, _, _, _, none⟩) (v := ?_) rfl (by kernel_rfl) (by kernel_rfl) (by kernel_rfl) (fun _ _ _ h => h) (Or.inl ⟨by rfl, ?_⟩) (by assumption) ?_
          case refine_2 => (intro wx hSx; (try dsimp only at hSx); go_simp; first | done | with_reducible rfl)
          ((try simp only [Act.put]); (try simp only [List.setIfInBounds_toArray]); (try simp only [List.set_cons_succ]); (try simp only [List.set_cons_zero]))
          refine wpAnyH_take (i := 3) (oi := ⟨some 103, _, _, _, _, none⟩) (v := ?_) rfl (by kernel_rfl) (by kernel_rfl) (by kernel_rfl) (fun _ _ _ h => h) (Or.inl ⟨by rfl, ?_⟩) (by assumption) ?_
          case refine_2 => (intro wx hSx; (try dsimp only at hSx); go_simp; first | done | with_reducible rfl)
          ((try simp only [Act.put]); (try simp only [List.setIfInBounds_toArray]); (try simp only [List.set_cons_succ]); (try simp only [List.set_cons_zero]))
          refine wpAnyH_take (i := 4) (oi := ⟨some 104, _, _, _, _, none⟩) (v := ?_) rfl (by kernel_rfl) (by kernel_rfl) (by kernel_rfl) (fun _ _ _ h => h) (Or.inl ⟨by rfl, ?_⟩) (by assumption) ?_
          case refine_2 => (intro wx hSx; (try dsimp only at hSx); go_simp; first | done | with_reducible rfl)
          ((try simp only [Act.put]); (try simp only [List.setIfInBounds_toArray]); (try simp only [List.set_cons_succ]); (try simp only [List.set_cons_zero]))
          refine wpAnyH_take (i := 5) (oi := ⟨some 105, _, _, _, _, none⟩) (v := ?_) rfl (by kernel_rfl) (by kernel_rfl) (by kernel_rfl) (fun _ _ _ h => h) (Or.inl ⟨by rfl, ?_⟩) (by assumption) ?_
          case refine_2 => (intro wx hSx; (try dsimp only at hSx); go_simp; first | done | with_reducible rfl)
          ((try simp only [Act.put]); (try simp only [List.setIfInBounds_toArray]); (try simp only [List.set_cons_succ]); (try simp only [List.set_cons_zero]))
          refine wpAnyH_take (i := 6) (oi := ⟨some 106, _, _, _, _, none⟩) (v := ?_) rfl (by kernel_rfl) (by kernel_rfl) (by kernel_rfl) (fun _ _ _ h => h) (Or.inl ⟨by rfl, ?_⟩) (by assumption) ?_
          case refine_2 => (intro wx hSx; (try dsimp only at hSx); go_simp; first | done | with_reducible rfl)
          ((try simp only [Act.put]); (try simp only [List.setIfInBounds_toArray]); (try simp only [List.set_cons_succ]); (try simp only [List.set_cons_zero]))
          refine wpAnyH_take (i := 8) (oi := ⟨some 108, _, _, _, _, none⟩) (v := ?_) rfl (by kernel_rfl) (by kernel_rfl) (by kernel_rfl) (fun _ _ _ h => h) (Or.inl ⟨by rfl, ?_⟩) (by assumption) ?_
          case refine_2 => (intro wx hSx; (try dsimp only at hSx); go_simp; first | done | with_reducible rfl)
          ((try simp only [Act.put]); (try simp only [List.setIfInBounds_toArray]); (try simp only [List.set_cons_succ]); (try simp only [List.set_cons_zero]))
          refine wpAnyH_ready (rs := [7]) (by kernel_rfl) (by simp) ?_
          refine AllReadyH.cons (o := ⟨some 107, _, _, _, _, none⟩) rfl (fun Kx hK => ?_) AllReadyH.nil
          go_simp
          rw [IntWalk.i64_in (100 * (C.length : Int)) (by omega), IntWalk.i64_in (20000 + 100 * (C.length : Int)) (by omega), IntWalk.i64_in (20000 + 100 * (C.length : Int) + (k : Int)) (by omega)]
          have ha : Below XX.heap.size XX (XX.alloc (.cells #[.int .i64 (20000 + 100 * (C.length : Int) + (k : Int))] 3)) := (Below.refl _ _).alloc (Nat.le_refl _) _
          have HA := Lib.hid (HD.out.under ha)
          have HO := Lib.hid (World.ownsRow_lit (e := 3) (base := XX.heap.size) (size := 1) XX #[.int .i64 (20000 + 100 * (C.length : Int) + (k : Int))] 1 (Nat.le_refl _) (by decide) rfl)
          refine hK.out _ _ (row3 HA.out.2.1) (fun hHeld2 => ?_)
          clear hK Kx hHeld
          ((try simp only [Act.put]); (try simp only [List.setIfInBounds_toArray]); (try simp only [List.set_cons_succ]); (try simp only [List.set_cons_zero]))
          refine wpAnyH_ready (rs := [9]) (by kernel_rfl) (by simp) ?_
          refine AllReadyH.cons (o := ⟨some 109, _, _, _, _, none⟩) rfl (fun Kx hK => ?_) AllReadyH.nil
          refine step_append_ints rfl (.tmp 107) (.tmp 108) rfl XX.heap.size _ 1 _ rfl HO.out Ac C.length kc C rfl HA.out.2.2.2 (by omega) ha.size ?_
          intro vn w' ho' hg'
          have hb' : Below XX.heap.size XX w' := below_grown ha hg' (Nat.le_refl _) ha.size
          have HB := Lib.hid (HD.out.under hb')
          have HNm := Lib.hid (HNm2.out.under hb')
          have HN := Lib.hid (NmIn.own (C := (20000 + 100 * (C.length : Int) + (k : Int)) :: C) (fun q hq => by
            rcases List.mem_cons.1 hq with rfl | hq
            · exact ⟨by omega, by omega⟩
            · exact HD.out.2.2.2.i64 q hq) (by simpa [Nat.add_comm] using ho') : NmIn w' vn ((20000 + 100 * (C.length : Int) + (k : Int)) :: C))
          clear ho' hg' hb' ha HA HO HD hHeld2 HNm2
          refine hK.out _ _ (row3 HB.out.2.1) (fun hHeld => ?_)
          clear hK Kx
          ((try simp only [Act.put]); (try simp only [List.setIfInBounds_toArray]); (try simp only [List.set_cons_succ]); (try simp only [List.set_cons_zero]))
          refine wpAnyH_ready (rs := [10]) (by kernel_rfl) (by simp) ?_
          refine AllReadyH.cons (o := ⟨some 110, _, _, _, _, none⟩) rfl (fun Kx hK => ?_) AllReadyH.nil
          go_simp
          refine (expand_any (.agg #[.int .i64 1, .slice A es.length cap, .slice B L.length cbp]) vn 1 es ss ((20000 + 100 * (C.length : Int) + (k : Int)) :: C) w' HB.out.2.2.1 HN.out (HT.out.under HB.out.1)).mono ?_
          rintro e wh ⟨xh, Lh, ah, ha, rfl, hl, hb⟩
          have HAh := Lib.hid ha
          have HC := Lib.hid (HB.out.under hb)
          have HEh := Lib.hid hl
          have HNm2 := Lib.hid (HNm.out.under hb)
          clear hl hb HB HN hHeld ha HNm
          go_simp
          refine hK.out _ _ (row3 HC.out.2.1) (fun hHeld => ?_)
          clear hK Kx
          ((try simp only [Act.put]); (try simp only [List.setIfInBounds_toArray]); (try simp only [List.set_cons_succ]); (try simp only [List.set_cons_zero]))
          refine wpAnyH_take (i := 11) (oi := ⟨some 99, _, _, _, _, none⟩) (v := ?_) rfl (by kernel_rfl) (by kernel_rfl) (by kernel_rfl) (fun _ _ _ h => h) (Or.inl ⟨by rfl, ?_⟩) (by assumption) ?_
          case refine_2 => (intro wx hSx; (try dsimp only at hSx); go_simp; first | done | with_reducible rfl)
          ((try simp only [Act.put]); (try simp only [List.setIfInBounds_toArray]); (try simp only [List.set_cons_succ]); (try simp only [List.set_cons_zero]))
          refine wpAnyH_take (i := 12) (oi := ⟨some 111, _, _, _, _, none⟩) (v := ?_) rfl (by kernel_rfl) (by kernel_rfl) (by kernel_rfl) (fun _ _ _ h => h) (Or.inl ⟨by rfl, ?_⟩) (by assumption) ?_
          case refine_2 => (intro wx hSx; (try dsimp only at hSx); go_simp; first | done | with_reducible rfl)
          ((try simp only [Act.put]); (try simp only [List.setIfInBounds_toArray]); (try simp only [List.set_cons_succ]); (try simp only [List.set_cons_zero]))
          refine wpAnyH_take (i := 13) (oi := ⟨some 112, _, _, _, _, none⟩) (v := ?_) rfl (by kernel_rfl) (by kernel_rfl) (by kernel_rfl) (fun _ _ _ h => h) (Or.inl ⟨by rfl, ?_⟩) (by assumption) ?_
          case refine_2 => (intro wx hSx; (try dsimp only at hSx); go_simp; first | done | with_reducible rfl)
          ((try simp only [Act.put]); (try simp only [List.setIfInBounds_toArray]); (try simp only [List.set_cons_succ]); (try simp only [List.set_cons_zero]))
          refine wpAnyH_take (i := 14) (oi := ⟨some 17, _, _, _, _, none⟩) (v := ?_) rfl (by kernel_rfl) (by kernel_rfl) (by kernel_rfl) (fun _ _ _ h => h) (Or.inl ⟨by rfl, ?_⟩) (by assumption) ?_
          case refine_2 => (intro wx hSx; (try dsimp only at hSx); go_simp; first | done | with_reducible rfl)
          ((try simp only [Act.put]); (try simp only [List.setIfInBounds_toArray]); (try simp only [List.set_cons_succ]); (try simp only [List.set_cons_zero]))
          refine wpAnyH_take (i := 15) (oi := ⟨some 18, _, _, _, _, none⟩) (v := ?_) rfl (by kernel_rfl) (by kernel_rfl) (by kernel_rfl) (fun _ _ _ h => h) (Or.inl ⟨by rfl, ?_⟩) (by assumption) ?_
          case refine_2 => (intro wx hSx; (try dsimp only at hSx); go_simp; first | done | with_reducible rfl)
          ((try simp only [Act.put]); (try simp only [List.setIfInBounds_toArray]); (try simp only [List.set_cons_succ]); (try simp only [List.set_cons_zero]))
          refine wpAnyH_done (by kernel_rfl) ?_ _
          clear hHeld
          go_upto_region 21 with fail
          obtain ⟨q0, q1, q2⟩ := row3 HC.out.2.1
          have HX := Lib.hid (expand_any _ _ 1 es ss (many C k) _ HC.out.2.2.1 HNm2.out (HT.out.under HC.out.1))
          go_wp2_with fail
          refine HX.out.mono ?_
          rintro e wi ⟨xi, Li, ai, ha, rfl, hl3, hb⟩
          have HAi := Lib.hid ha
          have HEi := Lib.hid hl3
          have Jwi := Lib.hid (HC.out.under hb)
          have Kh := Lib.hid (HEh.out.under hb)
          clear hl3 hb ha HX HC q0 q1 q2 HEh
          have HEh := Kh
          clear Kh
          go_upto_region 22 with fail
          obtain ⟨q0, q1, q2⟩ := row3 Jwi.out.2.1
          have HX := Lib.hid (refExpand_any _ _ 1 es ss C _ Jwi.out.2.2.1 Jwi.out.2.2.2)
          go_wp2_with fail
          refine HX.out.mono ?_
          rintro e wj ⟨xj, Lj, aj, ha, rfl, hl3, hb⟩
          have HAj := Lib.hid ha
          have Jwj := Lib.hid (Jwi.out.under hb)
          have Kh := Lib.hid (HEh.out.under hb)
          have Ki := Lib.hid (HEi.out.under hb)
          clear hl3 hb ha HX Jwi q0 q1 q2 HEh HEi
          by_cases ej : xj = 0
          case neg =>
            have dj : (xj == 0) = false := by simpa using ej
            have eh := rep_no HG.out (by omega) (by omega) (by omega) (by omega) HAh.out HAj.out ej
            have dh : (xh == 0) = false := by simpa using eh
            go_wp2_with fail
            refine (awake_from (w0 := W) wj (HT.out.under Jwj.out.1) Jwj.out.1).mono ?_
            rintro e wz ⟨rfl, hb⟩
            have HF := Lib.hid hb
            clear hb
            go_wp2_with fail
            go_ret
            first | exact ⟨rfl, HF.out⟩ | exact ⟨ret_bool (by simpa using eh), HF.out⟩
          subst ej
          by_cases eh : xh = 2
          · subst eh
            go_wp2_with fail
            refine (awake_from (w0 := W) wj (HT.out.under Jwj.out.1) Jwj.out.1).mono ?_
            rintro e wz ⟨rfl, hb⟩
            have HF := Lib.hid hb
            clear hb
            go_wp2_with fail
            go_ret
            first | exact ⟨rfl, HF.out⟩ | exact ⟨ret_bool (by simpa using eh), HF.out⟩
          have dh : (xh == 2) = false := by simpa using eh
          by_cases ei : xi = 2
          · subst ei
            go_wp2_with fail
            refine (awake_from (w0 := W) wj (HT.out.under Jwj.out.1) Jwj.out.1).mono ?_
            rintro e wz ⟨rfl, hb⟩
            have HF := Lib.hid hb
            clear hb
            go_wp2_with fail
            go_ret
            first | exact ⟨rfl, HF.out⟩ | exact ⟨ret_bool (by simpa using eh), HF.out⟩
          have di : (xi == 2) = false := by simpa using ei
          obtain ⟨hxi, hLL⟩ := rep_yes HG.out (by omega) (by omega) (by omega) (by omega) HAh.out HAj.out HAi.out eh ei
          have HS := same_any ah ai Lh Li wj Kh.out Ki.out
          rw [decide_eq_true hLL] at HS
          have HS := Lib.hid HS
          clear eh ei hLL
          subst hxi
          go_wp2_with fail
          refine HS.out.mono ?_
          rintro e wk ⟨rfl, hb⟩
          have Jwk := Lib.hid (Jwj.out.under hb)
          clear hb HS
          go_wp2_with fail
          refine (awake_from (w0 := W) wk (HT.out.under Jwk.out.1) Jwk.out.1).mono ?_
          rintro e wz ⟨rfl, hb⟩
          have HF := Lib.hid hb
          clear hb
          go_wp2_with fail
          go_ret
          first | exact ⟨rfl, HF.out⟩ | exact ⟨ret_bool (by simpa using eh), HF.out⟩
    · have d2 : (x2 == 0) = false := by simpa using e2
      have J9 := J7
      clear J7
      go_upto_region 11 with fail
      go_wp2_with fail
      refine (codes_any W b w7 3 J9.out.1 (by decide)).mono ?_
      rintro e wa ⟨vcc, C, rfl, hnm, hlc, hs, hg⟩
      obtain ⟨Ac, kc, ec, -⟩ := id hnm.1
      subst ec
      have Ja := Lib.hid (⟨hs, J9.out.2.1.keep J9.out.1 hg (by decide), J9.out.2.2.1.step hg, hnm⟩ : Src W b wa ∧ Row wa g4 25 #[.int .i64 1, .slice A es.length cap, .slice B L.length cbp] ∧ TbL b base wa (.slice A es.length cap) (.slice B L.length cbp) es ss L ∧ NmO b wa (.slice Ac C.length kc) C)
      clear hs hg J9 hnm
      go_wp2_with fail
      refine (range_any W b wa 1 3 Ja.out.1 (by decide) (by decide) (by decide) (by decide)).mono ?_
      rintro e wb ⟨n0, ⟨n1, n2⟩, rfl, hs, hg⟩
      obtain ⟨n, rfl⟩ : ∃ n : Nat, n0 = (n : Int) := ⟨n0.toNat, by omega⟩
      have HQ : Hid (Jq W g4 (.slice A es.length cap) (.slice B L.length cbp) es ss (.slice Ac C.length kc) C wb) := Lib.hid ⟨hs.below, Ja.out.2.1.keep Ja.out.1 hg (by decide), (Ja.out.2.2.1.step hg).tb, (Ja.out.2.2.2.step hg).1⟩
      clear hs hg Ja
      by_cases hc0 : C.length = 0
      · have dc : ((C.length : Int) == 0) = true := by simp [hc0]
        have dc2 : (C.length : Int) = 0 := by omega
        go_wp2_with fail
        refine (awake_from (w0 := W) wb (HT.out.under HQ.out.1) HQ.out.1).mono ?_
        rintro e wz ⟨rfl, hb⟩
        have HF := Lib.hid hb
        clear hb
        go_wp2_with fail
        go_ret
        first | exact ⟨rfl, HF.out⟩ | exact ⟨ret_bool (by simpa using eh), HF.out⟩
      have dc : ((C.length : Int) == 0) = false := by simpa using hc0
      have dc2 : ¬ (C.length : Int) = 0 := by omega
      go_wp2_with fail
      go_loopw [15, 16] (fun vv t Y => ∃ k : Nat, k ≤ n ∧ t = .int .i64 k ∧ Hid (Y.ownsRow wb.heap.size 3 1 vv (many C k).length ((many C k).map (Value.int .i64)) ∧ Below wb.heap.size wb Y)) (fun _ t _ => n - (intOf t).toNat)
      case atStart => exact ⟨0, Nat.zero_le _, rfl, Lib.hid ⟨World.ownsRow_nil _ _ _ _, Below.refl _ _⟩⟩
      case round =>
        obtain ⟨k, hk, rfl, M⟩ := hrel
        obtain ⟨Am, cm, ev⟩ := sl_of M.out.1
        subst ev
        by_cases hlt : k < n
        · have k1 : (k : Int) < (n : Int) := by omega
          have hbd : (many C k).length + C.length ≤ 1000 := by
            rw [many_len]
            have : k * C.length ≤ 3 * 3 := Nat.mul_le_mul (by omega) hlc
            omega
          go_wp2_with (at_builtin; refine wpList_append_ints (by first | rfl | kernel_rfl | simp [Region.wanted, yielded]) (.tmp 96) (.tmp 97) rfl wb.heap.size _ _ _ rfl M.out.1 Ac C.length kc C rfl (HQ.out.under M.out.2).2.2.2 hbd M.out.2.size ?_; intro va5 y5 ho hg; have HM := Lib.hid (⟨by rw [← many_snoc, List.length_append, List.map_append]; exact ho, below_own M.out.2 M.out.2.size M.out.1 hg⟩ : y5.ownsRow wb.heap.size 3 1 va5 (many C (k + 1)).length ((many C (k + 1)).map (Value.int .i64)) ∧ Below wb.heap.size wb y5); clear ho hg)
          go_roundw
          case rel => exact ⟨k + 1, by omega, by go_num, HM⟩
          case measure => simp [intOf]; omega
        · have k1 : ¬ (k : Int) < (n : Int) := by omega
          obtain rfl : k = n := by omega
          have HQ2 := Lib.hid (HQ.out.under M.out.2)
          have HNm := Lib.hid (NmIn.own (many_mem HQ.out.2.2.2.i64 k) M.out.1)
          clear M HQ hlt k1 hk
          go_upto_region 20 with fail
          obtain ⟨q0, q1, q2⟩ := row3 HQ2.out.2.1
          refine wp_region_held_drew (S := fun Y : World => Y.cell? ⟨g4, 0, none⟩ = some (.int .i64 1) ∧ Y.cell? ⟨g4, 1, none⟩ = some (.slice A es.length cap) ∧ Y.cell? ⟨g4, 2, none⟩ = some (.slice B L.length cbp)) (by kernel_rfl) ⟨q0, q1, q2⟩ (fun hHeld => ?_)
          clear q0 q1 q2
          have HD := Lib.hid HQ2.out.drew
          have HNm2 := Lib.hid (HNm.out.under (w' := wr.drew) (below_drewN (Below.refl _ _) 1))
          clear HQ2 HNm
          generalize wr.drew = XX at HD HNm2 hHeld ⊢
          refine wpAnyH_take (i := 0) (oi := ⟨some 100, _, _, _, _, none⟩) (v := ?_) rfl (by kernel_rfl) (by kernel_rfl) (by kernel_rfl) (fun _ _ _ h => h) (Or.inl ⟨by rfl, ?_⟩) (by assumption) ?_
          case refine_2 => (intro wx hSx; (try dsimp only at hSx); go_simp; first | done | with_reducible rfl)
          ((try simp only [Act.put]); (try simp only [List.setIfInBounds_toArray]); (try simp only [List.set_cons_succ]); (try simp only [List.set_cons_zero]))
          refine wpAnyH_take (i := 1) (oi := ⟨some 101, _, _, _, _, none⟩) (v := ?_) rfl (by kernel_rfl) (by kernel_rfl) (by kernel_rfl) (fun _ _ _ h => h) (Or.inl ⟨by rfl, ?_⟩) (by assumption) ?_
          case refine_2 => (intro wx hSx; (try dsimp only at hSx); go_simp; first | done | with_reducible rfl)
          ((try simp only [Act.put]); (try simp only [List.setIfInBounds_toArray]); (try simp only [List.set_cons_succ]); (try simp only [List.set_cons_zero]))
          refine wpAnyH_take (i := 2) (oi := ⟨some 102, _, _, _, _, none⟩) (v := ?_) rfl (by kernel_rfl) (by kernel_rfl) (by kernel_rfl) (fun _ _ _ h => h) (Or.inl ⟨by rfl, ?_⟩) (by assumption) ?_
          case refine_2 => (intro wx hSx; (try dsimp only at hSx); go_simp; first | done | with_reducible rfl)
          ((try simp only [Act.put]); (try simp only [List.setIfInBounds_toArray]); (try simp only [List.set_cons_succ]); (try simp only [List.set_cons_zero]))
          refine wpAnyH_take (i := 3) (oi := ⟨some 103, _, _, _, _, none⟩) (v := ?_) rfl (by kernel_rfl) (by kernel_rfl) (by kernel_rfl) (fun _ _ _ h => h) (Or.inl ⟨by rfl, ?_⟩) (by assumption) ?_
          case refine_2 => (intro wx hSx; (try dsimp only at hSx); go_simp; first | done | with_reducible rfl)
          ((try simp only [Act.put]); (try simp only [List.setIfInBounds_toArray]); (try simp only [List.set_cons_succ]); (try simp only [List.set_cons_zero]))
          refine wpAnyH_take (i := 4) (oi := ⟨some 104, _, _, _, _, none⟩) (v := ?_) rfl (by kernel_rfl) (by kernel_rfl) (by kernel_rfl) (fun _ _ _ h => h) (Or.inl ⟨by rfl, ?_⟩) (by assumption) ?_
          case refine_2 => (intro wx hSx; (try dsimp only at hSx); go_simp; first | done | with_reducible rfl)
          ((try simp only [Act.put]); (try simp only [List.setIfInBounds_toArray]); (try simp only [List.set_cons_succ]); (try simp only [List.set_cons_zero]))
          refine wpAnyH_take (i := 5) (oi := ⟨some 105, _, _, _, _, none⟩) (v := ?_) rfl (by kernel_rfl) (by kernel_rfl) (by kernel_rfl) (fun _ _ _ h => h) (Or.inl ⟨by rfl, ?_⟩) (by assumption) ?_
          case refine_2 => (intro wx hSx; (try dsimp only at hSx); go_simp; first | done | with_reducible rfl)
          ((try simp only [Act.put]); (try simp only [List.setIfInBounds_toArray]); (try simp only [List.set_cons_succ]); (try simp only [List.set_cons_zero]))
          refine wpAnyH_take (i := 6) (oi := ⟨some 106, _, _, _, _, none⟩) (v := ?_) rfl (by kernel_rfl) (by kernel_rfl) (by kernel_rfl) (fun _ _ _ h => h) (Or.inl ⟨by rfl, ?_⟩) (by assumption) ?_
          case refine_2 => (intro wx hSx; (try dsimp only at hSx); go_simp; first | done | with_reducible rfl)
          ((try simp only [Act.put]); (try simp only [List.setIfInBounds_toArray]); (try simp only [List.set_cons_succ]); (try simp only [List.set_cons_zero]))
          refine wpAnyH_take (i := 8) (oi := ⟨some 108, _, _, _, _, none⟩) (v := ?_) rfl (by kernel_rfl) (by kernel_rfl) (by kernel_rfl) (fun _ _ _ h => h) (Or.inl ⟨by rfl, ?_⟩) (by assumption) ?_
          case refine_2 => (intro wx hSx; (try dsimp only at hSx); go_simp; first | done | with_reducible rfl)
          ((try simp only [Act.put]); (try simp only [List.setIfInBounds_toArray]); (try simp only [List.set_cons_succ]); (try simp only [List.set_cons_zero]))
          refine wpAnyH_ready (rs := [7]) (by kernel_rfl) (by simp) ?_
          refine AllReadyH.cons (o := ⟨some 107, _, _, _, _, none⟩) rfl (fun Kx hK => ?_) AllReadyH.nil
          go_simp
          rw [IntWalk.i64_in (100 * (C.length : Int)) (by omega), IntWalk.i64_in (20000 + 100 * (C.length : Int)) (by omega), IntWalk.i64_in (20000 + 100 * (C.length : Int) + (k : Int)) (by omega)]
          have ha : Below XX.heap.size XX (XX.alloc (.cells #[.int .i64 (20000 + 100 * (C.length : Int) + (k : Int))] 3)) := (Below.refl _ _).alloc (Nat.le_refl _) _
          have HA := Lib.hid (HD.out.under ha)
          have HO := Lib.hid (World.ownsRow_lit (e := 3) (base := XX.heap.size) (size := 1) XX #[.int .i64 (20000 + 100 * (C.length : Int) + (k : Int))] 1 (Nat.le_refl _) (by decide) rfl)
          refine hK.out _ _ (row3 HA.out.2.1) (fun hHeld2 => ?_)
          clear hK Kx hHeld
          ((try simp only [Act.put]); (try simp only [List.setIfInBounds_toArray]); (try simp only [List.set_cons_succ]); (try simp only [List.set_cons_zero]))
          refine wpAnyH_ready (rs := [9]) (by kernel_rfl) (by simp) ?_
          refine AllReadyH.cons (o := ⟨some 109, _, _, _, _, none⟩) rfl (fun Kx hK => ?_) AllReadyH.nil
          refine step_append_ints rfl (.tmp 107) (.tmp 108) rfl XX.heap.size _ 1 _ rfl HO.out Ac C.length kc C rfl HA.out.2.2.2 (by omega) ha.size ?_
          intro vn w' ho' hg'
          have hb' : Below XX.heap.size XX w' := below_grown ha hg' (Nat.le_refl _) ha.size
          have HB := Lib.hid (HD.out.under hb')
          have HNm := Lib.hid (HNm2.out.under hb')
          have HN := Lib.hid (NmIn.own (C := (20000 + 100 * (C.length : Int) + (k : Int)) :: C) (fun q hq => by
            rcases List.mem_cons.1 hq with rfl | hq
            · exact ⟨by omega, by omega⟩
            · exact HD.out.2.2.2.i64 q hq) (by simpa [Nat.add_comm] using ho') : NmIn w' vn ((20000 + 100 * (C.length : Int) + (k : Int)) :: C))
          clear ho' hg' hb' ha HA HO HD hHeld2 HNm2
          refine hK.out _ _ (row3 HB.out.2.1) (fun hHeld => ?_)
          clear hK Kx
          ((try simp only [Act.put]); (try simp only [List.setIfInBounds_toArray]); (try simp only [List.set_cons_succ]); (try simp only [List.set_cons_zero]))
          refine wpAnyH_ready (rs := [10]) (by kernel_rfl) (by simp) ?_
          refine AllReadyH.cons (o := ⟨some 110, _, _, _, _, none⟩) rfl (fun Kx hK => ?_) AllReadyH.nil
          go_simp
          refine (expand_any (.agg #[.int .i64 1, .slice A es.length cap, .slice B L.length cbp]) vn 1 es ss ((20000 + 100 * (C.length : Int) + (k : Int)) :: C) w' HB.out.2.2.1 HN.out (HT.out.under HB.out.1)).mono ?_
          rintro e wh ⟨xh, Lh, ah, ha, rfl, hl, hb⟩
          have HAh := Lib.hid ha
          have HC := Lib.hid (HB.out.under hb)
          have HEh := Lib.hid hl
          have HNm2 := Lib.hid (HNm.out.under hb)
          clear hl hb HB HN hHeld ha HNm
          go_simp
          refine hK.out _ _ (row3 HC.out.2.1) (fun hHeld => ?_)
          clear hK Kx
          ((try simp only [Act.put]); (try simp only [List.setIfInBounds_toArray]); (try simp only [List.set_cons_succ]); (try simp only [List.set_cons_zero]))
          refine wpAnyH_take (i := 11) (oi := ⟨some 99, _, _, _, _, none⟩) (v := ?_) rfl (by kernel_rfl) (by kernel_rfl) (by kernel_rfl) (fun _ _ _ h => h) (Or.inl ⟨by rfl, ?_⟩) (by assumption) ?_
          case refine_2 => (intro wx hSx; (try dsimp only at hSx); go_simp; first | done | with_reducible rfl)
          ((try simp only [Act.put]); (try simp only [List.setIfInBounds_toArray]); (try simp only [List.set_cons_succ]); (try simp only [List.set_cons_zero]))
          refine wpAnyH_take (i := 12) (oi := ⟨some 111, _, _, _, _, none⟩) (v := ?_) rfl (by kernel_rfl) (by kernel_rfl) (by kernel_rfl) (fun _ _ _ h => h) (Or.inl ⟨by rfl, ?_⟩) (by assumption) ?_
          case refine_2 => (intro wx hSx; (try dsimp only at hSx); go_simp; first | done | with_reducible rfl)
          ((try simp only [Act.put]); (try simp only [List.setIfInBounds_toArray]); (try simp only [List.set_cons_succ]); (try simp only [List.set_cons_zero]))
          refine wpAnyH_take (i := 13) (oi := ⟨some 112, _, _, _, _, none⟩) (v := ?_) rfl (by kernel_rfl) (by kernel_rfl) (by kernel_rfl) (fun _ _ _ h => h) (Or.inl ⟨by rfl, ?_⟩) (by assumption) ?_
          case refine_2 => (intro wx hSx; (try dsimp only at hSx); go_simp; first | done | with_reducible rfl)
          ((try simp only [Act.put]); (try simp only [List.setIfInBounds_toArray]); (try simp only [List.set_cons_succ]); (try simp only [List.set_cons_zero]))
          refine wpAnyH_take (i := 14) (oi := ⟨some 17, _, _, _, _, none⟩) (v := ?_) rfl (by kernel_rfl) (by kernel_rfl) (by kernel_rfl) (fun _ _ _ h => h) (Or.inl ⟨by rfl, ?_⟩) (by assumption) ?_
          case refine_2 => (intro wx hSx; (try dsimp only at hSx); go_simp; first | done | with_reducible rfl)
          ((try simp only [Act.put]); (try simp only [List.setIfInBounds_toArray]); (try simp only [List.set_cons_succ]); (try simp only [List.set_cons_zero]))
          refine wpAnyH_take (i := 15) (oi := ⟨some 18, _, _, _, _, none⟩) (v := ?_) rfl (by kernel_rfl) (by kernel_rfl) (by kernel_rfl) (fun _ _ _ h => h) (Or.inl ⟨by rfl, ?_⟩) (by assumption) ?_
          case refine_2 => (intro wx hSx; (try dsimp only at hSx); go_simp; first | done | with_reducible rfl)
          ((try simp only [Act.put]); (try simp only [List.setIfInBounds_toArray]); (try simp only [List.set_cons_succ]); (try simp only [List.set_cons_zero]))
          refine wpAnyH_done (by kernel_rfl) ?_ _
          clear hHeld
          go_upto_region 21 with fail
          obtain ⟨q0, q1, q2⟩ := row3 HC.out.2.1
          have HX := Lib.hid (expand_any _ _ 1 es ss (many C k) _ HC.out.2.2.1 HNm2.out (HT.out.under HC.out.1))
          go_wp2_with fail
          refine HX.out.mono ?_
          rintro e wi ⟨xi, Li, ai, ha, rfl, hl3, hb⟩
          have HAi := Lib.hid ha
          have HEi := Lib.hid hl3
          have Jwi := Lib.hid (HC.out.under hb)
          have Kh := Lib.hid (HEh.out.under hb)
          clear hl3 hb ha HX HC q0 q1 q2 HEh
          have HEh := Kh
          clear Kh
          go_upto_region 22 with fail
          obtain ⟨q0, q1, q2⟩ := row3 Jwi.out.2.1
          have HX := Lib.hid (refExpand_any _ _ 1 es ss C _ Jwi.out.2.2.1 Jwi.out.2.2.2)
          go_wp2_with fail
          refine HX.out.mono ?_
          rintro e wj ⟨xj, Lj, aj, ha, rfl, hl3, hb⟩
          have HAj := Lib.hid ha
          have Jwj := Lib.hid (Jwi.out.under hb)
          have Kh := Lib.hid (HEh.out.under hb)
          have Ki := Lib.hid (HEi.out.under hb)
          clear hl3 hb ha HX Jwi q0 q1 q2 HEh HEi
          by_cases ej : xj = 0
          case neg =>
            have dj : (xj == 0) = false := by simpa using ej
            have eh := rep_no HG.out (by omega) (by omega) (by omega) (by omega) HAh.out HAj.out ej
            have dh : (xh == 0) = false := by simpa using eh
            go_wp2_with fail
            refine (awake_from (w0 := W) wj (HT.out.under Jwj.out.1) Jwj.out.1).mono ?_
            rintro e wz ⟨rfl, hb⟩
            have HF := Lib.hid hb
            clear hb
            go_wp2_with fail
            go_ret
            first | exact ⟨rfl, HF.out⟩ | exact ⟨ret_bool (by simpa using eh), HF.out⟩
          subst ej
          by_cases eh : xh = 2
          · subst eh
            go_wp2_with fail
            refine (awake_from (w0 := W) wj (HT.out.under Jwj.out.1) Jwj.out.1).mono ?_
            rintro e wz ⟨rfl, hb⟩
            have HF := Lib.hid hb
            clear hb
            go_wp2_with fail
            go_ret
            first | exact ⟨rfl, HF.out⟩ | exact ⟨ret_bool (by simpa using eh), HF.out⟩
          have dh : (xh == 2) = false := by simpa using eh
          by_cases ei : xi = 2
          · subst ei
            go_wp2_with fail
            refine (awake_from (w0 := W) wj (HT.out.under Jwj.out.1) Jwj.out.1).mono ?_
            rintro e wz ⟨rfl, hb⟩
            have HF := Lib.hid hb
            clear hb
            go_wp2_with fail
            go_ret
            first | exact ⟨rfl, HF.out⟩ | exact ⟨ret_bool (by simpa using eh), HF.out⟩
          have di : (xi == 2) = false := by simpa using ei
          obtain ⟨hxi, hLL⟩ := rep_yes HG.out (by omega) (by omega) (by omega) (by omega) HAh.out HAj.out HAi.out eh ei
          have HS := same_any ah ai Lh Li wj Kh.out Ki.out
          rw [decide_eq_true hLL] at HS
          have HS := Lib.hid HS
          clear eh ei hLL
          subst hxi
          go_wp2_with fail
          refine HS.out.mono ?_
          rintro e wk ⟨rfl, hb⟩
          have Jwk := Lib.hid (Jwj.out.under hb)
          clear hb HS
          go_wp2_with fail
          refine (awake_from (w0 := W) wk (HT.out.under Jwk.out.1) Jwk.out.1).mono ?_
          rintro e wz ⟨rfl, hb⟩
          have HF := Lib.hid hb
          clear hb
          go_wp2_with fail
          go_ret
          first | exact ⟨rfl, HF.out⟩ | exact ⟨ret_bool (by simpa using eh), HF.out⟩
  subst e1; subst e3
  obtain ⟨rfl, e5⟩ := join_yes HG.out hla hlb HA1.out HA2.out HA3.out
  have hL1 : L1.length ≤ 60 := by
    rcases ans_run' HA1.out HG.out (by omega) with ⟨q, -⟩ | ⟨-, tk, q⟩
    · exact absurd rfl q
    · exact q.le60 (by simp) _ _ rfl
  have hL2 : L2.length ≤ 60 := by
    rcases ans_run' HA2.out HG.out (by omega) with ⟨q, -⟩ | ⟨-, tk, q⟩
    · exact absurd rfl q
    · exact q.le60 (by simp) _ _ rfl
  have HE5 := Lib.hid e5
  obtain ⟨A1, k1, ea1, -⟩ := id K1.out
  obtain ⟨A2, k2, ea2, -⟩ := id K2.out
  subst ea1; subst ea2
  clear e5
  have ha : Below w7.heap.size w7 (w7.alloc (.cells #[] 47)) := (Below.refl _ _).alloc (Nat.le_refl _) _
  have HO := Lib.hid (World.ownsRow_lit (e := 47) (base := w7.heap.size) (size := 5) w7 #[] 0 (Nat.le_refl _) (by decide) rfl)
  have K1a := Lib.hid (K1.out.under ha)
  have HSZ := Lib.hid ha
  clear ha
  go_upto_region 8 with (at_builtin; first
    | (refine wpList_append_ents (by first | rfl | kernel_rfl | simp [Region.wanted, yielded]) (.tmp 65) (.tmp 66) rfl w7.heap.size _ 0 _ rfl HO.out A1 L1.length k1 L1 rfl K1a.out (by omega) HSZ.out.size ?_; intro va3 y3 ho1 hg1; have hb1 : Below w7.heap.size w7 y3 := below_grown HSZ.out hg1 (Nat.le_refl _) HSZ.out.size; have HO1 := Lib.hid ho1; have HB1 := Lib.hid hb1; clear ho1 hg1 hb1)
    | (go_loud (refine wpList_append_ents (by first | rfl | kernel_rfl | simp [Region.wanted, yielded]) (.tmp 67) (.tmp 68) rfl w7.heap.size va3 _ _ rfl HO1.out A2 L2.length k2 L2 rfl (K2.out.under HB1.out) (by omega) HB1.out.size ?_; intro va4 y4 ho2 hg2; have hb2 : Below w7.heap.size w7 y4 := below_own HB1.out HB1.out.size HO1.out hg2; have HB2 := Lib.hid hb2; have HO2 := Lib.hid ho2; clear ho2 hg2 hb2)))
  have HS := same_any a3 va4 L3 (L1 ++ L2) y4 (HE3.out.under HB2.out) (EnIn.own (fun x hx => (List.mem_append.1 hx).elim (K1.out.i64 x) (K2.out.i64 x)) (by rw [List.length_append, show rowE (L1 ++ L2) = rowE L1 ++ rowE L2 from List.flatMap_append]; simpa using HO2.out))
  rw [decide_eq_true HE5.out] at HS
  have HS := Lib.hid HS
  refine HS.out.mono ?_
  rintro e y5 ⟨rfl, hb⟩
  have J8 := Lib.hid ((J7.out.under HB2.out).under hb)
  clear hb HS HB1 HB2 HO1 HO2 HSZ K1a HO J7 HE3 K1 K2 HE5
  have J9 := J8
  clear J8
  go_upto_region 11 with fail
  go_wp2_with fail
  refine (codes_any W b y5 3 J9.out.1 (by decide)).mono ?_
  rintro e wa ⟨vcc, C, rfl, hnm, hlc, hs, hg⟩
  obtain ⟨Ac, kc, ec, -⟩ := id hnm.1
  subst ec
  have Ja := Lib.hid (⟨hs, J9.out.2.1.keep J9.out.1 hg (by decide), J9.out.2.2.1.step hg, hnm⟩ : Src W b wa ∧ Row wa g4 25 #[.int .i64 1, .slice A es.length cap, .slice B L.length cbp] ∧ TbL b base wa (.slice A es.length cap) (.slice B L.length cbp) es ss L ∧ NmO b wa (.slice Ac C.length kc) C)
  clear hs hg J9 hnm
  go_wp2_with fail
  refine (range_any W b wa 1 3 Ja.out.1 (by decide) (by decide) (by decide) (by decide)).mono ?_
  rintro e wb ⟨n0, ⟨n1, n2⟩, rfl, hs, hg⟩
  obtain ⟨n, rfl⟩ : ∃ n : Nat, n0 = (n : Int) := ⟨n0.toNat, by omega⟩
  have HQ : Hid (Jq W g4 (.slice A es.length cap) (.slice B L.length cbp) es ss (.slice Ac C.length kc) C wb) := Lib.hid ⟨hs.below, Ja.out.2.1.keep Ja.out.1 hg (by decide), (Ja.out.2.2.1.step hg).tb, (Ja.out.2.2.2.step hg).1⟩
  clear hs hg Ja
  by_cases hc0 : C.length = 0
  · have dc : ((C.length : Int) == 0) = true := by simp [hc0]
    have dc2 : (C.length : Int) = 0 := by omega
    go_wp2_with fail
    refine (awake_from (w0 := W) wb (HT.out.under HQ.out.1) HQ.out.1).mono ?_
    rintro e wz ⟨rfl, hb⟩
    have HF := Lib.hid hb
    clear hb
    go_wp2_with fail
    go_ret
    first | exact ⟨rfl, HF.out⟩ | exact ⟨ret_bool (by simpa using eh), HF.out⟩
  have dc : ((C.length : Int) == 0) = false := by simpa using hc0
  have dc2 : ¬ (C.length : Int) = 0 := by omega
  go_wp2_with fail
  go_loopw [15, 16] (fun vv t Y => ∃ k : Nat, k ≤ n ∧ t = .int .i64 k ∧ Hid (Y.ownsRow wb.heap.size 3 1 vv (many C k).length ((many C k).map (Value.int .i64)) ∧ Below wb.heap.size wb Y)) (fun _ t _ => n - (intOf t).toNat)
  case atStart => exact ⟨0, Nat.zero_le _, rfl, Lib.hid ⟨World.ownsRow_nil _ _ _ _, Below.refl _ _⟩⟩
  case round =>
    obtain ⟨k, hk, rfl, M⟩ := hrel
    obtain ⟨Am, cm, ev⟩ := sl_of M.out.1
    subst ev
    by_cases hlt : k < n
    · have k1 : (k : Int) < (n : Int) := by omega
      have hbd : (many C k).length + C.length ≤ 1000 := by
        rw [many_len]
        have : k * C.length ≤ 3 * 3 := Nat.mul_le_mul (by omega) hlc
        omega
      go_wp2_with (at_builtin; refine wpList_append_ints (by first | rfl | kernel_rfl | simp [Region.wanted, yielded]) (.tmp 96) (.tmp 97) rfl wb.heap.size _ _ _ rfl M.out.1 Ac C.length kc C rfl (HQ.out.under M.out.2).2.2.2 hbd M.out.2.size ?_; intro va5 y5 ho hg; have HM := Lib.hid (⟨by rw [← many_snoc, List.length_append, List.map_append]; exact ho, below_own M.out.2 M.out.2.size M.out.1 hg⟩ : y5.ownsRow wb.heap.size 3 1 va5 (many C (k + 1)).length ((many C (k + 1)).map (Value.int .i64)) ∧ Below wb.heap.size wb y5); clear ho hg)
      go_roundw
      case rel => exact ⟨k + 1, by omega, by go_num, HM⟩
      case measure => simp [intOf]; omega
    · have k1 : ¬ (k : Int) < (n : Int) := by omega
      obtain rfl : k = n := by omega
      have HQ2 := Lib.hid (HQ.out.under M.out.2)
      have HNm := Lib.hid (NmIn.own (many_mem HQ.out.2.2.2.i64 k) M.out.1)
      clear M HQ hlt k1 hk
      go_upto_region 20 with fail
      obtain ⟨q0, q1, q2⟩ := row3 HQ2.out.2.1
      refine wp_region_held_drew (S := fun Y : World => Y.cell? ⟨g4, 0, none⟩ = some (.int .i64 1) ∧ Y.cell? ⟨g4, 1, none⟩ = some (.slice A es.length cap) ∧ Y.cell? ⟨g4, 2, none⟩ = some (.slice B L.length cbp)) (by kernel_rfl) ⟨q0, q1, q2⟩ (fun hHeld => ?_)
      clear q0 q1 q2
      have HD := Lib.hid HQ2.out.drew
      have HNm2 := Lib.hid (HNm.out.under (w' := wr.drew) (below_drewN (Below.refl _ _) 1))
      clear HQ2 HNm
      generalize wr.drew = XX at HD HNm2 hHeld ⊢
      refine wpAnyH_take (i := 0) (oi := ⟨some 100, _, _, _, _, none⟩) (v := ?_) rfl (by kernel_rfl) (by kernel_rfl) (by kernel_rfl) (fun _ _ _ h => h) (Or.inl ⟨by rfl, ?_⟩) (by assumption) ?_
      case refine_2 => (intro wx hSx; (try dsimp only at hSx); go_simp; first | done | with_reducible rfl)
      ((try simp only [Act.put]); (try simp only [List.setIfInBounds_toArray]); (try simp only [List.set_cons_succ]); (try simp only [List.set_cons_zero]))
      refine wpAnyH_take (i := 1) (oi := ⟨some 101, _, _, _, _, none⟩) (v := ?_) rfl (by kernel_rfl) (by kernel_rfl) (by kernel_rfl) (fun _ _ _ h => h) (Or.inl ⟨by rfl, ?_⟩) (by assumption) ?_
      case refine_2 => (intro wx hSx; (try dsimp only at hSx); go_simp; first | done | with_reducible rfl)
      ((try simp only [Act.put]); (try simp only [List.setIfInBounds_toArray]); (try simp only [List.set_cons_succ]); (try simp only [List.set_cons_zero]))
      refine wpAnyH_take (i := 2) (oi := ⟨some 102, _, _, _, _, none⟩) (v := ?_) rfl (by kernel_rfl) (by kernel_rfl) (by kernel_rfl) (fun _ _ _ h => h) (Or.inl ⟨by rfl, ?_⟩) (by assumption) ?_
      case refine_2 => (intro wx hSx; (try dsimp only at hSx); go_simp; first | done | with_reducible rfl)
      ((try simp only [Act.put]); (try simp only [List.setIfInBounds_toArray]); (try simp only [List.set_cons_succ]); (try simp only [List.set_cons_zero]))
      refine wpAnyH_take (i := 3) (oi := ⟨some 103, _, _, _, _, none⟩) (v := ?_) rfl (by kernel_rfl) (by kernel_rfl) (by kernel_rfl) (fun _ _ _ h => h) (Or.inl ⟨by rfl, ?_⟩) (by assumption) ?_
      case refine_2 => (intro wx hSx; (try dsimp only at hSx); go_simp; first | done | with_reducible rfl)
      ((try simp only [Act.put]); (try simp only [List.setIfInBounds_toArray]); (try simp only [List.set_cons_succ]); (try simp only [List.set_cons_zero]))
      refine wpAnyH_take (i := 4) (oi := ⟨some 104, _, _, _, _, none⟩) (v := ?_) rfl (by kernel_rfl) (by kernel_rfl) (by kernel_rfl) (fun _ _ _ h => h) (Or.inl ⟨by rfl, ?_⟩) (by assumption) ?_
      case refine_2 => (intro wx hSx; (try dsimp only at hSx); go_simp; first | done | with_reducible rfl)
      ((try simp only [Act.put]); (try simp only [List.setIfInBounds_toArray]); (try simp only [List.set_cons_succ]); (try simp only [List.set_cons_zero]))
      refine wpAnyH_take (i := 5) (oi := ⟨some 105, _, _, _, _, none⟩) (v := ?_) rfl (by kernel_rfl) (by kernel_rfl) (by kernel_rfl) (fun _ _ _ h => h) (Or.inl ⟨by rfl, ?_⟩) (by assumption) ?_
      case refine_2 => (intro wx hSx; (try dsimp only at hSx); go_simp; first | done | with_reducible rfl)
      ((try simp only [Act.put]); (try simp only [List.setIfInBounds_toArray]); (try simp only [List.set_cons_succ]); (try simp only [List.set_cons_zero]))
      refine wpAnyH_take (i := 6) (oi := ⟨some 106, _, _, _, _, none⟩) (v := ?_) rfl (by kernel_rfl) (by kernel_rfl) (by kernel_rfl) (fun _ _ _ h => h) (Or.inl ⟨by rfl, ?_⟩) (by assumption) ?_
      case refine_2 => (intro wx hSx; (try dsimp only at hSx); go_simp; first | done | with_reducible rfl)
      ((try simp only [Act.put]); (try simp only [List.setIfInBounds_toArray]); (try simp only [List.set_cons_succ]); (try simp only [List.set_cons_zero]))
      refine wpAnyH_take (i := 8) (oi := ⟨some 108, _, _, _, _, none⟩) (v := ?_) rfl (by kernel_rfl) (by kernel_rfl) (by kernel_rfl) (fun _ _ _ h => h) (Or.inl ⟨by rfl, ?_⟩) (by assumption) ?_
      case refine_2 => (intro wx hSx; (try dsimp only at hSx); go_simp; first | done | with_reducible rfl)
      ((try simp only [Act.put]); (try simp only [List.setIfInBounds_toArray]); (try simp only [List.set_cons_succ]); (try simp only [List.set_cons_zero]))
      refine wpAnyH_ready (rs := [7]) (by kernel_rfl) (by simp) ?_
      refine AllReadyH.cons (o := ⟨some 107, _, _, _, _, none⟩) rfl (fun Kx hK => ?_) AllReadyH.nil
      go_simp
      rw [IntWalk.i64_in (100 * (C.length : Int)) (by omega), IntWalk.i64_in (20000 + 100 * (C.length : Int)) (by omega), IntWalk.i64_in (20000 + 100 * (C.length : Int) + (k : Int)) (by omega)]
      have ha : Below XX.heap.size XX (XX.alloc (.cells #[.int .i64 (20000 + 100 * (C.length : Int) + (k : Int))] 3)) := (Below.refl _ _).alloc (Nat.le_refl _) _
      have HA := Lib.hid (HD.out.under ha)
      have HO := Lib.hid (World.ownsRow_lit (e := 3) (base := XX.heap.size) (size := 1) XX #[.int .i64 (20000 + 100 * (C.length : Int) + (k : Int))] 1 (Nat.le_refl _) (by decide) rfl)
      refine hK.out _ _ (row3 HA.out.2.1) (fun hHeld2 => ?_)
      clear hK Kx hHeld
      ((try simp only [Act.put]); (try simp only [List.setIfInBounds_toArray]); (try simp only [List.set_cons_succ]); (try simp only [List.set_cons_zero]))
      refine wpAnyH_ready (rs := [9]) (by kernel_rfl) (by simp) ?_
      refine AllReadyH.cons (o := ⟨some 109, _, _, _, _, none⟩) rfl (fun Kx hK => ?_) AllReadyH.nil
      refine step_append_ints rfl (.tmp 107) (.tmp 108) rfl XX.heap.size _ 1 _ rfl HO.out Ac C.length kc C rfl HA.out.2.2.2 (by omega) ha.size ?_
      intro vn w' ho' hg'
      have hb' : Below XX.heap.size XX w' := below_grown ha hg' (Nat.le_refl _) ha.size
      have HB := Lib.hid (HD.out.under hb')
      have HNm := Lib.hid (HNm2.out.under hb')
      have HN := Lib.hid (NmIn.own (C := (20000 + 100 * (C.length : Int) + (k : Int)) :: C) (fun q hq => by
        rcases List.mem_cons.1 hq with rfl | hq
        · exact ⟨by omega, by omega⟩
        · exact HD.out.2.2.2.i64 q hq) (by simpa [Nat.add_comm] using ho') : NmIn w' vn ((20000 + 100 * (C.length : Int) + (k : Int)) :: C))
      clear ho' hg' hb' ha HA HO HD hHeld2 HNm2
      refine hK.out _ _ (row3 HB.out.2.1) (fun hHeld => ?_)
      clear hK Kx
      ((try simp only [Act.put]); (try simp only [List.setIfInBounds_toArray]); (try simp only [List.set_cons_succ]); (try simp only [List.set_cons_zero]))
      refine wpAnyH_ready (rs := [10]) (by kernel_rfl) (by simp) ?_
      refine AllReadyH.cons (o := ⟨some 110, _, _, _, _, none⟩) rfl (fun Kx hK => ?_) AllReadyH.nil
      go_simp
      refine (expand_any (.agg #[.int .i64 1, .slice A es.length cap, .slice B L.length cbp]) vn 1 es ss ((20000 + 100 * (C.length : Int) + (k : Int)) :: C) w' HB.out.2.2.1 HN.out (HT.out.under HB.out.1)).mono ?_
      rintro e wh ⟨xh, Lh, ah, ha, rfl, hl, hb⟩
      have HAh := Lib.hid ha
      have HC := Lib.hid (HB.out.under hb)
      have HEh := Lib.hid hl
      have HNm2 := Lib.hid (HNm.out.under hb)
      clear hl hb HB HN hHeld ha HNm
      go_simp
      refine hK.out _ _ (row3 HC.out.2.1) (fun hHeld => ?_)
      clear hK Kx
      ((try simp only [Act.put]); (try simp only [List.setIfInBounds_toArray]); (try simp only [List.set_cons_succ]); (try simp only [List.set_cons_zero]))
      refine wpAnyH_take (i := 11) (oi := ⟨some 99, _, _, _, _, none⟩) (v := ?_) rfl (by kernel_rfl) (by kernel_rfl) (by kernel_rfl) (fun _ _ _ h => h) (Or.inl ⟨by rfl, ?_⟩) (by assumption) ?_
      case refine_2 => (intro wx hSx; (try dsimp only at hSx); go_simp; first | done | with_reducible rfl)
      ((try simp only [Act.put]); (try simp only [List.setIfInBounds_toArray]); (try simp only [List.set_cons_succ]); (try simp only [List.set_cons_zero]))
      refine wpAnyH_take (i := 12) (oi := ⟨some 111, _, _, _, _, none⟩) (v := ?_) rfl (by kernel_rfl) (by kernel_rfl) (by kernel_rfl) (fun _ _ _ h => h) (Or.inl ⟨by rfl, ?_⟩) (by assumption) ?_
      case refine_2 => (intro wx hSx; (try dsimp only at hSx); go_simp; first | done | with_reducible rfl)
      ((try simp only [Act.put]); (try simp only [List.setIfInBounds_toArray]); (try simp only [List.set_cons_succ]); (try simp only [List.set_cons_zero]))
      refine wpAnyH_take (i := 13) (oi := ⟨some 112, _, _, _, _, none⟩) (v := ?_) rfl (by kernel_rfl) (by kernel_rfl) (by kernel_rfl) (fun _ _ _ h => h) (Or.inl ⟨by rfl, ?_⟩) (by assumption) ?_
      case refine_2 => (intro wx hSx; (try dsimp only at hSx); go_simp; first | done | with_reducible rfl)
      ((try simp only [Act.put]); (try simp only [List.setIfInBounds_toArray]); (try simp only [List.set_cons_succ]); (try simp only [List.set_cons_zero]))
      refine wpAnyH_take (i := 14) (oi := ⟨some 17, _, _, _, _, none⟩) (v := ?_) rfl (by kernel_rfl) (by kernel_rfl) (by kernel_rfl) (fun _ _ _ h => h) (Or.inl ⟨by rfl, ?_⟩) (by assumption) ?_
      case refine_2 => (intro wx hSx; (try dsimp only at hSx); go_simp; first | done | with_reducible rfl)
      ((try simp only [Act.put]); (try simp only [List.setIfInBounds_toArray]); (try simp only [List.set_cons_succ]); (try simp only [List.set_cons_zero]))
      refine wpAnyH_take (i := 15) (oi := ⟨some 18, _, _, _, _, none⟩) (v := ?_) rfl (by kernel_rfl) (by kernel_rfl) (by kernel_rfl) (fun _ _ _ h => h) (Or.inl ⟨by rfl, ?_⟩) (by assumption) ?_
      case refine_2 => (intro wx hSx; (try dsimp only at hSx); go_simp; first | done | with_reducible rfl)
      ((try simp only [Act.put]); (try simp only [List.setIfInBounds_toArray]); (try simp only [List.set_cons_succ]); (try simp only [List.set_cons_zero]))
      refine wpAnyH_done (by kernel_rfl) ?_ _
      clear hHeld
      go_upto_region 21 with fail
      obtain ⟨q0, q1, q2⟩ := row3 HC.out.2.1
      have HX := Lib.hid (expand_any _ _ 1 es ss (many C k) _ HC.out.2.2.1 HNm2.out (HT.out.under HC.out.1))
      go_wp2_with fail
      refine HX.out.mono ?_
      rintro e wi ⟨xi, Li, ai, ha, rfl, hl3, hb⟩
      have HAi := Lib.hid ha
      have HEi := Lib.hid hl3
      have Jwi := Lib.hid (HC.out.under hb)
      have Kh := Lib.hid (HEh.out.under hb)
      clear hl3 hb ha HX HC q0 q1 q2 HEh
      have HEh := Kh
      clear Kh
      go_upto_region 22 with fail
      obtain ⟨q0, q1, q2⟩ := row3 Jwi.out.2.1
      have HX := Lib.hid (refExpand_any _ _ 1 es ss C _ Jwi.out.2.2.1 Jwi.out.2.2.2)
      go_wp2_with fail
      refine HX.out.mono ?_
      rintro e wj ⟨xj, Lj, aj, ha, rfl, hl3, hb⟩
      have HAj := Lib.hid ha
      have Jwj := Lib.hid (Jwi.out.under hb)
      have Kh := Lib.hid (HEh.out.under hb)
      have Ki := Lib.hid (HEi.out.under hb)
      clear hl3 hb ha HX Jwi q0 q1 q2 HEh HEi
      by_cases ej : xj = 0
      case neg =>
        have dj : (xj == 0) = false := by simpa using ej
        have eh := rep_no HG.out (by omega) (by omega) (by omega) (by omega) HAh.out HAj.out ej
        have dh : (xh == 0) = false := by simpa using eh
        go_wp2_with fail
        refine (awake_from (w0 := W) wj (HT.out.under Jwj.out.1) Jwj.out.1).mono ?_
        rintro e wz ⟨rfl, hb⟩
        have HF := Lib.hid hb
        clear hb
        go_wp2_with fail
        go_ret
        first | exact ⟨rfl, HF.out⟩ | exact ⟨ret_bool (by simpa using eh), HF.out⟩
      subst ej
      by_cases eh : xh = 2
      · subst eh
        go_wp2_with fail
        refine (awake_from (w0 := W) wj (HT.out.under Jwj.out.1) Jwj.out.1).mono ?_
        rintro e wz ⟨rfl, hb⟩
        have HF := Lib.hid hb
        clear hb
        go_wp2_with fail
        go_ret
        first | exact ⟨rfl, HF.out⟩ | exact ⟨ret_bool (by simpa using eh), HF.out⟩
      have dh : (xh == 2) = false := by simpa using eh
      by_cases ei : xi = 2
      · subst ei
        go_wp2_with fail
        refine (awake_from (w0 := W) wj (HT.out.under Jwj.out.1) Jwj.out.1).mono ?_
        rintro e wz ⟨rfl, hb⟩
        have HF := Lib.hid hb
        clear hb
        go_wp2_with fail
        go_ret
        first | exact ⟨rfl, HF.out⟩ | exact ⟨ret_bool (by simpa using eh), HF.out⟩
      have di : (xi == 2) = false := by simpa using ei
      obtain ⟨hxi, hLL⟩ := rep_yes HG.out (by omega) (by omega) (by omega) (by omega) HAh.out HAj.out HAi.out eh ei
      have HS := same_any ah ai Lh Li wj Kh.out Ki.out
      rw [decide_eq_true hLL] at HS
      have HS := Lib.hid HS
      clear eh ei hLL
      subst hxi
      go_wp2_with fail
      refine HS.out.mono ?_
      rintro e wk ⟨rfl, hb⟩
      have Jwk := Lib.hid (Jwj.out.under hb)
      clear hb HS
      go_wp2_with fail
      refine (awake_from (w0 := W) wk (HT.out.under Jwk.out.1) Jwk.out.1).mono ?_
      rintro e wz ⟨rfl, hb⟩
      have HF := Lib.hid hb
      clear hb
      go_wp2_with fail
      go_ret
      first | exact ⟨rfl, HF.out⟩ | exact ⟨ret_bool (by simpa using eh), HF.out⟩
end Go.Proofs.YtjaopjhfjijdaaaDoor
