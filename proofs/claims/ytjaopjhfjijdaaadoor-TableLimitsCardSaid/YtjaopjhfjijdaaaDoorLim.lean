/- The walk of TableLimits. -/
import Derived.Test.YtjaopjhfjijdaaaDoorEm
namespace Go.Proofs.YtjaopjhfjijdaaaDoor
open Go.RowKit

/-- What the law holds once all is drawn: the table in its box, the list of codes. -/
def Ls (W : World) (g4 : Nat) (va vb : Value) (es : List En) (ss : List Sq) (vv : Value) (C : List Int) (Y : World) : Prop := Below W.heap.size W Y ∧ Row Y g4 25 #[.int .i64 1, va, vb] ∧ TbIn Y (.agg #[.int .i64 1, va, vb]) 1 es ss ∧ NmIn Y vv C
theorem Ls.under {W : World} {g4 : Nat} {va vb : Value} {es : List En} {ss : List Sq} {vv : Value} {C : List Int} {Y Y' : World} (h : Ls W g4 va vb es ss vv C Y) (hb : Below Y.heap.size Y Y') : Ls W g4 va vb es ss vv C Y' := ⟨h.1.trans (hb.mono h.1.size), h.2.1.under hb, h.2.2.1.under hb, h.2.2.2.under hb⟩
theorem Ls.drew {W : World} {g4 : Nat} {va vb : Value} {es : List En} {ss : List Sq} {vv : Value} {C : List Int} {Y : World} (h : Ls W g4 va vb es ss vv C Y) : Ls W g4 va vb es ss vv C Y.drew := h.under (below_drewN (Below.refl _ _) 1)
theorem div60 {x : Nat} (h1 : 1 ≤ x) (h2 : x ≤ 19) (h3 : 60 / x ≤ 20) : 3 ≤ x ∧ 3 ≤ 60 / x ∧ (60 / x) * x ≤ 60 ∧ 60 < (60 / x + 1) * x ∧ (60 / x = 20 → x = 3) := by
  have : ∀ x : Fin 20, 1 ≤ x.val → 60 / x.val ≤ 20 → 3 ≤ x.val ∧ 3 ≤ 60 / x.val ∧ (60 / x.val) * x.val ≤ 60 ∧ 60 < (60 / x.val + 1) * x.val ∧ (60 / x.val = 20 → x.val = 3) := by decide
  exact this ⟨x, by omega⟩ h1 h3
set_option maxRecDepth 100000 in
set_option maxHeartbeats 4000000 in
theorem tableLimits_any (v : Value) (W : World) (hT : Tab W) (hv : ListIn W v) :
    Calls Tryd.prog 7 #[v] W fun e w' => e = .returned (.bool true) ∧ Below W.heap.size W w' := by
  have HT := Lib.hid hT
  clear hT
  obtain ⟨i0, hi, hz0, hz1, hz2⟩ := info_parts infoInt
  go_enter Tryd.func7, Tryd.ntmps7
  go_wp2_with fail
  refine (new_any W v hv).mono ?_
  rintro e w1 ⟨rfl, hs, hb⟩
  have H1 : Hid (Src W W.heap.size w1) := Lib.hid hs
  have HWb : Hid (W.heap.size ≤ W.heap.size) := Lib.hid (Nat.le_refl _)
  clear hs hb hv
  obtain ⟨b, eb⟩ : ∃ b, W.heap.size = b := ⟨_, rfl⟩
  have HEb := Lib.hid eb
  rw [eb] at H1 ⊢
  clear eb HWb
  go_wp2_with fail
  refine (table_any W b w1 1 H1.out).mono ?_
  rintro e w2 ⟨tv, es, ss, rfl, htb, hes, hss, hs, hg⟩
  obtain ⟨A, cap, Bq, cbp, rfl, -, -⟩ := htb.parts
  have hb2 : Below w2.heap.size w2 (w2.alloc (.cells #[.int .i64 1, .slice A es.length cap, .slice Bq ss.length cbp] 25)) := (Below.refl _ _).alloc (Nat.le_refl _) _
  generalize w1.heap.size = base at htb
  have H2 : Hid (Src W b (w2.alloc (.cells #[.int .i64 1, .slice A es.length cap, .slice Bq ss.length cbp] 25)) ∧ Row (w2.alloc (.cells #[.int .i64 1, .slice A es.length cap, .slice Bq ss.length cbp] 25)) w2.heap.size 25 #[.int .i64 1, .slice A es.length cap, .slice Bq ss.length cbp] ∧ TbO b base (w2.alloc (.cells #[.int .i64 1, .slice A es.length cap, .slice Bq ss.length cbp] 25)) (.agg #[.int .i64 1, .slice A es.length cap, .slice Bq ss.length cbp]) 1 es ss) := Lib.hid ⟨hs.under hb2, Row.new _ _ _, htb.under hb2⟩
  have HES := Lib.hid hes
  have HG := Lib.hid (tab_good (v := 1) ⟨by decide, by decide⟩ hes hss)
  clear hs htb hes hss hg H1 hb2
  go_upto_region 3 with fail
  refine forget (fun V => Hid (Src W b V ∧ Row V w2.heap.size 25 #[.int .i64 1, .slice A es.length cap, .slice Bq ss.length cbp] ∧ TbO b base V (.agg #[.int .i64 1, .slice A es.length cap, .slice Bq ss.length cbp]) 1 es ss)) H2 ?_
  clear H2
  generalize w2.heap.size = g4
  intro V H2
  go_wp2_with fail
  refine (range_any W b V 1 20 H2.out.1 (by decide) (by decide) (by decide) (by decide)).mono ?_
  rintro e w3 ⟨x0, ⟨x1, x2⟩, rfl, hs, hg⟩
  obtain ⟨x, rfl⟩ : ∃ x : Nat, x0 = (x : Int) := ⟨x0.toNat, by omega⟩
  have H3 := Lib.hid (⟨hs, H2.out.2.1.keep H2.out.1 hg (by decide), H2.out.2.2.step hg⟩ : Src W b w3 ∧ Row w3 g4 25 #[.int .i64 1, .slice A es.length cap, .slice Bq ss.length cbp] ∧ TbO b base w3 (.agg #[.int .i64 1, .slice A es.length cap, .slice Bq ss.length cbp]) 1 es ss)
  clear hs hg H2
  obtain ⟨y, hy⟩ : ∃ y : Nat, 60 / x = y := ⟨_, rfl⟩
  have xd : Int.tdiv 60 (x : Int) = (y : Int) := by rw [← hy]; rfl
  have xne : ¬ (x : Int) = 0 := by omega
  have xne2 : ((x : Int) == 0) = false := by simpa using xne
  have hyb : y ≤ 60 := by rw [← hy]; exact Nat.div_le_self _ _
  have HY := Lib.hid hy
  clear hy
  go_wp2_with fail
  go_loopw [7, 8] (fun vv t Y => ∃ C : List Int, t = .int .i64 C.length ∧ C.length ≤ x ∧ Hid ((∀ c ∈ C, ∃ k : Int, 1 ≤ k ∧ k ≤ 11 ∧ c = 100 * k) ∧ AllI C ∧ Y.ownsRow w3.heap.size 3 1 vv C.length (C.map (Value.int .i64)) ∧ Src W b Y ∧ w3.grownBy Y (some b))) (fun _ t _ => x - (intOf t).toNat)
  case atStart => exact ⟨[], rfl, Nat.zero_le _, Lib.hid ⟨fun c h => absurd h List.not_mem_nil, fun c h => absurd h List.not_mem_nil, World.ownsRow_nil _ _ _ _, H3.out.1, grown_refl _ _⟩⟩
  case round =>
    obtain ⟨C, rfl, hk, J⟩ := hrel
    obtain ⟨Av, cv, ev⟩ := sl_of J.out.2.2.1
    subst ev
    by_cases hlt : C.length < x
    · have k1 : (C.length : Int) < (x : Int) := by omega
      have HR := Lib.hid (range_any W b wr 1 11 J.out.2.2.2.1 (by decide) (by decide) (by decide) (by decide))
      go_wp2_with fail
      refine HR.out.mono ?_
      rintro e w4 ⟨j, ⟨j1, j2⟩, rfl, hs, hg⟩
      have hbl := src_lt H3.out.1
      have hob : Value.ownBlock (.slice Av C.length cv) ≠ some b := fun q => by have := (J.out.2.2.1.lt _ q).1; omega
      have hy : I64 (100 * j) := ⟨by omega, by omega⟩
      have J2 := Lib.hid (⟨J.out.1, J.out.2.1, J.out.2.2.1.kept hg (.inr hob), hs, grown_trans J.out.2.2.2.2 hg, hy⟩ : (∀ c ∈ C, ∃ k : Int, 1 ≤ k ∧ k ≤ 11 ∧ c = 100 * k) ∧ AllI C ∧ w4.ownsRow w3.heap.size 3 1 (.slice Av C.length cv) C.length (C.map (Value.int .i64)) ∧ Src W b w4 ∧ w3.grownBy w4 (some b) ∧ I64 (100 * j))
      clear hs hg J hob HR hy
      have hb1 := (Below.refl w4.heap.size w4).alloc (Nat.le_refl _) (.cells #[.int .i64 (100 * j)] 3)
      have N1 := Lib.hid (one_at (Row.new w4 #[.int .i64 (100 * j)] 3))
      have J3 : Hid ((w4.alloc (.cells #[.int .i64 (100 * j)] 3)).ownsRow w3.heap.size 3 1 (.slice Av C.length cv) C.length (C.map (Value.int .i64)) ∧ Src W b (w4.alloc (.cells #[.int .i64 (100 * j)] 3)) ∧ w3.grownBy (w4.alloc (.cells #[.int .i64 (100 * j)] 3)) (some b)) := Lib.hid ⟨own_under J2.out.2.2.1 hb1, J2.out.2.2.2.1.under hb1, grown_trans J2.out.2.2.2.2.1 (grown_below hb1)⟩
      clear hb1
      go_wp2_with (at_builtin; refine wpList_append_own' rfl (.tmp 31) (.tmp 35) 26 rfl w3.heap.size 3 i0 _ 1 8 Tryd.underlying26 hi hz0 hz1 hz2 rfl (by decide) (.slice Av C.length cv) C.length (C.map (Value.int .i64)) rfl J3.out.1 ⟨w4.heap.size, 0, none⟩ 1 1 ([100 * j].map (Value.int .i64)) rfl rfl N1.out (ints_one _) (by unfold maxLen; omega) (by omega) J3.out.2.2.size ?_; intro v' w5 ho' hg3)
      have HF0 := codes_step hbl J2.out.2.2.2.2.2 J2.out.2.1 J3.out.1 ho' hg3 J3.out.2.1 J3.out.2.2
      have HF : Hid ((∀ c ∈ C ++ [100 * j], ∃ k : Int, 1 ≤ k ∧ k ≤ 11 ∧ c = 100 * k) ∧ AllI (C ++ [100 * j]) ∧ w5.ownsRow w3.heap.size 3 1 v' (C ++ [100 * j]).length ((C ++ [100 * j]).map (Value.int .i64)) ∧ Src W b w5 ∧ w3.grownBy w5 (some b)) := Lib.hid ⟨fun c hc => by
        rcases List.mem_append.1 hc with hc | hc
        · exact J2.out.1 c hc
        · exact ⟨j, j1, j2, List.mem_singleton.1 hc⟩, HF0⟩
      clear ho' hg3 J2 J3 N1 HF0
      go_wp2_with fail
      go_roundw
      case rel => exact ⟨C ++ [100 * j], by simp, by simp only [List.length_append, List.length_singleton]; omega, HF⟩
      case measure => simp [intOf]; omega
    · have k1 : ¬ (C.length : Int) < (x : Int) := by omega
      have hCx : C.length = x := by omega
      have HL : Hid (Ls W g4 (.slice A es.length cap) (.slice Bq ss.length cbp) es ss (.slice Av C.length cv) C wr) := Lib.hid ⟨by have := J.out.2.2.2.1.below; exact this, H3.out.2.1.keep H3.out.1 J.out.2.2.2.2 (by decide), (H3.out.2.2.step J.out.2.2.2.2).tb, NmIn.own J.out.2.1 J.out.2.2.1⟩
      have HCf : Hid (∀ c ∈ C, knd c = 1 ∧ ∃ e, fE es c = some e) := Lib.hid (fun c hc => by
        obtain ⟨k, k1, k2, rfl⟩ := J.out.1 c hc
        exact ⟨knd_1.2 ⟨by omega, by omega⟩, tab_find HES.out ⟨k, k1, k2, rfl⟩⟩)
      have HCI : Hid (∀ z : Int, -1000000 ≤ z → z ≤ 1000000 → ∀ q ∈ z :: C, I64 q) := Lib.hid (fun z h1 h2 q hq => by
        rcases List.mem_cons.1 hq with rfl | hq
        · exact ⟨by omega, by omega⟩
        · exact J.out.2.1 q hq)
      clear J hlt k1
      obtain ⟨vv, hvv⟩ : ∃ vv, Value.slice Av C.length cv = vv := ⟨_, rfl⟩
      rw [hvv] at HL ⊢
      clear hvv
      by_cases q1 : 20 < y
      · have z1 : (20 : Int) < (y : Int) := by omega
        go_wp2_with fail
        refine (awake_from (w0 := W) wr (HT.out.under HL.out.1) HL.out.1).mono ?_
        rintro e w9 ⟨rfl, hb⟩
        have HF := Lib.hid hb
        clear hb
        go_wp2_with fail
        go_ret
        exact ⟨rfl, HF.out⟩
      by_cases q2 : 19 < x
      · have z1 : ¬ (20 : Int) < (y : Int) := by omega
        have z2 : (19 : Int) < (x : Int) := by omega
        go_wp2_with fail
        refine (awake_from (w0 := W) wr (HT.out.under HL.out.1) HL.out.1).mono ?_
        rintro e w9 ⟨rfl, hb⟩
        have HF := Lib.hid hb
        clear hb
        go_wp2_with fail
        go_ret
        exact ⟨rfl, HF.out⟩
      have z1 : ¬ (20 : Int) < (y : Int) := by omega
      have z2 : ¬ (19 : Int) < (x : Int) := by omega
      obtain ⟨d1, d2, d3, d4, d5⟩ := div60 (x := x) (by omega) (by omega) (by rw [HY.out]; omega)
      rw [HY.out] at d2 d3 d4 d5
      subst hCx
      go_upto_region 12 with fail
      obtain ⟨q0, q1, q2⟩ := row3 HL.out.2.1
      refine wp_region_held_drew (S := fun Y : World => Y.cell? ⟨g4, 0, none⟩ = some (.int .i64 1) ∧ Y.cell? ⟨g4, 1, none⟩ = some (.slice A es.length cap) ∧ Y.cell? ⟨g4, 2, none⟩ = some (.slice Bq ss.length cbp)) (by kernel_rfl) ⟨q0, q1, q2⟩ (fun hHeld => ?_)
      clear q0 q1 q2
      have HD := Lib.hid (HL.out.drew)
      clear HL
      generalize wr.drew = wr at HD hHeld ⊢
      refine wpAnyH_take (i := 0) (oi := ⟨some 45, _, _, _, _, none⟩) (v := ?_) rfl (by kernel_rfl) (by kernel_rfl) (by kernel_rfl) (fun _ _ _ h => h) (Or.inl ⟨by rfl, ?_⟩) (by assumption) ?_
      case refine_2 => (intro wx hSx; (try dsimp only at hSx); go_simp; first | done | with_reducible rfl)
      ((try simp only [Act.put]); (try simp only [List.setIfInBounds_toArray]); (try simp only [List.set_cons_succ]); (try simp only [List.set_cons_zero]))
      refine wpAnyH_take (i := 1) (oi := ⟨some 46, _, _, _, _, none⟩) (v := ?_) rfl (by kernel_rfl) (by kernel_rfl) (by kernel_rfl) (fun _ _ _ h => h) (Or.inl ⟨by rfl, ?_⟩) (by assumption) ?_
      case refine_2 => (intro wx hSx; (try dsimp only at hSx); go_simp; first | done | with_reducible rfl)
      ((try simp only [Act.put]); (try simp only [List.setIfInBounds_toArray]); (try simp only [List.set_cons_succ]); (try simp only [List.set_cons_zero]))
      refine wpAnyH_take (i := 2) (oi := ⟨some 47, _, _, _, _, none⟩) (v := ?_) rfl (by kernel_rfl) (by kernel_rfl) (by kernel_rfl) (fun _ _ _ h => h) (Or.inl ⟨by rfl, ?_⟩) (by assumption) ?_
      case refine_2 => (intro wx hSx; (try dsimp only at hSx); go_simp; first | done | with_reducible rfl)
      ((try simp only [Act.put]); (try simp only [List.setIfInBounds_toArray]); (try simp only [List.set_cons_succ]); (try simp only [List.set_cons_zero]))
      refine wpAnyH_take (i := 3) (oi := ⟨some 48, _, _, _, _, none⟩) (v := ?_) rfl (by kernel_rfl) (by kernel_rfl) (by kernel_rfl) (fun _ _ _ h => h) (Or.inl ⟨by rfl, ?_⟩) (by assumption) ?_
      case refine_2 => (intro wx hSx; (try dsimp only at hSx); go_simp; first | done | with_reducible rfl)
      ((try simp only [Act.put]); (try simp only [List.setIfInBounds_toArray]); (try simp only [List.set_cons_succ]); (try simp only [List.set_cons_zero]))
      refine wpAnyH_take (i := 4) (oi := ⟨some 49, _, _, _, _, none⟩) (v := ?_) rfl (by kernel_rfl) (by kernel_rfl) (by kernel_rfl) (fun _ _ _ h => h) (Or.inl ⟨by rfl, ?_⟩) (by assumption) ?_
      case refine_2 => (intro wx hSx; (try dsimp only at hSx); go_simp; first | done | with_reducible rfl)
      ((try simp only [Act.put]); (try simp only [List.setIfInBounds_toArray]); (try simp only [List.set_cons_succ]); (try simp only [List.set_cons_zero]))
      refine wpAnyH_take (i := 5) (oi := ⟨some 50, _, _, _, _, none⟩) (v := ?_) rfl (by kernel_rfl) (by kernel_rfl) (by kernel_rfl) (fun _ _ _ h => h) (Or.inl ⟨by rfl, ?_⟩) (by assumption) ?_
      case refine_2 => (intro wx hSx; (try dsimp only at hSx); go_simp; first | done | with_reducible rfl)
      ((try simp only [Act.put]); (try simp only [List.setIfInBounds_toArray]); (try simp only [List.set_cons_succ]); (try simp only [List.set_cons_zero]))
      refine wpAnyH_take (i := 7) (oi := ⟨some 52, _, _, _, _, none⟩) (v := ?_) rfl (by kernel_rfl) (by kernel_rfl) (by kernel_rfl) (fun _ _ _ h => h) (Or.inl ⟨by rfl, ?_⟩) (by assumption) ?_
      case refine_2 => (intro wx hSx; (try dsimp only at hSx); go_simp; first | done | with_reducible rfl)
      ((try simp only [Act.put]); (try simp only [List.setIfInBounds_toArray]); (try simp only [List.set_cons_succ]); (try simp only [List.set_cons_zero]))
      refine wpAnyH_ready (rs := [6]) (by kernel_rfl) (by simp) ?_
      refine AllReadyH.cons (o := ⟨some 51, _, _, _, _, none⟩) rfl (fun Kx hK => ?_) AllReadyH.nil
      go_simp
      rw [IntWalk.i64_in (100 * (C.length : Int)) (by omega), IntWalk.i64_in (20000 + 100 * (C.length : Int)) (by omega), IntWalk.i64_in (20000 + 100 * (C.length : Int) + (y : Int)) (by omega)]
      have ha : Below wr.heap.size wr (wr.alloc (.cells #[.int .i64 (20000 + 100 * (C.length : Int) + (y : Int))] 3)) := (Below.refl _ _).alloc (Nat.le_refl _) _
      have HA := Lib.hid (HD.out.under ha)
      have HO := Lib.hid (World.ownsRow_lit (e := 3) (base := wr.heap.size) (size := 1) wr #[.int .i64 (20000 + 100 * (C.length : Int) + (y : Int))] 1 (Nat.le_refl _) (by decide) rfl)
      refine hK.out _ _ (row3 HA.out.2.1) (fun hHeld2 => ?_)
      clear hK Kx hHeld
      ((try simp only [Act.put]); (try simp only [List.setIfInBounds_toArray]); (try simp only [List.set_cons_succ]); (try simp only [List.set_cons_zero]))
      refine wpAnyH_ready (rs := [8]) (by kernel_rfl) (by simp) ?_
      refine AllReadyH.cons (o := ⟨some 53, _, _, _, _, none⟩) rfl (fun Kx hK => ?_) AllReadyH.nil
      obtain ⟨Ac, cc, ev⟩ : ∃ Ac cc, vv = .slice Ac C.length cc := by
        obtain ⟨Ac, cc, e, -⟩ := HA.out.2.2.2
        exact ⟨Ac, cc, e⟩
      subst ev
      refine step_append_ints rfl (.tmp 51) (.tmp 52) rfl wr.heap.size _ 1 _ rfl HO.out Ac C.length cc C rfl HA.out.2.2.2 (by omega) ha.size ?_
      intro vn w' ho' hg'
      have hb' : Below wr.heap.size wr w' := below_grown ha hg' (Nat.le_refl _) ha.size
      have HB := Lib.hid (HD.out.under hb')
      have HN := Lib.hid (NmIn.own (C := (20000 + 100 * (C.length : Int) + (y : Int)) :: C) (HCI.out _ (by omega) (by omega)) (by simpa [Nat.add_comm] using ho') : NmIn w' vn ((20000 + 100 * (C.length : Int) + (y : Int)) :: C))
      clear ho' hg' hb' ha HA HO HD hHeld2
      refine hK.out _ _ (row3 HB.out.2.1) (fun hHeld => ?_)
      clear hK Kx
      ((try simp only [Act.put]); (try simp only [List.setIfInBounds_toArray]); (try simp only [List.set_cons_succ]); (try simp only [List.set_cons_zero]))
      refine wpAnyH_ready (rs := [9]) (by kernel_rfl) (by simp) ?_
      refine AllReadyH.cons (o := ⟨some 54, _, _, _, _, none⟩) rfl (fun Kx hK => ?_) AllReadyH.nil
      go_simp
      refine (expand_any (.agg #[.int .i64 1, .slice A es.length cap, .slice Bq ss.length cbp]) vn 1 es ss ((20000 + 100 * (C.length : Int) + (y : Int)) :: C) w' HB.out.2.2.1 HN.out (HT.out.under HB.out.1)).mono ?_
      rintro e w6 ⟨x9, L9, a9, ha, rfl, hl, hb⟩
      have ha' : Ans 1 es ss ((20000 + 100 * (C.length : Int) + (y : Int)) :: C) x9 L9 := ha
      obtain ⟨tk, L0, hL0, hv0⟩ := lim_yes (es := es) (ss := ss) (C := C) rfl (by omega) (by omega) (by omega) (by omega) d3 HCf.out
      obtain ⟨rfl, rfl⟩ := ha'.one (.inr (.inr ⟨good_iff.2 HG.out, by simp only [List.length_cons]; omega, .inr ⟨rfl, tk, hv0⟩⟩))
      have HL9 := Lib.hid hL0
      clear hv0 hL0 ha'
      have HC := Lib.hid (HB.out.under hb)
      have HEx9 := Lib.hid hl
      clear hl hb HB HN hHeld ha
      go_simp
      refine hK.out _ _ (row3 HC.out.2.1) (fun hHeld => ?_)
      clear hK Kx
      ((try simp only [Act.put]); (try simp only [List.setIfInBounds_toArray]); (try simp only [List.set_cons_succ]); (try simp only [List.set_cons_zero]))
      refine wpAnyH_take (i := 10) (oi := ⟨some 44, _, _, _, _, none⟩) (v := ?_) rfl (by kernel_rfl) (by kernel_rfl) (by kernel_rfl) (fun _ _ _ h => h) (Or.inl ⟨by rfl, ?_⟩) (by assumption) ?_
      case refine_2 => (intro wx hSx; (try dsimp only at hSx); go_simp; first | done | with_reducible rfl)
      ((try simp only [Act.put]); (try simp only [List.setIfInBounds_toArray]); (try simp only [List.set_cons_succ]); (try simp only [List.set_cons_zero]))
      refine wpAnyH_take (i := 11) (oi := ⟨some 55, _, _, _, _, none⟩) (v := ?_) rfl (by kernel_rfl) (by kernel_rfl) (by kernel_rfl) (fun _ _ _ h => h) (Or.inl ⟨by rfl, ?_⟩) (by assumption) ?_
      case refine_2 => (intro wx hSx; (try dsimp only at hSx); go_simp; first | done | with_reducible rfl)
      ((try simp only [Act.put]); (try simp only [List.setIfInBounds_toArray]); (try simp only [List.set_cons_succ]); (try simp only [List.set_cons_zero]))
      refine wpAnyH_take (i := 12) (oi := ⟨some 56, _, _, _, _, none⟩) (v := ?_) rfl (by kernel_rfl) (by kernel_rfl) (by kernel_rfl) (fun _ _ _ h => h) (Or.inl ⟨by rfl, ?_⟩) (by assumption) ?_
      case refine_2 => (intro wx hSx; (try dsimp only at hSx); go_simp; first | done | with_reducible rfl)
      ((try simp only [Act.put]); (try simp only [List.setIfInBounds_toArray]); (try simp only [List.set_cons_succ]); (try simp only [List.set_cons_zero]))
      refine wpAnyH_take (i := 13) (oi := ⟨some 9, _, _, _, _, none⟩) (v := ?_) rfl (by kernel_rfl) (by kernel_rfl) (by kernel_rfl) (fun _ _ _ h => h) (Or.inl ⟨by rfl, ?_⟩) (by assumption) ?_
      case refine_2 => (intro wx hSx; (try dsimp only at hSx); go_simp; first | done | with_reducible rfl)
      ((try simp only [Act.put]); (try simp only [List.setIfInBounds_toArray]); (try simp only [List.set_cons_succ]); (try simp only [List.set_cons_zero]))
      refine wpAnyH_take (i := 14) (oi := ⟨some 10, _, _, _, _, none⟩) (v := ?_) rfl (by kernel_rfl) (by kernel_rfl) (by kernel_rfl) (fun _ _ _ h => h) (Or.inl ⟨by rfl, ?_⟩) (by assumption) ?_
      case refine_2 => (intro wx hSx; (try dsimp only at hSx); go_simp; first | done | with_reducible rfl)
      ((try simp only [Act.put]); (try simp only [List.setIfInBounds_toArray]); (try simp only [List.set_cons_succ]); (try simp only [List.set_cons_zero]))
      refine wpAnyH_done (by kernel_rfl) ?_ _
      clear hHeld
      obtain ⟨M, hM⟩ : ∃ M : Nat, (if (y : Int) + 1 < 20 then (y : Int) + 1 else 20) = (M : Int) ∧ 1 ≤ M ∧ M ≤ 20 ∧ (y + 1 < 20 → M = y + 1) ∧ (¬ y + 1 < 20 → M = 20) := by
        by_cases h : y + 1 < 20
        · exact ⟨y + 1, by rw [if_pos (by omega)]; omega, by omega, by omega, fun _ => rfl, fun q => absurd h q⟩
        · exact ⟨20, by rw [if_neg (by omega)]; rfl, by omega, by omega, fun q => absurd q h, fun _ => rfl⟩
      have HM := Lib.hid hM
      clear hM
      go_upto_region 13 with fail
      obtain ⟨q0, q1, q2⟩ := row3 HC.out.2.1
      refine wp_region_held_drew (S := fun Y : World => Y.cell? ⟨g4, 0, none⟩ = some (.int .i64 1) ∧ Y.cell? ⟨g4, 1, none⟩ = some (.slice A es.length cap) ∧ Y.cell? ⟨g4, 2, none⟩ = some (.slice Bq ss.length cbp)) (by kernel_rfl) ⟨q0, q1, q2⟩ (fun hHeld => ?_)
      clear q0 q1 q2
      have HD := Lib.hid (HC.out.drew)
      clear HC
      generalize w6.drew = w6 at HD hHeld ⊢
      refine wpAnyH_take (i := 0) (oi := ⟨some 58, _, _, _, _, none⟩) (v := ?_) rfl (by kernel_rfl) (by kernel_rfl) (by kernel_rfl) (fun _ _ _ h => h) (Or.inl ⟨by rfl, ?_⟩) (by assumption) ?_
      case refine_2 => (intro wx hSx; (try dsimp only at hSx); go_simp; first | done | with_reducible rfl)
      ((try simp only [Act.put]); (try simp only [List.setIfInBounds_toArray]); (try simp only [List.set_cons_succ]); (try simp only [List.set_cons_zero]))
      refine wpAnyH_take (i := 1) (oi := ⟨some 59, _, _, _, _, none⟩) (v := ?_) rfl (by kernel_rfl) (by kernel_rfl) (by kernel_rfl) (fun _ _ _ h => h) (Or.inl ⟨by rfl, ?_⟩) (by assumption) ?_
      case refine_2 => (intro wx hSx; (try dsimp only at hSx); go_simp; first | done | with_reducible rfl)
      ((try simp only [Act.put]); (try simp only [List.setIfInBounds_toArray]); (try simp only [List.set_cons_succ]); (try simp only [List.set_cons_zero]))
      refine wpAnyH_take (i := 2) (oi := ⟨some 60, _, _, _, _, none⟩) (v := ?_) rfl (by kernel_rfl) (by kernel_rfl) (by kernel_rfl) (fun _ _ _ h => h) (Or.inl ⟨by rfl, ?_⟩) (by assumption) ?_
      case refine_2 => (intro wx hSx; (try dsimp only at hSx); go_simp; first | done | with_reducible rfl)
      ((try simp only [Act.put]); (try simp only [List.setIfInBounds_toArray]); (try simp only [List.set_cons_succ]); (try simp only [List.set_cons_zero]))
      refine wpAnyH_take (i := 3) (oi := ⟨some 61, _, _, _, _, none⟩) (v := ?_) rfl (by kernel_rfl) (by kernel_rfl) (by kernel_rfl) (fun _ _ _ h => h) (Or.inl ⟨by rfl, ?_⟩) (by assumption) ?_
      case refine_2 => (intro wx hSx; (try dsimp only at hSx); go_simp; first | done | with_reducible rfl)
      ((try simp only [Act.put]); (try simp only [List.setIfInBounds_toArray]); (try simp only [List.set_cons_succ]); (try simp only [List.set_cons_zero]))
      refine wpAnyH_take (i := 4) (oi := ⟨some 62, _, _, _, _, none⟩) (v := ?_) rfl (by kernel_rfl) (by kernel_rfl) (by kernel_rfl) (fun _ _ _ h => h) (Or.inl ⟨by rfl, ?_⟩) (by assumption) ?_
      case refine_2 => (intro wx hSx; (try dsimp only at hSx); go_simp; first | done | with_reducible rfl)
      ((try simp only [Act.put]); (try simp only [List.setIfInBounds_toArray]); (try simp only [List.set_cons_succ]); (try simp only [List.set_cons_zero]))
      refine wpAnyH_take (i := 5) (oi := ⟨some 63, _, _, _, _, none⟩) (v := ?_) rfl (by kernel_rfl) (by kernel_rfl) (by kernel_rfl) (fun _ _ _ h => h) (Or.inl ⟨by rfl, ?_⟩) (by assumption) ?_
      case refine_2 => (intro wx hSx; (try dsimp only at hSx); go_simp; first | done | with_reducible rfl)
      ((try simp only [Act.put]); (try simp only [List.setIfInBounds_toArray]); (try simp only [List.set_cons_succ]); (try simp only [List.set_cons_zero]))
      refine wpAnyH_take (i := 9) (oi := ⟨some 67, _, _, _, _, none⟩) (v := ?_) rfl (by kernel_rfl) (by kernel_rfl) (by kernel_rfl) (fun _ _ _ h => h) (Or.inl ⟨by rfl, ?_⟩) (by assumption) ?_
      case refine_2 => (intro wx hSx; (try dsimp only at hSx); go_simp; first | done | with_reducible rfl)
      ((try simp only [Act.put]); (try simp only [List.setIfInBounds_toArray]); (try simp only [List.set_cons_succ]); (try simp only [List.set_cons_zero]))
      refine wpAnyH_ready (rs := [6]) (by kernel_rfl) (by simp) ?_
      refine AllReadyH.cons (o := ⟨some 64, _, _, _, _, none⟩) rfl (fun Kx hK => ?_) AllReadyH.nil
      go_simp
      refine hK.out _ _ (row3 HD.out.2.1) (fun hHeld2 => ?_)
      clear hK Kx hHeld
      ((try simp only [Act.put]); (try simp only [List.setIfInBounds_toArray]); (try simp only [List.set_cons_succ]); (try simp only [List.set_cons_zero]))
      have hHeld := hHeld2
      clear hHeld2
      refine wpAnyH_take (i := 7) (oi := ⟨some 65, _, _, _, _, none⟩) (v := ?_) rfl (by kernel_rfl) (by kernel_rfl) (by kernel_rfl) (fun _ _ _ h => h) (Or.inl ⟨by rfl, ?_⟩) (by assumption) ?_
      case refine_2 => (intro wx hSx; (try dsimp only at hSx); go_simp; first | done | with_reducible rfl)
      ((try simp only [Act.put]); (try simp only [List.setIfInBounds_toArray]); (try simp only [List.set_cons_succ]); (try simp only [List.set_cons_zero]))
      refine wpAnyH_ready (rs := [8]) (by kernel_rfl) (by simp) ?_
      refine AllReadyH.cons (o := ⟨some 66, _, _, _, _, none⟩) rfl (fun Kx hK => ?_) AllReadyH.nil
      go_simp
      rw [IntWalk.i64_in (100 * (C.length : Int)) (by omega), IntWalk.i64_in (20000 + 100 * (C.length : Int)) (by omega), IntWalk.i64_in ((y : Int) + 1) (by omega), HM.out.1, IntWalk.i64_in (20000 + 100 * (C.length : Int) + (M : Int)) (by have := HM.out.2.2.1; omega)]
      have ha : Below w6.heap.size w6 (w6.alloc (.cells #[.int .i64 (20000 + 100 * (C.length : Int) + (M : Int))] 3)) := (Below.refl _ _).alloc (Nat.le_refl _) _
      have HA := Lib.hid (HD.out.under ha)
      have HO := Lib.hid (World.ownsRow_lit (e := 3) (base := w6.heap.size) (size := 1) w6 #[.int .i64 (20000 + 100 * (C.length : Int) + (M : Int))] 1 (Nat.le_refl _) (by decide) rfl)
      refine hK.out _ _ (row3 HA.out.2.1) (fun hHeld2 => ?_)
      clear hK Kx hHeld
      ((try simp only [Act.put]); (try simp only [List.setIfInBounds_toArray]); (try simp only [List.set_cons_succ]); (try simp only [List.set_cons_zero]))
      refine wpAnyH_ready (rs := [10]) (by kernel_rfl) (by simp) ?_
      refine AllReadyH.cons (o := ⟨some 68, _, _, _, _, none⟩) rfl (fun Kx hK => ?_) AllReadyH.nil
      refine step_append_ints rfl (.tmp 66) (.tmp 67) rfl w6.heap.size _ 1 _ rfl HO.out Ac C.length cc C rfl HA.out.2.2.2 (by omega) ha.size ?_
      intro vn w' ho' hg'
      have hb' : Below w6.heap.size w6 w' := below_grown ha hg' (Nat.le_refl _) ha.size
      have HB := Lib.hid (HD.out.under hb')
      have HN := Lib.hid (NmIn.own (C := (20000 + 100 * (C.length : Int) + (M : Int)) :: C) (HCI.out _ (by have := HM.out.2.2.1; omega) (by have := HM.out.2.2.1; omega)) (by simpa [Nat.add_comm] using ho') : NmIn w' vn ((20000 + 100 * (C.length : Int) + (M : Int)) :: C))
      clear ho' hg' hb' ha HA HO HD hHeld2
      refine hK.out _ _ (row3 HB.out.2.1) (fun hHeld => ?_)
      clear hK Kx
      ((try simp only [Act.put]); (try simp only [List.setIfInBounds_toArray]); (try simp only [List.set_cons_succ]); (try simp only [List.set_cons_zero]))
      refine wpAnyH_ready (rs := [11]) (by kernel_rfl) (by simp) ?_
      refine AllReadyH.cons (o := ⟨some 69, _, _, _, _, none⟩) rfl (fun Kx hK => ?_) AllReadyH.nil
      go_simp
      refine (expand_any (.agg #[.int .i64 1, .slice A es.length cap, .slice Bq ss.length cbp]) vn 1 es ss ((20000 + 100 * (C.length : Int) + (M : Int)) :: C) w' HB.out.2.2.1 HN.out (HT.out.under HB.out.1)).mono ?_
      rintro e w7 ⟨x8, L8, a8, ha, rfl, hl, hb⟩
      have HAns : Hid (Ans 1 es ss ((20000 + 100 * (C.length : Int) + (M : Int)) :: C) x8 L8) := Lib.hid ha
      have HC := Lib.hid (HB.out.under hb)
      have HEx8 := Lib.hid hl
      clear hl hb HB HN hHeld ha
      go_simp
      refine hK.out _ _ (row3 HC.out.2.1) (fun hHeld => ?_)
      clear hK Kx
      ((try simp only [Act.put]); (try simp only [List.setIfInBounds_toArray]); (try simp only [List.set_cons_succ]); (try simp only [List.set_cons_zero]))
      refine wpAnyH_take (i := 12) (oi := ⟨some 57, _, _, _, _, none⟩) (v := ?_) rfl (by kernel_rfl) (by kernel_rfl) (by kernel_rfl) (fun _ _ _ h => h) (Or.inl ⟨by rfl, ?_⟩) (by assumption) ?_
      case refine_2 => (intro wx hSx; (try dsimp only at hSx); go_simp; first | done | with_reducible rfl)
      ((try simp only [Act.put]); (try simp only [List.setIfInBounds_toArray]); (try simp only [List.set_cons_succ]); (try simp only [List.set_cons_zero]))
      refine wpAnyH_take (i := 13) (oi := ⟨some 70, _, _, _, _, none⟩) (v := ?_) rfl (by kernel_rfl) (by kernel_rfl) (by kernel_rfl) (fun _ _ _ h => h) (Or.inl ⟨by rfl, ?_⟩) (by assumption) ?_
      case refine_2 => (intro wx hSx; (try dsimp only at hSx); go_simp; first | done | with_reducible rfl)
      ((try simp only [Act.put]); (try simp only [List.setIfInBounds_toArray]); (try simp only [List.set_cons_succ]); (try simp only [List.set_cons_zero]))
      refine wpAnyH_take (i := 14) (oi := ⟨some 71, _, _, _, _, none⟩) (v := ?_) rfl (by kernel_rfl) (by kernel_rfl) (by kernel_rfl) (fun _ _ _ h => h) (Or.inl ⟨by rfl, ?_⟩) (by assumption) ?_
      case refine_2 => (intro wx hSx; (try dsimp only at hSx); go_simp; first | done | with_reducible rfl)
      ((try simp only [Act.put]); (try simp only [List.setIfInBounds_toArray]); (try simp only [List.set_cons_succ]); (try simp only [List.set_cons_zero]))
      refine wpAnyH_take (i := 15) (oi := ⟨some 11, _, _, _, _, none⟩) (v := ?_) rfl (by kernel_rfl) (by kernel_rfl) (by kernel_rfl) (fun _ _ _ h => h) (Or.inl ⟨by rfl, ?_⟩) (by assumption) ?_
      case refine_2 => (intro wx hSx; (try dsimp only at hSx); go_simp; first | done | with_reducible rfl)
      ((try simp only [Act.put]); (try simp only [List.setIfInBounds_toArray]); (try simp only [List.set_cons_succ]); (try simp only [List.set_cons_zero]))
      refine wpAnyH_take (i := 16) (oi := ⟨some 12, _, _, _, _, none⟩) (v := ?_) rfl (by kernel_rfl) (by kernel_rfl) (by kernel_rfl) (fun _ _ _ h => h) (Or.inl ⟨by rfl, ?_⟩) (by assumption) ?_
      case refine_2 => (intro wx hSx; (try dsimp only at hSx); go_simp; first | done | with_reducible rfl)
      ((try simp only [Act.put]); (try simp only [List.setIfInBounds_toArray]); (try simp only [List.set_cons_succ]); (try simp only [List.set_cons_zero]))
      refine wpAnyH_done (by kernel_rfl) ?_ _
      clear hHeld
      obtain ⟨A9, c9, ea, -⟩ := HEx9.out
      subst ea
      obtain ⟨A8, c8, ea8, -⟩ := HEx8.out
      subst ea8
      have hln : L9.length = y * C.length := HL9.out
      obtain ⟨N, hN⟩ : ∃ N, y * C.length = N := ⟨_, rfl⟩
      have xm : (C.length : Int) * (y : Int) = (N : Int) := by rw [← hN, Int.mul_comm]; rfl
      have hln2 : (L9.length : Int) = (N : Int) := by omega
      have hln3 : ((L9.length : Int) == (N : Int)) = true := by simpa using hln2
      rw [hN] at d3
      by_cases c1 : (y : Int) + 1 < 20
      · have hM2 : M = y + 1 := HM.out.2.2.2.1 (by omega)
        subst hM2
        obtain ⟨rfl, rfl⟩ := HAns.out.one (.inr (.inr ⟨good_iff.2 HG.out, by simp only [List.length_cons]; omega, .inl ⟨by decide, lim_no (x := C.length) rfl (by omega) (by omega) (by omega) (by omega) d4 HCf.out, rfl⟩⟩))
        obtain ⟨N2, hN2⟩ : ∃ N2, (y + 1) * C.length = N2 := ⟨_, rfl⟩
        have xm2 : (C.length : Int) * ((y : Int) + 1) = (N2 : Int) := by rw [← hN2, Int.mul_comm]; rfl
        rw [hN2] at d4
        have d6 : (60 : Int) < (N2 : Int) := by omega
        have d7 : N2 ≤ N + 19 := by rw [← hN2, ← hN, Nat.succ_mul]; omega
        go_upto_region 19 with fail
        have hem := em_in w7
        refine forget (fun Y => Hid (TbIn Y (.agg #[.int .i64 1, .slice none 0 0, .slice (some ⟨w7.heap.size + 1 + 1 + 1, 0, none⟩) 4 4]) 1 [] ems ∧ Row Y (w7.heap.size + 1 + 1 + 1 + 1) 25 #[.int .i64 1, .slice none 0 0, .slice (some ⟨w7.heap.size + 1 + 1 + 1, 0, none⟩) 4 4] ∧ Below W.heap.size W Y)) (Lib.hid ⟨hem.1, hem.2.1, HC.out.1.trans (hem.2.2.mono HC.out.1.size)⟩) ?_
        clear hem HC HAns
        generalize w7.heap.size + 1 + 1 + 1 + 1 = gm
        generalize w7.heap.size + 1 + 1 + 1 = gs
        intro w8 J8
        have rc := Row.new w8 (([10000] : List Int).map (Value.int .i64)).toArray 3
        have hb := (Below.refl w8.heap.size w8).alloc (Nat.le_refl _) (.cells (([10000] : List Int).map (Value.int .i64)).toArray 3)
        have HX := Lib.hid (expand_any _ _ 1 [] ems [10000] _ (J8.out.1.under hb) (NmIn.row (C := [10000]) rc (fun x hx => by simp at hx; rw [hx]; exact i64_small (by decide) (by decide)) (by decide)) (HT.out.under (J8.out.2.2.trans (hb.mono J8.out.2.2.size))))
        have HB := Lib.hid (J8.out.2.2.trans (hb.mono J8.out.2.2.size))
        have HR := Lib.hid (J8.out.2.1.under hb)
        have HTb := Lib.hid (J8.out.1.under hb)
        obtain ⟨q0, q1, q2⟩ := row3 J8.out.2.1
        clear rc hb
        go_wp2_with fail
        refine HX.out.mono ?_
        rintro e w9 ⟨x, L, a3, ha, rfl, hl3, hb⟩
        obtain ⟨rfl, rfl⟩ := ha.one em_a
        have Jw9 := Lib.hid (⟨HTb.out.under hb, HR.out.under hb, HB.out.trans (hb.mono HB.out.size)⟩ : TbIn w9 (.agg #[.int .i64 1, .slice none 0 0, .slice (some ⟨gs, 0, none⟩) 4 4]) 1 [] ems ∧ Row w9 gm 25 #[.int .i64 1, .slice none 0 0, .slice (some ⟨gs, 0, none⟩) 4 4] ∧ Below W.heap.size W w9)
        obtain ⟨P1A, P1c, P1e, -⟩ := hl3
        subst P1e
        clear hb ha HX HB HR HTb J8 q0 q1 q2
        go_upto_region 20 with fail
        have rc := Row.new w9 (([10002] : List Int).map (Value.int .i64)).toArray 3
        have hb := (Below.refl w9.heap.size w9).alloc (Nat.le_refl _) (.cells (([10002] : List Int).map (Value.int .i64)).toArray 3)
        have HX := Lib.hid (expand_any _ _ 1 [] ems [10002] _ (Jw9.out.1.under hb) (NmIn.row (C := [10002]) rc (fun x hx => by simp at hx; rw [hx]; exact i64_small (by decide) (by decide)) (by decide)) (HT.out.under (Jw9.out.2.2.trans (hb.mono Jw9.out.2.2.size))))
        have HB := Lib.hid (Jw9.out.2.2.trans (hb.mono Jw9.out.2.2.size))
        have HR := Lib.hid (Jw9.out.2.1.under hb)
        have HTb := Lib.hid (Jw9.out.1.under hb)
        obtain ⟨q0, q1, q2⟩ := row3 Jw9.out.2.1
        clear rc hb
        go_wp2_with fail
        refine HX.out.mono ?_
        rintro e w10 ⟨x, L, a3, ha, rfl, hl3, hb⟩
        obtain ⟨rfl, rfl⟩ := ha.one em_b
        have Jw10 := Lib.hid (⟨HTb.out.under hb, HR.out.under hb, HB.out.trans (hb.mono HB.out.size)⟩ : TbIn w10 (.agg #[.int .i64 1, .slice none 0 0, .slice (some ⟨gs, 0, none⟩) 4 4]) 1 [] ems ∧ Row w10 gm 25 #[.int .i64 1, .slice none 0 0, .slice (some ⟨gs, 0, none⟩) 4 4] ∧ Below W.heap.size W w10)
        obtain ⟨P2A, P2c, P2e, -⟩ := hl3
        subst P2e
        clear hb ha HX HB HR HTb Jw9 q0 q1 q2
        go_wp2_with fail
        refine (awake_from (w0 := W) w10 (HT.out.under Jw10.out.2.2) Jw10.out.2.2).mono ?_
        rintro e w11 ⟨rfl, hb⟩
        have HF := Lib.hid hb
        clear hb
        go_wp2_with fail
        go_ret
        exact ⟨rfl, HF.out⟩
      · have hM2 : M = 20 := HM.out.2.2.2.2 (by omega)
        subst hM2
        by_cases c2 : y = 19
        · exfalso; subst c2; omega
        · have c3 : y = 20 := by omega
          subst c3
          have d7 : C.length = 3 := d5 rfl
          have d6 : ¬ (60 : Int) < (C.length : Int) * 20 := by omega
          go_upto_region 19 with fail
          have hem := em_in w7
          refine forget (fun Y => Hid (TbIn Y (.agg #[.int .i64 1, .slice none 0 0, .slice (some ⟨w7.heap.size + 1 + 1 + 1, 0, none⟩) 4 4]) 1 [] ems ∧ Row Y (w7.heap.size + 1 + 1 + 1 + 1) 25 #[.int .i64 1, .slice none 0 0, .slice (some ⟨w7.heap.size + 1 + 1 + 1, 0, none⟩) 4 4] ∧ Below W.heap.size W Y)) (Lib.hid ⟨hem.1, hem.2.1, HC.out.1.trans (hem.2.2.mono HC.out.1.size)⟩) ?_
          clear hem HC HAns
          generalize w7.heap.size + 1 + 1 + 1 + 1 = gm
          generalize w7.heap.size + 1 + 1 + 1 = gs
          intro w8 J8
          have rc := Row.new w8 (([10000] : List Int).map (Value.int .i64)).toArray 3
          have hb := (Below.refl w8.heap.size w8).alloc (Nat.le_refl _) (.cells (([10000] : List Int).map (Value.int .i64)).toArray 3)
          have HX := Lib.hid (expand_any _ _ 1 [] ems [10000] _ (J8.out.1.under hb) (NmIn.row (C := [10000]) rc (fun x hx => by simp at hx; rw [hx]; exact i64_small (by decide) (by decide)) (by decide)) (HT.out.under (J8.out.2.2.trans (hb.mono J8.out.2.2.size))))
          have HB := Lib.hid (J8.out.2.2.trans (hb.mono J8.out.2.2.size))
          have HR := Lib.hid (J8.out.2.1.under hb)
          have HTb := Lib.hid (J8.out.1.under hb)
          obtain ⟨q0, q1, q2⟩ := row3 J8.out.2.1
          clear rc hb
          go_wp2_with fail
          refine HX.out.mono ?_
          rintro e w9 ⟨x, L, a3, ha, rfl, hl3, hb⟩
          obtain ⟨rfl, rfl⟩ := ha.one em_a
          have Jw9 := Lib.hid (⟨HTb.out.under hb, HR.out.under hb, HB.out.trans (hb.mono HB.out.size)⟩ : TbIn w9 (.agg #[.int .i64 1, .slice none 0 0, .slice (some ⟨gs, 0, none⟩) 4 4]) 1 [] ems ∧ Row w9 gm 25 #[.int .i64 1, .slice none 0 0, .slice (some ⟨gs, 0, none⟩) 4 4] ∧ Below W.heap.size W w9)
          obtain ⟨P1A, P1c, P1e, -⟩ := hl3
          subst P1e
          clear hb ha HX HB HR HTb J8 q0 q1 q2
          go_upto_region 20 with fail
          have rc := Row.new w9 (([10002] : List Int).map (Value.int .i64)).toArray 3
          have hb := (Below.refl w9.heap.size w9).alloc (Nat.le_refl _) (.cells (([10002] : List Int).map (Value.int .i64)).toArray 3)
          have HX := Lib.hid (expand_any _ _ 1 [] ems [10002] _ (Jw9.out.1.under hb) (NmIn.row (C := [10002]) rc (fun x hx => by simp at hx; rw [hx]; exact i64_small (by decide) (by decide)) (by decide)) (HT.out.under (Jw9.out.2.2.trans (hb.mono Jw9.out.2.2.size))))
          have HB := Lib.hid (Jw9.out.2.2.trans (hb.mono Jw9.out.2.2.size))
          have HR := Lib.hid (Jw9.out.2.1.under hb)
          have HTb := Lib.hid (Jw9.out.1.under hb)
          obtain ⟨q0, q1, q2⟩ := row3 Jw9.out.2.1
          clear rc hb
          go_wp2_with fail
          refine HX.out.mono ?_
          rintro e w10 ⟨x, L, a3, ha, rfl, hl3, hb⟩
          obtain ⟨rfl, rfl⟩ := ha.one em_b
          have Jw10 := Lib.hid (⟨HTb.out.under hb, HR.out.under hb, HB.out.trans (hb.mono HB.out.size)⟩ : TbIn w10 (.agg #[.int .i64 1, .slice none 0 0, .slice (some ⟨gs, 0, none⟩) 4 4]) 1 [] ems ∧ Row w10 gm 25 #[.int .i64 1, .slice none 0 0, .slice (some ⟨gs, 0, none⟩) 4 4] ∧ Below W.heap.size W w10)
          obtain ⟨P2A, P2c, P2e, -⟩ := hl3
          subst P2e
          clear hb ha HX HB HR HTb Jw9 q0 q1 q2
          go_wp2_with fail
          refine (awake_from (w0 := W) w10 (HT.out.under Jw10.out.2.2) Jw10.out.2.2).mono ?_
          rintro e w11 ⟨rfl, hb⟩
          have HF := Lib.hid hb
          clear hb
          go_wp2_with fail
          go_ret
          exact ⟨rfl, HF.out⟩
end Go.Proofs.YtjaopjhfjijdaaaDoor
