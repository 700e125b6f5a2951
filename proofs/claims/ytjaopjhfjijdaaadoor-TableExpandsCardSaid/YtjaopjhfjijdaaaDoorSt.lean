/- The reference's SameTable at equal tables. -/
import Derived.Test.YtjaopjhfjijdaaaDoorCh
namespace Go.Proofs.YtjaopjhfjijdaaaDoor
open Go.RowKit

theorem SqIn.elem3 {w : World} {A : Option Addr} {n cap : Nat} {ss : List Sq} (h : SqIn w (.slice A n cap) ss) {i : Nat} (hi : i < ss.length) : ∃ g off B c, A = some ⟨g, off, none⟩ ∧ (∀ Y, Below w.heap.size w Y → Y.cell? ⟨g, off + i * 2, none⟩ = some (.int .i64 (ss[i]).1) ∧ Y.cell? ⟨g, off + i * 2 + 1, none⟩ = some (.slice B (ss[i]).2.length c)) ∧ NmIn w (.slice B (ss[i]).2.length c) (ss[i]).2 := by
  obtain ⟨A', c, e, -, -, h4⟩ := h
  injection e with e
  subst e
  obtain ⟨g, off, u, a, b, c, d, e, f⟩ := h4 i hi
  obtain ⟨B, cc, eu, -⟩ := id e
  subst eu
  exact ⟨g, off, B, cc, a, fun Y hb => ⟨(hb.cell (p := ⟨g, off + i * 2, none⟩) b).trans c, (hb.cell (p := ⟨g, off + i * 2 + 1, none⟩) b).trans d⟩, e⟩
set_option maxRecDepth 100000 in
set_option maxHeartbeats 4000000 in
theorem sameTable_yes (t u : Value) (v : Int) (es : List En) (ss : List Sq) (w : World) (hT : TbIn w t v es ss) (hU : TbIn w u v es ss) (hss : ss.length ≤ 1000) (hcs : ∀ s ∈ ss, s.2.length ≤ 1000) :
    Calls Tryd.prog 22 #[t, u] w fun e w' => e = .returned (.bool true) ∧ Below w.heap.size w w' := by
  obtain ⟨a, b, rfl, hE, hS⟩ := hT
  obtain ⟨a2, b2, rfl, hE2, hS2⟩ := hU
  have HE := Lib.hid hE
  have HS := Lib.hid hS
  have HE2 := Lib.hid hE2
  have HS2 := Lib.hid hS2
  have HCS := Lib.hid hcs
  clear hcs
  obtain ⟨A, cap, rfl, -, -, -⟩ := hE
  obtain ⟨B, cbp, rfl, -, -, -⟩ := hS
  obtain ⟨A2, cap2, rfl, -, -, -⟩ := hE2
  obtain ⟨B2, cbp2, rfl, -, -, -⟩ := hS2
  have h1 : Below w.heap.size w (w.alloc (.cells #[.int .i64 v, .slice A es.length cap, .slice B ss.length cbp] 25)) := (Below.refl _ _).alloc (Nat.le_refl _) _
  have HJ : Hid ((Row ((w.alloc (.cells #[.int .i64 v, .slice A es.length cap, .slice B ss.length cbp] 25)).alloc (.cells #[.int .i64 v, .slice A2 es.length cap2, .slice B2 ss.length cbp2] 25)) w.heap.size 25 #[.int .i64 v, .slice A es.length cap, .slice B ss.length cbp] ∧ Row ((w.alloc (.cells #[.int .i64 v, .slice A es.length cap, .slice B ss.length cbp] 25)).alloc (.cells #[.int .i64 v, .slice A2 es.length cap2, .slice B2 ss.length cbp2] 25)) (w.heap.size + 1) 25 #[.int .i64 v, .slice A2 es.length cap2, .slice B2 ss.length cbp2] ∧ Below w.heap.size w ((w.alloc (.cells #[.int .i64 v, .slice A es.length cap, .slice B ss.length cbp] 25)).alloc (.cells #[.int .i64 v, .slice A2 es.length cap2, .slice B2 ss.length cbp2] 25)))) := Lib.hid ⟨(Row.new _ _ _).alloc _, Row.newAt (by simp), alloc_below h1 h1.size _⟩
  clear h1
  go_enter Tryd.func22, Tryd.ntmps22
  go_upto_region 1 with fail
  refine forget (fun Y => Hid ((Row Y w.heap.size 25 #[.int .i64 v, .slice A es.length cap, .slice B ss.length cbp] ∧ Row Y (w.heap.size + 1) 25 #[.int .i64 v, .slice A2 es.length cap2, .slice B2 ss.length cbp2] ∧ Below w.heap.size w Y))) HJ ?_
  clear HJ
  intro Y0 HJ
  obtain ⟨q0, q1, q2⟩ := row3 HJ.out.1
  obtain ⟨p0, p1, p2⟩ := row3 HJ.out.2.1
  have HSE := same_any _ _ es es Y0 (HE.out.under HJ.out.2.2) (HE2.out.under HJ.out.2.2)
  rw [decide_eq_true rfl] at HSE
  have HSE := Lib.hid HSE
  go_wp2_with fail
  refine HSE.out.mono ?_
  clear HSE
  rintro e w1 ⟨rfl, hb⟩
  have J1 : Hid ((Row w1 w.heap.size 25 #[.int .i64 v, .slice A es.length cap, .slice B ss.length cbp] ∧ Row w1 (w.heap.size + 1) 25 #[.int .i64 v, .slice A2 es.length cap2, .slice B2 ss.length cbp2] ∧ Below w.heap.size w w1)) := Lib.hid ⟨HJ.out.1.under hb, HJ.out.2.1.under hb, HJ.out.2.2.trans (hb.mono HJ.out.2.2.size)⟩
  clear hb HJ q0 q1 q2 p0 p1 p2
  obtain ⟨q0, q1, q2⟩ := row3 J1.out.1
  obtain ⟨p0, p1, p2⟩ := row3 J1.out.2.1
  go_wp2_with fail
  clear q0 q1 q2 p0 p1 p2
  go_loopw [5] (fun t Y => ∃ k : Nat, k ≤ ss.length ∧ t = .int .i64 k ∧ Hid ((Row Y w.heap.size 25 #[.int .i64 v, .slice A es.length cap, .slice B ss.length cbp] ∧ Row Y (w.heap.size + 1) 25 #[.int .i64 v, .slice A2 es.length cap2, .slice B2 ss.length cbp2] ∧ Below w.heap.size w Y))) (fun t _ => ss.length - (intOf t).toNat)
  case atStart => exact ⟨0, Nat.zero_le _, rfl, J1⟩
  case round =>
    clear J1
    obtain ⟨k, hk, rfl, M⟩ := hrel
    obtain ⟨q0, q1, q2⟩ := row3 M.out.1
    obtain ⟨p0, p1, p2⟩ := row3 M.out.2.1
    by_cases hlt : k < ss.length
    · have k0 : (0 : Int) ≤ (k : Int) := by omega
      have k1 : (k : Int) < (ss.length : Int) := by omega
      obtain ⟨g, off, Bc, cc, rfl, hc, hnm⟩ := HS.out.elem3 hlt
      obtain ⟨g2, off2, Bd, cd, rfl, hd, hnm2⟩ := HS2.out.elem3 hlt
      obtain ⟨c0, c1⟩ := hc _ M.out.2.2
      obtain ⟨d0, d1⟩ := hd _ M.out.2.2
      have hlb := HCS.out _ (List.getElem_mem hlt)
      have HCe0 : ∀ Y, Below w.heap.size w Y → (Y.cell? ⟨g, off + k * 2, none⟩ = some (.int .i64 (ss[k]).1) ∧ Y.cell? ⟨g, off + k * 2 + 1, none⟩ = some (.slice Bc (ss[k]).2.length cc)) ∧ Y.cell? ⟨g2, off2 + k * 2, none⟩ = some (.int .i64 (ss[k]).1) ∧ Y.cell? ⟨g2, off2 + k * 2 + 1, none⟩ = some (.slice Bd (ss[k]).2.length cd) := fun Y hY => ⟨hc Y hY, hd Y hY⟩
      clear hc hd
      obtain ⟨sc, hsc⟩ : ∃ x, (ss[k]).1 = x := ⟨_, rfl⟩
      obtain ⟨sb, hsb⟩ : ∃ x, (ss[k]).2 = x := ⟨_, rfl⟩
      rw [hsc, hsb] at HCe0
      rw [hsc] at c0 d0
      rw [hsb] at c1 d1 hnm hnm2 hlb
      have HCe := Lib.hid HCe0
      have HN1 := Lib.hid hnm
      have HN2 := Lib.hid hnm2
      clear HCe0 hsc hsb hnm hnm2
      have x9 : IntKind.i64.wrap (k : Int) = (k : Int) := IntWalk.i64_in _ (by omega)
      go_upto_region 6 with fail
      go_cut [6, 7] from 31 to 79 (fun p q wc => ∃ ga gb : Nat, p = .pointer (some ⟨ga, 0, none⟩) ∧ q = .pointer (some ⟨gb, 0, none⟩) ∧ Hid ((Row wc w.heap.size 25 #[.int .i64 v, .slice A es.length cap, .slice (some ⟨g, off, none⟩) ss.length cbp] ∧ Row wc (w.heap.size + 1) 25 #[.int .i64 v, .slice A2 es.length cap2, .slice (some ⟨g2, off2, none⟩) ss.length cbp2] ∧ Below w.heap.size w wc) ∧ Row wc ga 58 #[.int .i64 sc, .slice Bc sb.length cc] ∧ Row wc gb 58 #[.int .i64 sc, .slice Bd sb.length cd]))
      case first =>
        refine wp_region_held_drew (S := fun Y : World => Y.cell? ⟨w.heap.size, 2, none⟩ = some (.slice (some ⟨g, off, none⟩) ss.length cbp) ∧ Y.cell? ⟨w.heap.size + 1, 2, none⟩ = some (.slice (some ⟨g2, off2, none⟩) ss.length cbp2) ∧ (Y.cell? ⟨g, off + k * 2, none⟩ = some (.int .i64 sc) ∧ Y.cell? ⟨g, off + k * 2 + 1, none⟩ = some (.slice Bc sb.length cc)) ∧ Y.cell? ⟨g2, off2 + k * 2, none⟩ = some (.int .i64 sc) ∧ Y.cell? ⟨g2, off2 + k * 2 + 1, none⟩ = some (.slice Bd sb.length cd)) (by kernel_rfl) ⟨q2, p2, ⟨c0, c1⟩, d0, d1⟩ (fun hHeld => ?_)
        clear q0 q1 q2 p0 p1 p2 c0 c1 d0 d1
        refine wpAnyH_take (i := 0) (oi := ⟨some 38, _, _, _, _, none⟩) (v := ?_) rfl (by kernel_rfl) (by kernel_rfl) (by kernel_rfl) (fun _ _ _ h => h) (Or.inl ⟨by rfl, ?_⟩) (by assumption) ?_
        case refine_2 => (intro wx hSx; (try dsimp only at hSx); go_simp; first | done | with_reducible rfl)
        ((try simp only [Act.put]); (try simp only [List.setIfInBounds_toArray]); (try simp only [List.set_cons_succ]); (try simp only [List.set_cons_zero]))
        refine wpAnyH_take (i := 1) (oi := ⟨some 39, _, _, _, _, none⟩) (v := ?_) rfl (by kernel_rfl) (by kernel_rfl) (by kernel_rfl) (fun _ _ _ h => h) (Or.inl ⟨by rfl, ?_⟩) (by assumption) ?_
        case refine_2 => (intro wx hSx; (try dsimp only at hSx); go_simp; first | done | with_reducible rfl)
        ((try simp only [Act.put]); (try simp only [List.setIfInBounds_toArray]); (try simp only [List.set_cons_succ]); (try simp only [List.set_cons_zero]))
        refine wpAnyH_take (i := 2) (oi := ⟨some 40, _, _, _, _, none⟩) (v := ?_) rfl (by kernel_rfl) (by kernel_rfl) (by kernel_rfl) (fun _ _ _ h => h) (Or.inl ⟨by rfl, ?_⟩) (by assumption) ?_
        case refine_2 => (intro wx hSx; (try dsimp only at hSx); go_simp; first | done | with_reducible rfl)
        ((try simp only [Act.put]); (try simp only [List.setIfInBounds_toArray]); (try simp only [List.set_cons_succ]); (try simp only [List.set_cons_zero]))
        refine wpAnyH_take (i := 3) (oi := ⟨some 41, _, _, _, _, none⟩) (v := ?_) rfl (by kernel_rfl) (by kernel_rfl) (by kernel_rfl) (fun _ _ _ h => h) (Or.inl ⟨by rfl, ?_⟩) (by assumption) ?_
        case refine_2 => (intro wx hSx; (try dsimp only at hSx); go_simp; first | done | with_reducible rfl)
        ((try simp only [Act.put]); (try simp only [List.setIfInBounds_toArray]); (try simp only [List.set_cons_succ]); (try simp only [List.set_cons_zero]))
        refine wpAnyH_take (i := 4) (oi := ⟨some 42, _, _, _, _, none⟩) (v := ?_) rfl (by kernel_rfl) (by kernel_rfl) (by kernel_rfl) (fun _ _ _ h => h) (Or.inl ⟨by rfl, ?_⟩) (by assumption) ?_
        case refine_2 => (intro wx hSx; (try dsimp only at hSx); go_simp; first | done | with_reducible rfl)
        ((try simp only [Act.put]); (try simp only [List.setIfInBounds_toArray]); (try simp only [List.set_cons_succ]); (try simp only [List.set_cons_zero]))
        refine wpAnyH_take (i := 5) (oi := ⟨some 43, _, _, _, _, none⟩) (v := ?_) rfl (by kernel_rfl) (by kernel_rfl) (by kernel_rfl) (fun _ _ _ h => h) (Or.inl ⟨by rfl, ?_⟩) (by assumption) ?_
        case refine_2 => (intro wx hSx; (try dsimp only at hSx); go_simp; first | done | with_reducible rfl)
        ((try simp only [Act.put]); (try simp only [List.setIfInBounds_toArray]); (try simp only [List.set_cons_succ]); (try simp only [List.set_cons_zero]))
        refine wpAnyH_take (i := 6) (oi := ⟨some 44, _, _, _, _, none⟩) (v := ?_) rfl (by kernel_rfl) (by kernel_rfl) (by kernel_rfl) (fun _ _ _ h => h) (Or.inl ⟨by rfl, ?_⟩) (by assumption) ?_
        case refine_2 => (intro wx hSx; (try dsimp only at hSx); go_simp; first | done | with_reducible rfl)
        ((try simp only [Act.put]); (try simp only [List.setIfInBounds_toArray]); (try simp only [List.set_cons_succ]); (try simp only [List.set_cons_zero]))
        refine wpAnyH_take (i := 7) (oi := ⟨some 45, _, _, _, _, none⟩) (v := ?_) rfl (by kernel_rfl) (by kernel_rfl) (by kernel_rfl) (fun _ _ _ h => h) (Or.inl ⟨by rfl, ?_⟩) (by assumption) ?_
        case refine_2 => (intro wx hSx; (try dsimp only at hSx); go_simp; first | done | with_reducible rfl)
        ((try simp only [Act.put]); (try simp only [List.setIfInBounds_toArray]); (try simp only [List.set_cons_succ]); (try simp only [List.set_cons_zero]))
        refine wpAnyH_take (i := 8) (oi := ⟨some 46, _, _, _, _, none⟩) (v := ?_) rfl (by kernel_rfl) (by kernel_rfl) (by kernel_rfl) (fun _ _ _ h => h) (Or.inl ⟨by rfl, ?_⟩) (by assumption) ?_
        case refine_2 => (intro wx hSx; (try dsimp only at hSx); go_simp; first | done | with_reducible rfl)
        ((try simp only [Act.put]); (try simp only [List.setIfInBounds_toArray]); (try simp only [List.set_cons_succ]); (try simp only [List.set_cons_zero]))
        refine wpAnyH_take (i := 9) (oi := ⟨some 47, _, _, _, _, none⟩) (v := ?_) rfl (by kernel_rfl) (by kernel_rfl) (by kernel_rfl) (fun _ _ _ h => h) (Or.inl ⟨by rfl, ?_⟩) (by assumption) ?_
        case refine_2 => (intro wx hSx; (try dsimp only at hSx); go_simp; first | done | with_reducible rfl)
        ((try simp only [Act.put]); (try simp only [List.setIfInBounds_toArray]); (try simp only [List.set_cons_succ]); (try simp only [List.set_cons_zero]))
        have hd : Below wr.heap.size wr wr.drew := below_drewN (Below.refl _ _) 1
        have HD : Hid ((Row wr.drew w.heap.size 25 #[.int .i64 v, .slice A es.length cap, .slice (some ⟨g, off, none⟩) ss.length cbp] ∧ Row wr.drew (w.heap.size + 1) 25 #[.int .i64 v, .slice A2 es.length cap2, .slice (some ⟨g2, off2, none⟩) ss.length cbp2] ∧ Below w.heap.size w wr.drew)) := Lib.hid ⟨M.out.1.under hd, M.out.2.1.under hd, M.out.2.2.trans (hd.mono M.out.2.2.size)⟩
        clear M hd x9
        generalize wr.drew = X at HD hHeld ⊢
        refine wpAnyH_ready (rs := [10, 11]) (by kernel_rfl) (by simp) ?_
        refine AllReadyH.cons (o := ⟨some 6, _, _, _, _, none⟩) rfl (fun Kx hK => ?_) (AllReadyH.cons (o := ⟨some 7, _, _, _, _, none⟩) rfl (fun Kx hK => ?_) (AllReadyH.nil))
        · go_simp
          have ha : Below X.heap.size X (X.alloc (.cells #[.int .i64 0, .slice none 0 0] 58)) := (Below.refl _ _).alloc (Nat.le_refl _) _
          have H1 : Hid ((Row (X.alloc (.cells #[.int .i64 0, .slice none 0 0] 58)) w.heap.size 25 #[.int .i64 v, .slice A es.length cap, .slice (some ⟨g, off, none⟩) ss.length cbp] ∧ Row (X.alloc (.cells #[.int .i64 0, .slice none 0 0] 58)) (w.heap.size + 1) 25 #[.int .i64 v, .slice A2 es.length cap2, .slice (some ⟨g2, off2, none⟩) ss.length cbp2] ∧ Below w.heap.size w (X.alloc (.cells #[.int .i64 0, .slice none 0 0] 58))) ∧ Row (X.alloc (.cells #[.int .i64 0, .slice none 0 0] 58)) X.heap.size 58 #[.int .i64 0, .slice none 0 0] ∧ w.heap.size ≤ X.heap.size) := Lib.hid ⟨⟨HD.out.1.under ha, HD.out.2.1.under ha, HD.out.2.2.trans (ha.mono HD.out.2.2.size)⟩, Row.new _ _ _, HD.out.2.2.size⟩
          refine hK.out _ _ ⟨(row3 H1.out.1.1).2.2, (row3 H1.out.1.2.1).2.2, HCe.out _ H1.out.1.2.2⟩ (fun hHeld2 => ?_)
          clear hK Kx hHeld HD
          ((try simp only [Act.put]); (try simp only [List.setIfInBounds_toArray]); (try simp only [List.set_cons_succ]); (try simp only [List.set_cons_zero]))
          refine genH (fun V => Hid ((Row V w.heap.size 25 #[.int .i64 v, .slice A es.length cap, .slice (some ⟨g, off, none⟩) ss.length cbp] ∧ Row V (w.heap.size + 1) 25 #[.int .i64 v, .slice A2 es.length cap2, .slice (some ⟨g2, off2, none⟩) ss.length cbp2] ∧ Below w.heap.size w V) ∧ Row V X.heap.size 58 #[.int .i64 0, .slice none 0 0] ∧ w.heap.size ≤ X.heap.size)) H1 ?_
          clear H1 hHeld2 ha
          generalize X.heap.size = ga
          intro X1 H1
          refine wpAnyH_ready (rs := [11]) (by kernel_rfl) (by simp) ?_
          refine AllReadyH.cons (o := ⟨some 7, _, _, _, _, none⟩) rfl (fun Kx hK => ?_) (AllReadyH.nil)
          go_simp
          have ha : Below X1.heap.size X1 (X1.alloc (.cells #[.int .i64 0, .slice none 0 0] 58)) := (Below.refl _ _).alloc (Nat.le_refl _) _
          have H2 : Hid ((Row (X1.alloc (.cells #[.int .i64 0, .slice none 0 0] 58)) w.heap.size 25 #[.int .i64 v, .slice A es.length cap, .slice (some ⟨g, off, none⟩) ss.length cbp] ∧ Row (X1.alloc (.cells #[.int .i64 0, .slice none 0 0] 58)) (w.heap.size + 1) 25 #[.int .i64 v, .slice A2 es.length cap2, .slice (some ⟨g2, off2, none⟩) ss.length cbp2] ∧ Below w.heap.size w (X1.alloc (.cells #[.int .i64 0, .slice none 0 0] 58))) ∧ Row (X1.alloc (.cells #[.int .i64 0, .slice none 0 0] 58)) ga 58 #[.int .i64 0, .slice none 0 0] ∧ Row (X1.alloc (.cells #[.int .i64 0, .slice none 0 0] 58)) X1.heap.size 58 #[.int .i64 0, .slice none 0 0] ∧ w.heap.size ≤ ga ∧ w.heap.size ≤ X1.heap.size ∧ ga ≠ X1.heap.size) := Lib.hid ⟨⟨H1.out.1.1.under ha, H1.out.1.2.1.under ha, H1.out.1.2.2.trans (ha.mono H1.out.1.2.2.size)⟩, H1.out.2.1.under ha, Row.new _ _ _, H1.out.2.2, H1.out.1.2.2.size, (by have := H1.out.2.1.lt; omega)⟩
          refine hK.out _ _ ⟨(row3 H2.out.1.1).2.2, (row3 H2.out.1.2.1).2.2, HCe.out _ H2.out.1.2.2⟩ (fun hHeld2 => ?_)
          clear hK Kx H1
          ((try simp only [Act.put]); (try simp only [List.setIfInBounds_toArray]); (try simp only [List.set_cons_succ]); (try simp only [List.set_cons_zero]))
          refine genH (fun V => Hid ((Row V w.heap.size 25 #[.int .i64 v, .slice A es.length cap, .slice (some ⟨g, off, none⟩) ss.length cbp] ∧ Row V (w.heap.size + 1) 25 #[.int .i64 v, .slice A2 es.length cap2, .slice (some ⟨g2, off2, none⟩) ss.length cbp2] ∧ Below w.heap.size w V) ∧ Row V ga 58 #[.int .i64 0, .slice none 0 0] ∧ Row V X1.heap.size 58 #[.int .i64 0, .slice none 0 0] ∧ w.heap.size ≤ ga ∧ w.heap.size ≤ X1.heap.size ∧ ga ≠ X1.heap.size)) H2 ?_
          clear H2 hHeld2 ha
          generalize X1.heap.size = gb
          intro X2 H2
          refine wpAnyH_ready (rs := [12]) (by kernel_rfl) (by simp) ?_
          refine AllReadyH.cons (o := ⟨none, _, _, _, _, none⟩) rfl (fun Kx hK => ?_) (AllReadyH.nil)
          have f0 := H2.out.2.1.thaw 0
          have f1 := H2.out.2.1.thaw 1
          obtain ⟨q0, q1⟩ := row2 H2.out.2.1
          go_simp
          clear f0 f1 q0 q1
          have H3 : Hid ((Row ((X2.setCell ⟨ga, 0, none⟩ (.int .i64 sc)).setCell ⟨ga, 1, none⟩ (.slice Bc sb.length cc)) w.heap.size 25 #[.int .i64 v, .slice A es.length cap, .slice (some ⟨g, off, none⟩) ss.length cbp] ∧ Row ((X2.setCell ⟨ga, 0, none⟩ (.int .i64 sc)).setCell ⟨ga, 1, none⟩ (.slice Bc sb.length cc)) (w.heap.size + 1) 25 #[.int .i64 v, .slice A2 es.length cap2, .slice (some ⟨g2, off2, none⟩) ss.length cbp2] ∧ Below w.heap.size w ((X2.setCell ⟨ga, 0, none⟩ (.int .i64 sc)).setCell ⟨ga, 1, none⟩ (.slice Bc sb.length cc))) ∧ Row ((X2.setCell ⟨ga, 0, none⟩ (.int .i64 sc)).setCell ⟨ga, 1, none⟩ (.slice Bc sb.length cc)) ga 58 #[.int .i64 sc, .slice Bc sb.length cc] ∧ Row ((X2.setCell ⟨ga, 0, none⟩ (.int .i64 sc)).setCell ⟨ga, 1, none⟩ (.slice Bc sb.length cc)) gb 58 #[.int .i64 0, .slice none 0 0] ∧ w.heap.size ≤ gb ∧ ga ≠ gb) := Lib.hid (by
            have n1 := row_ne H2.out.2.1 H2.out.1.1 (by decide)
            have n2 := row_ne H2.out.2.1 H2.out.1.2.1 (by decide)
            exact ⟨⟨(H2.out.1.1.far (p := ⟨ga, 0, none⟩) n1 _).far (p := ⟨ga, 1, none⟩) n1 _, (H2.out.1.2.1.far (p := ⟨ga, 0, none⟩) n2 _).far (p := ⟨ga, 1, none⟩) n2 _, set2_below H2.out.1.2.2 H2.out.2.2.2.1⟩, set2_row _ _ H2.out.2.1, (H2.out.2.2.1.far (p := ⟨ga, 0, none⟩) H2.out.2.2.2.2.2 _).far (p := ⟨ga, 1, none⟩) H2.out.2.2.2.2.2 _, H2.out.2.2.2.2.1, H2.out.2.2.2.2.2⟩)
          refine hK.out _ _ ⟨(row3 H3.out.1.1).2.2, (row3 H3.out.1.2.1).2.2, HCe.out _ H3.out.1.2.2⟩ (fun hHeld2 => ?_)
          clear hK Kx hHeld2 H2
          ((try simp only [Act.put]); (try simp only [List.setIfInBounds_toArray]); (try simp only [List.set_cons_succ]); (try simp only [List.set_cons_zero]))
          generalize (X2.setCell ⟨ga, 0, none⟩ (.int .i64 sc)).setCell ⟨ga, 1, none⟩ (.slice Bc sb.length cc) = X3 at H3 ⊢
          refine wpAnyH_ready (rs := [13]) (by kernel_rfl) (by simp) ?_
          refine AllReadyH.cons (o := ⟨none, _, _, _, _, none⟩) rfl (fun Kx hK => ?_) (AllReadyH.nil)
          have f0 := H3.out.2.2.1.thaw 0
          have f1 := H3.out.2.2.1.thaw 1
          obtain ⟨q0, q1⟩ := row2 H3.out.2.2.1
          go_simp
          clear f0 f1 q0 q1
          have H4 : Hid ((Row ((X3.setCell ⟨gb, 0, none⟩ (.int .i64 sc)).setCell ⟨gb, 1, none⟩ (.slice Bd sb.length cd)) w.heap.size 25 #[.int .i64 v, .slice A es.length cap, .slice (some ⟨g, off, none⟩) ss.length cbp] ∧ Row ((X3.setCell ⟨gb, 0, none⟩ (.int .i64 sc)).setCell ⟨gb, 1, none⟩ (.slice Bd sb.length cd)) (w.heap.size + 1) 25 #[.int .i64 v, .slice A2 es.length cap2, .slice (some ⟨g2, off2, none⟩) ss.length cbp2] ∧ Below w.heap.size w ((X3.setCell ⟨gb, 0, none⟩ (.int .i64 sc)).setCell ⟨gb, 1, none⟩ (.slice Bd sb.length cd))) ∧ Row ((X3.setCell ⟨gb, 0, none⟩ (.int .i64 sc)).setCell ⟨gb, 1, none⟩ (.slice Bd sb.length cd)) ga 58 #[.int .i64 sc, .slice Bc sb.length cc] ∧ Row ((X3.setCell ⟨gb, 0, none⟩ (.int .i64 sc)).setCell ⟨gb, 1, none⟩ (.slice Bd sb.length cd)) gb 58 #[.int .i64 sc, .slice Bd sb.length cd]) := Lib.hid (by
            have n1 := row_ne H3.out.2.2.1 H3.out.1.1 (by decide)
            have n2 := row_ne H3.out.2.2.1 H3.out.1.2.1 (by decide)
            have n3 := Ne.symm H3.out.2.2.2.2
            exact ⟨⟨(H3.out.1.1.far (p := ⟨gb, 0, none⟩) n1 _).far (p := ⟨gb, 1, none⟩) n1 _, (H3.out.1.2.1.far (p := ⟨gb, 0, none⟩) n2 _).far (p := ⟨gb, 1, none⟩) n2 _, set2_below H3.out.1.2.2 H3.out.2.2.2.1⟩, (H3.out.2.1.far (p := ⟨gb, 0, none⟩) n3 _).far (p := ⟨gb, 1, none⟩) n3 _, set2_row _ _ H3.out.2.2.1⟩)
          refine hK.out _ _ ⟨(row3 H4.out.1.1).2.2, (row3 H4.out.1.2.1).2.2, HCe.out _ H4.out.1.2.2⟩ (fun hHeld2 => ?_)
          clear hK Kx hHeld2 H3
          ((try simp only [Act.put]); (try simp only [List.setIfInBounds_toArray]); (try simp only [List.set_cons_succ]); (try simp only [List.set_cons_zero]))
          refine wpAnyH_done (by kernel_rfl) ?_ _
          go_wp2_with fail
          go_meet
          exact ⟨ga, gb, rfl, rfl, H4⟩
        · go_simp
          have ha : Below X.heap.size X (X.alloc (.cells #[.int .i64 0, .slice none 0 0] 58)) := (Below.refl _ _).alloc (Nat.le_refl _) _
          have H1 : Hid ((Row (X.alloc (.cells #[.int .i64 0, .slice none 0 0] 58)) w.heap.size 25 #[.int .i64 v, .slice A es.length cap, .slice (some ⟨g, off, none⟩) ss.length cbp] ∧ Row (X.alloc (.cells #[.int .i64 0, .slice none 0 0] 58)) (w.heap.size + 1) 25 #[.int .i64 v, .slice A2 es.length cap2, .slice (some ⟨g2, off2, none⟩) ss.length cbp2] ∧ Below w.heap.size w (X.alloc (.cells #[.int .i64 0, .slice none 0 0] 58))) ∧ Row (X.alloc (.cells #[.int .i64 0, .slice none 0 0] 58)) X.heap.size 58 #[.int .i64 0, .slice none 0 0] ∧ w.heap.size ≤ X.heap.size) := Lib.hid ⟨⟨HD.out.1.under ha, HD.out.2.1.under ha, HD.out.2.2.trans (ha.mono HD.out.2.2.size)⟩, Row.new _ _ _, HD.out.2.2.size⟩
          refine hK.out _ _ ⟨(row3 H1.out.1.1).2.2, (row3 H1.out.1.2.1).2.2, HCe.out _ H1.out.1.2.2⟩ (fun hHeld2 => ?_)
          clear hK Kx hHeld HD
          ((try simp only [Act.put]); (try simp only [List.setIfInBounds_toArray]); (try simp only [List.set_cons_succ]); (try simp only [List.set_cons_zero]))
          refine genH (fun V => Hid ((Row V w.heap.size 25 #[.int .i64 v, .slice A es.length cap, .slice (some ⟨g, off, none⟩) ss.length cbp] ∧ Row V (w.heap.size + 1) 25 #[.int .i64 v, .slice A2 es.length cap2, .slice (some ⟨g2, off2, none⟩) ss.length cbp2] ∧ Below w.heap.size w V) ∧ Row V X.heap.size 58 #[.int .i64 0, .slice none 0 0] ∧ w.heap.size ≤ X.heap.size)) H1 ?_
          clear H1 hHeld2 ha
          generalize X.heap.size = gb
          intro X1 H1
          refine wpAnyH_ready (rs := [10]) (by kernel_rfl) (by simp) ?_
          refine AllReadyH.cons (o := ⟨some 6, _, _, _, _, none⟩) rfl (fun Kx hK => ?_) (AllReadyH.nil)
          go_simp
          have ha : Below X1.heap.size X1 (X1.alloc (.cells #[.int .i64 0, .slice none 0 0] 58)) := (Below.refl _ _).alloc (Nat.le_refl _) _
          have H2 : Hid ((Row (X1.alloc (.cells #[.int .i64 0, .slice none 0 0] 58)) w.heap.size 25 #[.int .i64 v, .slice A es.length cap, .slice (some ⟨g, off, none⟩) ss.length cbp] ∧ Row (X1.alloc (.cells #[.int .i64 0, .slice none 0 0] 58)) (w.heap.size + 1) 25 #[.int .i64 v, .slice A2 es.length cap2, .slice (some ⟨g2, off2, none⟩) ss.length cbp2] ∧ Below w.heap.size w (X1.alloc (.cells #[.int .i64 0, .slice none 0 0] 58))) ∧ Row (X1.alloc (.cells #[.int .i64 0, .slice none 0 0] 58)) X1.heap.size 58 #[.int .i64 0, .slice none 0 0] ∧ Row (X1.alloc (.cells #[.int .i64 0, .slice none 0 0] 58)) gb 58 #[.int .i64 0, .slice none 0 0] ∧ w.heap.size ≤ X1.heap.size ∧ w.heap.size ≤ gb ∧ X1.heap.size ≠ gb) := Lib.hid ⟨⟨H1.out.1.1.under ha, H1.out.1.2.1.under ha, H1.out.1.2.2.trans (ha.mono H1.out.1.2.2.size)⟩, Row.new _ _ _, H1.out.2.1.under ha, H1.out.1.2.2.size, H1.out.2.2, (by have := H1.out.2.1.lt; omega)⟩
          refine hK.out _ _ ⟨(row3 H2.out.1.1).2.2, (row3 H2.out.1.2.1).2.2, HCe.out _ H2.out.1.2.2⟩ (fun hHeld2 => ?_)
          clear hK Kx H1
          ((try simp only [Act.put]); (try simp only [List.setIfInBounds_toArray]); (try simp only [List.set_cons_succ]); (try simp only [List.set_cons_zero]))
          refine genH (fun V => Hid ((Row V w.heap.size 25 #[.int .i64 v, .slice A es.length cap, .slice (some ⟨g, off, none⟩) ss.length cbp] ∧ Row V (w.heap.size + 1) 25 #[.int .i64 v, .slice A2 es.length cap2, .slice (some ⟨g2, off2, none⟩) ss.length cbp2] ∧ Below w.heap.size w V) ∧ Row V X1.heap.size 58 #[.int .i64 0, .slice none 0 0] ∧ Row V gb 58 #[.int .i64 0, .slice none 0 0] ∧ w.heap.size ≤ X1.heap.size ∧ w.heap.size ≤ gb ∧ X1.heap.size ≠ gb)) H2 ?_
          clear H2 hHeld2 ha
          generalize X1.heap.size = ga
          intro X2 H2
          refine wpAnyH_ready (rs := [12]) (by kernel_rfl) (by simp) ?_
          refine AllReadyH.cons (o := ⟨none, _, _, _, _, none⟩) rfl (fun Kx hK => ?_) (AllReadyH.nil)
          have f0 := H2.out.2.1.thaw 0
          have f1 := H2.out.2.1.thaw 1
          obtain ⟨q0, q1⟩ := row2 H2.out.2.1
          go_simp
          clear f0 f1 q0 q1
          have H3 : Hid ((Row ((X2.setCell ⟨ga, 0, none⟩ (.int .i64 sc)).setCell ⟨ga, 1, none⟩ (.slice Bc sb.length cc)) w.heap.size 25 #[.int .i64 v, .slice A es.length cap, .slice (some ⟨g, off, none⟩) ss.length cbp] ∧ Row ((X2.setCell ⟨ga, 0, none⟩ (.int .i64 sc)).setCell ⟨ga, 1, none⟩ (.slice Bc sb.length cc)) (w.heap.size + 1) 25 #[.int .i64 v, .slice A2 es.length cap2, .slice (some ⟨g2, off2, none⟩) ss.length cbp2] ∧ Below w.heap.size w ((X2.setCell ⟨ga, 0, none⟩ (.int .i64 sc)).setCell ⟨ga, 1, none⟩ (.slice Bc sb.length cc))) ∧ Row ((X2.setCell ⟨ga, 0, none⟩ (.int .i64 sc)).setCell ⟨ga, 1, none⟩ (.slice Bc sb.length cc)) ga 58 #[.int .i64 sc, .slice Bc sb.length cc] ∧ Row ((X2.setCell ⟨ga, 0, none⟩ (.int .i64 sc)).setCell ⟨ga, 1, none⟩ (.slice Bc sb.length cc)) gb 58 #[.int .i64 0, .slice none 0 0] ∧ w.heap.size ≤ gb ∧ ga ≠ gb) := Lib.hid (by
            have n1 := row_ne H2.out.2.1 H2.out.1.1 (by decide)
            have n2 := row_ne H2.out.2.1 H2.out.1.2.1 (by decide)
            exact ⟨⟨(H2.out.1.1.far (p := ⟨ga, 0, none⟩) n1 _).far (p := ⟨ga, 1, none⟩) n1 _, (H2.out.1.2.1.far (p := ⟨ga, 0, none⟩) n2 _).far (p := ⟨ga, 1, none⟩) n2 _, set2_below H2.out.1.2.2 H2.out.2.2.2.1⟩, set2_row _ _ H2.out.2.1, (H2.out.2.2.1.far (p := ⟨ga, 0, none⟩) H2.out.2.2.2.2.2 _).far (p := ⟨ga, 1, none⟩) H2.out.2.2.2.2.2 _, H2.out.2.2.2.2.1, H2.out.2.2.2.2.2⟩)
          refine hK.out _ _ ⟨(row3 H3.out.1.1).2.2, (row3 H3.out.1.2.1).2.2, HCe.out _ H3.out.1.2.2⟩ (fun hHeld2 => ?_)
          clear hK Kx hHeld2 H2
          ((try simp only [Act.put]); (try simp only [List.setIfInBounds_toArray]); (try simp only [List.set_cons_succ]); (try simp only [List.set_cons_zero]))
          generalize (X2.setCell ⟨ga, 0, none⟩ (.int .i64 sc)).setCell ⟨ga, 1, none⟩ (.slice Bc sb.length cc) = X3 at H3 ⊢
          refine wpAnyH_ready (rs := [13]) (by kernel_rfl) (by simp) ?_
          refine AllReadyH.cons (o := ⟨none, _, _, _, _, none⟩) rfl (fun Kx hK => ?_) (AllReadyH.nil)
          have f0 := H3.out.2.2.1.thaw 0
          have f1 := H3.out.2.2.1.thaw 1
          obtain ⟨q0, q1⟩ := row2 H3.out.2.2.1
          go_simp
          clear f0 f1 q0 q1
          have H4 : Hid ((Row ((X3.setCell ⟨gb, 0, none⟩ (.int .i64 sc)).setCell ⟨gb, 1, none⟩ (.slice Bd sb.length cd)) w.heap.size 25 #[.int .i64 v, .slice A es.length cap, .slice (some ⟨g, off, none⟩) ss.length cbp] ∧ Row ((X3.setCell ⟨gb, 0, none⟩ (.int .i64 sc)).setCell ⟨gb, 1, none⟩ (.slice Bd sb.length cd)) (w.heap.size + 1) 25 #[.int .i64 v, .slice A2 es.length cap2, .slice (some ⟨g2, off2, none⟩) ss.length cbp2] ∧ Below w.heap.size w ((X3.setCell ⟨gb, 0, none⟩ (.int .i64 sc)).setCell ⟨gb, 1, none⟩ (.slice Bd sb.length cd))) ∧ Row ((X3.setCell ⟨gb, 0, none⟩ (.int .i64 sc)).setCell ⟨gb, 1, none⟩ (.slice Bd sb.length cd)) ga 58 #[.int .i64 sc, .slice Bc sb.length cc] ∧ Row ((X3.setCell ⟨gb, 0, none⟩ (.int .i64 sc)).setCell ⟨gb, 1, none⟩ (.slice Bd sb.length cd)) gb 58 #[.int .i64 sc, .slice Bd sb.length cd]) := Lib.hid (by
            have n1 := row_ne H3.out.2.2.1 H3.out.1.1 (by decide)
            have n2 := row_ne H3.out.2.2.1 H3.out.1.2.1 (by decide)
            have n3 := Ne.symm H3.out.2.2.2.2
            exact ⟨⟨(H3.out.1.1.far (p := ⟨gb, 0, none⟩) n1 _).far (p := ⟨gb, 1, none⟩) n1 _, (H3.out.1.2.1.far (p := ⟨gb, 0, none⟩) n2 _).far (p := ⟨gb, 1, none⟩) n2 _, set2_below H3.out.1.2.2 H3.out.2.2.2.1⟩, (H3.out.2.1.far (p := ⟨gb, 0, none⟩) n3 _).far (p := ⟨gb, 1, none⟩) n3 _, set2_row _ _ H3.out.2.2.1⟩)
          refine hK.out _ _ ⟨(row3 H4.out.1.1).2.2, (row3 H4.out.1.2.1).2.2, HCe.out _ H4.out.1.2.2⟩ (fun hHeld2 => ?_)
          clear hK Kx hHeld2 H3
          ((try simp only [Act.put]); (try simp only [List.setIfInBounds_toArray]); (try simp only [List.set_cons_succ]); (try simp only [List.set_cons_zero]))
          refine wpAnyH_done (by kernel_rfl) ?_ _
          go_wp2_with fail
          go_meet
          exact ⟨ga, gb, rfl, rfl, H4⟩
      case rest =>
        obtain ⟨ga, gb, rfl, rfl, MC⟩ := hcut
        clear M q0 q1 q2 p0 p1 p2 c0 c1 d0 d1 x9
        obtain ⟨z0, z1⟩ := row2 MC.out.2.1
        obtain ⟨y0, y1⟩ := row2 MC.out.2.2
        go_wp2_with fail
        clear z0 z1 y0 y1
        go_loopw [8] (fun t Y => ∃ m : Nat, m ≤ sb.length ∧ t = .int .i64 m ∧ Hid ((Row Y w.heap.size 25 #[.int .i64 v, .slice A es.length cap, .slice (some ⟨g, off, none⟩) ss.length cbp] ∧ Row Y (w.heap.size + 1) 25 #[.int .i64 v, .slice A2 es.length cap2, .slice (some ⟨g2, off2, none⟩) ss.length cbp2] ∧ Below w.heap.size w Y) ∧ Row Y ga 58 #[.int .i64 sc, .slice Bc sb.length cc] ∧ Row Y gb 58 #[.int .i64 sc, .slice Bd sb.length cd])) (fun t _ => sb.length - (intOf t).toNat)
        case atStart => exact ⟨0, Nat.zero_le _, rfl, MC⟩
        case round =>
          clear MC
          obtain ⟨m, hm, rfl, M⟩ := hrel
          obtain ⟨z0, z1⟩ := row2 M.out.2.1
          obtain ⟨y0, y1⟩ := row2 M.out.2.2
          by_cases hlt2 : m < sb.length
          · have m0 : (0 : Int) ≤ (m : Int) := by omega
            have m1 : (m : Int) < (sb.length : Int) := by omega
            have x9 : IntKind.i64.wrap (m : Int) = (m : Int) := IntWalk.i64_in _ (by omega)
            obtain ⟨g3, off3, rfl, d3, -⟩ := (HN1.out.under M.out.1.2.2).elem hlt2
            obtain ⟨g4, off4, rfl, d4, -⟩ := (HN2.out.under M.out.1.2.2).elem hlt2
            obtain ⟨q, hq⟩ : ∃ q, sb[m] = q := ⟨_, rfl⟩
            rw [hq] at d3 d4
            clear hq
            go_upto_region 12 with fail
            refine wp_region_held_drew (S := fun Y : World => Y.cell? ⟨ga, 1, none⟩ = some (.slice (some ⟨g3, off3, none⟩) sb.length cc) ∧ Y.cell? ⟨gb, 1, none⟩ = some (.slice (some ⟨g4, off4, none⟩) sb.length cd) ∧ Y.cell? ⟨g3, off3 + m, none⟩ = some (.int .i64 q) ∧ Y.cell? ⟨g4, off4 + m, none⟩ = some (.int .i64 q)) (by kernel_rfl) ⟨z1, y1, d3, d4⟩ (fun hHeld => ?_)
            refine wpAnyH_take (i := 0) (oi := ⟨some 69, _, _, _, _, none⟩) (v := ?_) rfl (by kernel_rfl) (by kernel_rfl) (by kernel_rfl) (fun _ _ _ h => h) (Or.inl ⟨by rfl, ?_⟩) (by assumption) ?_
            case refine_2 => (intro wx hSx; (try dsimp only at hSx); go_simp; first | done | with_reducible rfl)
            ((try simp only [Act.put]); (try simp only [List.setIfInBounds_toArray]); (try simp only [List.set_cons_succ]); (try simp only [List.set_cons_zero]))
            refine wpAnyH_take (i := 1) (oi := ⟨some 70, _, _, _, _, none⟩) (v := ?_) rfl (by kernel_rfl) (by kernel_rfl) (by kernel_rfl) (fun _ _ _ h => h) (Or.inl ⟨by rfl, ?_⟩) (by assumption) ?_
            case refine_2 => (intro wx hSx; (try dsimp only at hSx); go_simp; first | done | with_reducible rfl)
            ((try simp only [Act.put]); (try simp only [List.setIfInBounds_toArray]); (try simp only [List.set_cons_succ]); (try simp only [List.set_cons_zero]))
            refine wpAnyH_take (i := 2) (oi := ⟨some 71, _, _, _, _, none⟩) (v := ?_) rfl (by kernel_rfl) (by kernel_rfl) (by kernel_rfl) (fun _ _ _ h => h) (Or.inl ⟨by rfl, ?_⟩) (by assumption) ?_
            case refine_2 => (intro wx hSx; (try dsimp only at hSx); go_simp; first | done | with_reducible rfl)
            ((try simp only [Act.put]); (try simp only [List.setIfInBounds_toArray]); (try simp only [List.set_cons_succ]); (try simp only [List.set_cons_zero]))
            refine wpAnyH_take (i := 3) (oi := ⟨some 72, _, _, _, _, none⟩) (v := ?_) rfl (by kernel_rfl) (by kernel_rfl) (by kernel_rfl) (fun _ _ _ h => h) (Or.inl ⟨by rfl, ?_⟩) (by assumption) ?_
            case refine_2 => (intro wx hSx; (try dsimp only at hSx); go_simp; first | done | with_reducible rfl)
            ((try simp only [Act.put]); (try simp only [List.setIfInBounds_toArray]); (try simp only [List.set_cons_succ]); (try simp only [List.set_cons_zero]))
            refine wpAnyH_take (i := 4) (oi := ⟨some 73, _, _, _, _, none⟩) (v := ?_) rfl (by kernel_rfl) (by kernel_rfl) (by kernel_rfl) (fun _ _ _ h => h) (Or.inl ⟨by rfl, ?_⟩) (by assumption) ?_
            case refine_2 => (intro wx hSx; (try dsimp only at hSx); go_simp; first | done | with_reducible rfl)
            ((try simp only [Act.put]); (try simp only [List.setIfInBounds_toArray]); (try simp only [List.set_cons_succ]); (try simp only [List.set_cons_zero]))
            refine wpAnyH_take (i := 5) (oi := ⟨some 74, _, _, _, _, none⟩) (v := ?_) rfl (by kernel_rfl) (by kernel_rfl) (by kernel_rfl) (fun _ _ _ h => h) (Or.inl ⟨by rfl, ?_⟩) (by assumption) ?_
            case refine_2 => (intro wx hSx; (try dsimp only at hSx); go_simp; first | done | with_reducible rfl)
            ((try simp only [Act.put]); (try simp only [List.setIfInBounds_toArray]); (try simp only [List.set_cons_succ]); (try simp only [List.set_cons_zero]))
            refine wpAnyH_take (i := 6) (oi := ⟨some 75, _, _, _, _, none⟩) (v := ?_) rfl (by kernel_rfl) (by kernel_rfl) (by kernel_rfl) (fun _ _ _ h => h) (Or.inl ⟨by rfl, ?_⟩) (by assumption) ?_
            case refine_2 => (intro wx hSx; (try dsimp only at hSx); go_simp; first | done | with_reducible rfl)
            ((try simp only [Act.put]); (try simp only [List.setIfInBounds_toArray]); (try simp only [List.set_cons_succ]); (try simp only [List.set_cons_zero]))
            refine wpAnyH_take (i := 7) (oi := ⟨some 76, _, _, _, _, none⟩) (v := ?_) rfl (by kernel_rfl) (by kernel_rfl) (by kernel_rfl) (fun _ _ _ h => h) (Or.inl ⟨by rfl, ?_⟩) (by assumption) ?_
            case refine_2 => (intro wx hSx; (try dsimp only at hSx); go_simp; first | done | with_reducible rfl)
            ((try simp only [Act.put]); (try simp only [List.setIfInBounds_toArray]); (try simp only [List.set_cons_succ]); (try simp only [List.set_cons_zero]))
            refine wpAnyH_take (i := 8) (oi := ⟨some 77, _, _, _, _, none⟩) (v := ?_) rfl (by kernel_rfl) (by kernel_rfl) (by kernel_rfl) (fun _ _ _ h => h) (Or.inl ⟨by rfl, ?_⟩) (by assumption) ?_
            case refine_2 => (intro wx hSx; (try dsimp only at hSx); go_simp; first | done | with_reducible rfl)
            ((try simp only [Act.put]); (try simp only [List.setIfInBounds_toArray]); (try simp only [List.set_cons_succ]); (try simp only [List.set_cons_zero]))
            refine wpAnyH_take (i := 9) (oi := ⟨some 78, _, _, _, _, none⟩) (v := ?_) rfl (by kernel_rfl) (by kernel_rfl) (by kernel_rfl) (fun _ _ _ h => h) (Or.inl ⟨by rfl, ?_⟩) (by assumption) ?_
            case refine_2 => (intro wx hSx; (try dsimp only at hSx); go_simp; first | done | with_reducible rfl)
            ((try simp only [Act.put]); (try simp only [List.setIfInBounds_toArray]); (try simp only [List.set_cons_succ]); (try simp only [List.set_cons_zero]))
            refine wpAnyH_take (i := 10) (oi := ⟨some 79, _, _, _, _, none⟩) (v := ?_) rfl (by kernel_rfl) (by kernel_rfl) (by kernel_rfl) (fun _ _ _ h => h) (Or.inl ⟨by rfl, ?_⟩) (by assumption) ?_
            case refine_2 => (intro wx hSx; (try dsimp only at hSx); go_simp; first | done | with_reducible rfl)
            ((try simp only [Act.put]); (try simp only [List.setIfInBounds_toArray]); (try simp only [List.set_cons_succ]); (try simp only [List.set_cons_zero]))
            refine wpAnyH_done (by kernel_rfl) ?_ _
            have hd : Below wr.heap.size wr wr.drew := below_drewN (Below.refl _ _) 1
            have HM := Lib.hid (⟨⟨M.out.1.1.under hd, M.out.1.2.1.under hd, M.out.1.2.2.trans (hd.mono M.out.1.2.2.size)⟩, M.out.2.1.under hd, M.out.2.2.under hd⟩ : (Row wr.drew w.heap.size 25 #[.int .i64 v, .slice A es.length cap, .slice (some ⟨g, off, none⟩) ss.length cbp] ∧ Row wr.drew (w.heap.size + 1) 25 #[.int .i64 v, .slice A2 es.length cap2, .slice (some ⟨g2, off2, none⟩) ss.length cbp2] ∧ Below w.heap.size w wr.drew) ∧ Row wr.drew ga 58 #[.int .i64 sc, .slice _ sb.length cc] ∧ Row wr.drew gb 58 #[.int .i64 sc, .slice _ sb.length cd])
            clear hHeld z0 z1 y0 y1 d3 d4 x9 hd M
            go_wp2_with fail
            go_roundw
            case rel => exact ⟨m + 1, by omega, by go_num, HM⟩
            case measure => simp [intOf]; omega
          · have m1 : ¬ (m : Int) < (sb.length : Int) := by omega
            have HM := Lib.hid M.out.1
            clear M
            go_wp2_with fail
            go_roundw
            case rel => exact ⟨k + 1, by omega, by go_num, HM⟩
            case measure => simp [intOf]; omega
    · have k1 : ¬ (k : Int) < (ss.length : Int) := by omega
      go_wp2_with fail
      go_ret
      exact ⟨rfl, M.out.2.2⟩
end Go.Proofs.YtjaopjhfjijdaaaDoor
