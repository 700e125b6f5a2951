/- The law's bent. -/
import Derived.Test.YtjaopjhfjijdaaaDoorBs
namespace Go.Proofs.YtjaopjhfjijdaaaDoor
open Go.RowKit

/-- What bent leaves. -/
def BtR (W : World) (b : Nat) (w : World) (e : Ending) (w' : World) : Prop := ∃ (ver : Int) (va vb : Value) (es : List En) (ss : List Sq) (L : List (Int × Value)), e = .returned (.agg #[.int .i64 ver, va, vb]) ∧ TbL b w.heap.size w' va vb es ss L ∧ es.length ≤ 41 ∧ ss.length ≤ 4 ∧ (∀ s ∈ ss, s.2.length ≤ 3) ∧ Src W b w' ∧ w.grownBy w' (some b)
theorem sv_own {Y : World} {base : Nat} {u : Value} {L : List (Int × Value)} (o2 : Y.ownsRow base 58 2 u L.length (rowS L)) (h1 : ∀ j (h : j < L.length), (L[j]).2.oneCell' = true) : SvIn Y u L := by
  rcases o2.2 with ⟨q, h0⟩ | ⟨g, cap, cur, q, _, _, hle, hmax, _⟩
  · have hL : L = [] := List.eq_nil_of_length_eq_zero h0
    subst q; subst hL
    exact ⟨none, 0, rfl, Nat.le_refl _, by omega, fun i hi => absurd hi (Nat.not_lt_zero _)⟩
  · subst q
    exact ⟨some ⟨g, 0, none⟩, cap, rfl, hle, by unfold maxLen at hmax; omega, fun i hi => ⟨g, 0, rfl, (o2.lt g rfl).2, by rw [Nat.zero_add, o2.cellAt (i * 2) (by omega), (rowS_at L i hi).1], by rw [Nat.zero_add, o2.cellAt (i * 2 + 1) (by omega), (rowS_at L i hi).2], h1 i hi⟩⟩
theorem TbL.one {b base : Nat} {Y : World} {va vb : Value} {es : List En} {ss : List Sq} {L : List (Int × Value)} (h : TbL b base Y va vb es ss L) : ∀ j (h : j < L.length), (L[j]).2.oneCell' = true := fun j hj => by
  obtain ⟨-, -, -, -, el, hs⟩ := h
  obtain ⟨A, c, e, -⟩ := (hs j hj).2.2.1
  rw [e]; rfl
theorem bent_q {W w Y Y' : World} {b : Nat} {t z : Array Value} (h : Src W b Y ∧ w.grownBy Y (some b) ∧ Row Y w.heap.size 25 t ∧ Row Y (w.heap.size + 1) 25 z) (hb : Below Y.heap.size Y Y') : Src W b Y' ∧ w.grownBy Y' (some b) ∧ Row Y' w.heap.size 25 t ∧ Row Y' (w.heap.size + 1) 25 z := ⟨h.1.under hb, grown_trans h.2.1 (grown_below hb), h.2.2.1.under hb, h.2.2.2.under hb⟩
theorem bent_put {W w Y : World} {b j : Nat} {t z : Array Value} {u : Value} (h : Src W b Y ∧ w.grownBy Y (some b) ∧ Row Y w.heap.size 25 t ∧ Row Y (w.heap.size + 1) 25 z) (hb : b < w.heap.size) : Src W b (Y.setCell ⟨w.heap.size, j, none⟩ u) ∧ w.grownBy (Y.setCell ⟨w.heap.size, j, none⟩ u) (some b) ∧ Row (Y.setCell ⟨w.heap.size, j, none⟩ u) w.heap.size 25 (t.setIfInBounds j u) ∧ Row (Y.setCell ⟨w.heap.size, j, none⟩ u) (w.heap.size + 1) 25 z := by
  have hW := h.1.base
  exact ⟨src_put h.1 (by omega) (by omega), gro_set h.2.1 (Nat.le_refl _), h.2.2.1.put j u, h.2.2.2.far (p := ⟨w.heap.size, j, none⟩) (by show w.heap.size ≠ w.heap.size + 1; omega) _⟩
set_option maxRecDepth 100000 in
set_option maxHeartbeats 4000000 in
theorem bent_any (W : World) (b base : Nat) (w : World) (ver : Int) (va vb : Value) (es : List En) (ss : List Sq) (L : List (Int × Value)) (hs : Src W b w) (htb : TbL b base w va vb es ss L) (hel : es.length = 11) (hsl : ss.length ≤ 3) (hcl : ∀ s ∈ ss, s.2.length ≤ 3) :
    Calls Tryd.prog 13 #[.pointer (some ⟨b, 0, none⟩), .agg #[.int .i64 ver, va, vb]] w (BtR W b w) := by
  obtain ⟨A, cap, ev⟩ := sl_of htb.2.2.1
  obtain ⟨B, cbp, ew⟩ := sl_of htb.2.2.2.1
  subst ev; subst ew
  have hbl := src_lt hs
  have hWw := hs.below.size
  obtain ⟨i0, hi, hz0, hz1, hz2⟩ := info_parts infoEntry
  obtain ⟨m0, hm, hx0, hx1, hx2⟩ := info_parts infoSeq
  have hL3 : L.length ≤ 3 := by have := htb.2.2.2.2.choose; omega
  have HEL := Lib.hid hel
  have he1 : es.length ≤ 11 := by omega
  have he2 : 11 ≤ es.length := by omega
  have HTB := Lib.hid htb
  have HCL := Lib.hid hcl
  have h1 : Below w.heap.size w (w.alloc (.cells #[.int .i64 ver, .slice A es.length cap, .slice B L.length cbp] 25)) := (Below.refl _ _).alloc (Nat.le_refl _) _
  have h2 := alloc_below h1 h1.size (.cells #[.int .i64 0, .slice none 0 0, .slice none 0 0] 25)
  have HJ : Hid ((Src W b ((w.alloc (.cells #[.int .i64 ver, .slice A es.length cap, .slice B L.length cbp] 25)).alloc (.cells #[.int .i64 0, .slice none 0 0, .slice none 0 0] 25)) ∧ w.grownBy ((w.alloc (.cells #[.int .i64 ver, .slice A es.length cap, .slice B L.length cbp] 25)).alloc (.cells #[.int .i64 0, .slice none 0 0, .slice none 0 0] 25)) (some b) ∧ Row ((w.alloc (.cells #[.int .i64 ver, .slice A es.length cap, .slice B L.length cbp] 25)).alloc (.cells #[.int .i64 0, .slice none 0 0, .slice none 0 0] 25)) w.heap.size 25 #[.int .i64 ver, .slice A es.length cap, .slice B L.length cbp] ∧ Row ((w.alloc (.cells #[.int .i64 ver, .slice A es.length cap, .slice B L.length cbp] 25)).alloc (.cells #[.int .i64 0, .slice none 0 0, .slice none 0 0] 25)) (w.heap.size + 1) 25 #[.int .i64 0, .slice none 0 0, .slice none 0 0])) := Lib.hid ⟨hs.under h2, grown_below h2, (Row.new _ _ _).alloc _, Row.newAt (by simp)⟩
  clear h1 h2 hs htb hcl hel
  go_enter Tryd.func13, Tryd.ntmps13
  go_upto_region 1 with fail
  refine forget (fun Y => Hid ((Src W b Y ∧ w.grownBy Y (some b) ∧ Row Y w.heap.size 25 #[.int .i64 ver, .slice A es.length cap, .slice B L.length cbp] ∧ Row Y (w.heap.size + 1) 25 #[.int .i64 0, .slice none 0 0, .slice none 0 0]))) HJ ?_
  clear HJ
  intro Y0 HJ
  have ha : Below Y0.heap.size Y0 (Y0.alloc (.cells #[] 47)) := (Below.refl _ _).alloc (Nat.le_refl _) _
  have HO := Lib.hid (World.ownsRow_lit (e := 47) (base := w.heap.size) (size := 5) Y0 #[] 0 HJ.out.2.1.size (by decide) rfl)
  have HE := Lib.hid (EnIn.own HTB.out.2.1 ((HTB.out.step HJ.out.2.1).under ha).2.2.1)
  have HS := Lib.hid ha
  have HZ := Lib.hid (Nat.le_trans HJ.out.2.1.size ha.size)
  obtain ⟨q0, q1, q2⟩ := row3 (HJ.out.2.2.1.under ha)
  clear ha
  go_upto_region 2 with (at_builtin; refine wpList_append_ents (by first | rfl | kernel_rfl | simp [Region.wanted, yielded]) (.tmp 6) (.tmp 8) rfl w.heap.size _ 0 _ rfl HO.out A es.length cap es rfl HE.out (by omega) HZ.out ?_; intro va1 y1 ho1 hg1; (obtain ⟨A1, c1, ev⟩ : ∃ A1 c1, va1 = .slice A1 (0 + es.length) c1 := sl_of ho1); rw [Nat.zero_add] at ev ho1; subst ev; have hb1 : Below Y0.heap.size Y0 y1 := below_grown HS.out hg1 (Nat.le_refl _) HS.out.size; have HJ1 := Lib.hid (bent_q HJ.out hb1); have HO1 := Lib.hid ho1; clear ho1 hg1 hb1; have F1 := HJ1.out.2.2.1.thaw 1; have P1 := (row3 HJ1.out.2.2.1).2.1)
  have HJ2 := Lib.hid (bent_put (j := 1) (u := .slice A1 es.length c1) HJ1.out hbl)
  have HO2 := Lib.hid (HO1.out.kept (grown_put (j := 1) (u := .slice A1 es.length c1)) (.inr (Ne.symm (own_ne HO1.out HJ1.out.2.2.1 (by decide)))) : (y1.setCell ⟨w.heap.size, 1, none⟩ (.slice A1 es.length c1)).ownsRow w.heap.size 47 5 (.slice A1 es.length c1) es.length ((#[] : Array Value).toList ++ rowE es))
  generalize y1.setCell ⟨w.heap.size, 1, none⟩ (.slice A1 es.length c1) = Y2 at HJ2 HO2 ⊢
  clear HJ HJ1 HO HO1 HE HS HZ F1 P1 q0 q1 q2
  have HJ2 : Hid ((Src W b Y2 ∧ w.grownBy Y2 (some b) ∧ Row Y2 w.heap.size 25 #[.int .i64 ver, .slice A1 es.length c1, .slice B L.length cbp] ∧ Row Y2 (w.heap.size + 1) 25 #[.int .i64 0, .slice none 0 0, .slice none 0 0])) := HJ2
  have ha : Below Y2.heap.size Y2 (Y2.alloc (.cells #[] 58)) := (Below.refl _ _).alloc (Nat.le_refl _) _
  have HO := Lib.hid (World.ownsRow_lit (e := 58) (base := w.heap.size) (size := 2) Y2 #[] 0 HJ2.out.2.1.size (by decide) rfl)
  have HE := Lib.hid (sv_own ((HTB.out.step HJ2.out.2.1).under ha).2.2.2.1 HTB.out.one)
  have HS := Lib.hid ha
  have HZ := Lib.hid (Nat.le_trans HJ2.out.2.1.size ha.size)
  obtain ⟨q0, q1, q2⟩ := row3 (HJ2.out.2.2.1.under ha)
  clear ha
  go_upto_region 3 with (at_builtin; refine wpList_append_seqs (by first | rfl | kernel_rfl | simp [Region.wanted, yielded]) (.tmp 11) (.tmp 13) rfl w.heap.size _ 0 _ rfl HO.out B L.length cbp L rfl HE.out (by omega) HZ.out ?_; intro va1 y1 ho1 hg1; (obtain ⟨B1, c2, ev⟩ : ∃ A1 c1, va1 = .slice A1 (0 + L.length) c1 := sl_of ho1); rw [Nat.zero_add] at ev ho1; subst ev; have hb1 : Below Y2.heap.size Y2 y1 := below_grown HS.out hg1 (Nat.le_refl _) HS.out.size; have HJ1 := Lib.hid (bent_q HJ2.out hb1); have HO3 := Lib.hid (HO2.out.kept (row := some b) (grown_below hb1) (.inr (fun q => by have := (HO2.out.lt b q).1; omega))); have HO1 := Lib.hid ho1; clear ho1 hg1 hb1; have F1 := HJ1.out.2.2.1.thaw 2; have P1 := (row3 HJ1.out.2.2.1).2.2)
  have HT2 := Lib.hid (HTB.out.step HJ1.out.2.1)
  have HJ3 := Lib.hid (bent_put (j := 2) (u := .slice B1 L.length c2) HJ1.out hbl)
  have HB : Hid (BtS W b w (y1.setCell ⟨w.heap.size, 2, none⟩ (.slice B1 L.length c2)) ver (.slice A1 es.length c1) (.slice B1 L.length c2) es ss L) := Lib.hid ⟨HJ3.out.1, HJ3.out.2.1, HJ3.out.2.2.1, HJ3.out.2.2.2, hbl, HT2.out.2.1,
    HO3.out.kept (grown_put (j := 2) (u := .slice B1 L.length c2)) (.inr (Ne.symm (own_ne HO3.out HJ1.out.2.2.1 (by decide)))), HO1.out.kept (grown_put (j := 2) (u := .slice B1 L.length c2)) (.inr (Ne.symm (own_ne HO1.out HJ1.out.2.2.1 (by decide)))),
    HT2.out.2.2.2.2.choose, fun j hj => ⟨(HT2.out.2.2.2.2.choose_spec j hj).1, (HT2.out.2.2.2.2.choose_spec j hj).2.1, (HT2.out.2.2.2.2.choose_spec j hj).2.2.step' grown_put (fun g' cur _ hr q => row_ne hr HJ1.out.2.2.1 (by decide) (by injection q))⟩⟩
  obtain ⟨ge, eA⟩ : ∃ ge, A1 = some ⟨ge, 0, none⟩ := by
    rcases HO3.out.2 with ⟨q, -⟩ | ⟨g', c', cur, q, -⟩
    · injection q with q1 q2; omega
    · injection q with q1; exact ⟨g', q1⟩
  subst eA
  generalize y1.setCell ⟨w.heap.size, 2, none⟩ (.slice B1 L.length c2) = Y3 at HB ⊢
  clear HJ1 HJ2 HJ3 HO1 HO2 HO3 HO HE HS HZ HT2 F1 P1 q0 q1 q2
  refine forget (fun Y => Hid (BtS W b w Y ver (.slice (some ⟨ge, 0, none⟩) es.length c1) (.slice B1 L.length c2) es ss L)) HB ?_
  clear HB
  rw [HEL.out]
  intro V HB
  refine wp_region_held_drew (S := fun Y : World => Y.cell? ⟨w.heap.size, 1, none⟩ = some (.slice (some ⟨ge, 0, none⟩) 11 c1)) (by kernel_rfl) (row3 HB.out.2.2.1).2.1 (fun hHeld => ?_)
  have HD := Lib.hid HB.out.drew
  clear HB
  generalize V.drew = X at HD hHeld ⊢
  refine wpAnyH_take (i := 0) (v := ?_) rfl (by kernel_rfl) (by kernel_rfl) (by kernel_rfl) (fun _ _ _ h => h) (Or.inl ⟨by rfl, ?_⟩) (by assumption) ?_
  case refine_2 => (intro wx hSx; (try dsimp only at hSx); go_simp; first | done | with_reducible rfl)
  ((try simp only [Act.put]); (try simp only [List.setIfInBounds_toArray]); (try simp only [List.set_cons_succ]); (try simp only [List.set_cons_zero]))
  refine wpAnyH_take (i := 1) (v := ?_) rfl (by kernel_rfl) (by kernel_rfl) (by kernel_rfl) (fun _ _ _ h => h) (Or.inl ⟨by rfl, ?_⟩) (by assumption) ?_
  case refine_2 => (intro wx hSx; (try dsimp only at hSx); go_simp; first | done | with_reducible rfl)
  ((try simp only [Act.put]); (try simp only [List.setIfInBounds_toArray]); (try simp only [List.set_cons_succ]); (try simp only [List.set_cons_zero]))
  refine wpAnyH_take (i := 2) (v := ?_) rfl (by kernel_rfl) (by kernel_rfl) (by kernel_rfl) (fun _ _ _ h => h) (Or.inl ⟨by rfl, ?_⟩) (by assumption) ?_
  case refine_2 => (intro wx hSx; (try dsimp only at hSx); go_simp; first | done | with_reducible rfl)
  ((try simp only [Act.put]); (try simp only [List.setIfInBounds_toArray]); (try simp only [List.set_cons_succ]); (try simp only [List.set_cons_zero]))
  refine wpAnyH_take (i := 3) (v := ?_) rfl (by kernel_rfl) (by kernel_rfl) (by kernel_rfl) (fun _ _ _ h => h) (Or.inl ⟨by rfl, ?_⟩) (by assumption) ?_
  case refine_2 => (intro wx hSx; (try dsimp only at hSx); go_simp; first | done | with_reducible rfl)
  ((try simp only [Act.put]); (try simp only [List.setIfInBounds_toArray]); (try simp only [List.set_cons_succ]); (try simp only [List.set_cons_zero]))
  refine wpAnyH_take (i := 4) (v := ?_) rfl (by kernel_rfl) (by kernel_rfl) (by kernel_rfl) (fun _ _ _ h => h) (Or.inl ⟨by rfl, ?_⟩) (by assumption) ?_
  case refine_2 => (intro wx hSx; (try dsimp only at hSx); go_simp; first | done | with_reducible rfl)
  ((try simp only [Act.put]); (try simp only [List.setIfInBounds_toArray]); (try simp only [List.set_cons_succ]); (try simp only [List.set_cons_zero]))
  refine wpAnyH_take (i := 5) (v := ?_) rfl (by kernel_rfl) (by kernel_rfl) (by kernel_rfl) (fun _ _ _ h => h) (Or.inl ⟨by rfl, ?_⟩) (by assumption) ?_
  case refine_2 => (intro wx hSx; (try dsimp only at hSx); go_simp; first | done | with_reducible rfl)
  ((try simp only [Act.put]); (try simp only [List.setIfInBounds_toArray]); (try simp only [List.set_cons_succ]); (try simp only [List.set_cons_zero]))
  refine wpAnyH_ready (rs := [6]) (by kernel_rfl) (by simp) ?_
  refine AllReadyH.cons (o := ⟨some 22, _, _, _, _, none⟩) rfl (fun Kx hK => ?_) AllReadyH.nil
  go_simp
  refine (n_any W b _ 11 HD.out.1 (by omega) (by omega)).mono ?_
  rintro e w4 ⟨k0, ⟨k1, k2⟩, rfl, hs, hg⟩
  obtain ⟨k, rfl⟩ := Int.eq_ofNat_of_zero_le k1
  have HB := Lib.hid (HD.out.step hs hg)
  clear hs hg HD hHeld
  go_simp
  refine hK.out _ _ (row3 HB.out.2.2.1).2.1 (fun hHeld => ?_)
  clear hK Kx
  ((try simp only [Act.put]); (try simp only [List.setIfInBounds_toArray]); (try simp only [List.set_cons_succ]); (try simp only [List.set_cons_zero]))
  refine wpAnyH_take (i := 7) (v := ?_) rfl (by kernel_rfl) (by kernel_rfl) (by kernel_rfl) (fun _ _ _ h => h) (Or.inl ⟨by rfl, ?_⟩) (by assumption) ?_
  case refine_2 => (intro wx hSx; (try dsimp only at hSx); go_simp; first | done | with_reducible rfl)
  ((try simp only [Act.put]); (try simp only [List.setIfInBounds_toArray]); (try simp only [List.set_cons_succ]); (try simp only [List.set_cons_zero]))
  refine wpAnyH_take (i := 8) (v := ?_) rfl (by kernel_rfl) (by kernel_rfl) (by kernel_rfl) (fun _ _ _ h => h) (Or.inl ⟨by rfl, ?_⟩) (by assumption) ?_
  case refine_2 => (intro wx hSx; (try dsimp only at hSx); go_simp; first | done | with_reducible rfl)
  ((try simp only [Act.put]); (try simp only [List.setIfInBounds_toArray]); (try simp only [List.set_cons_succ]); (try simp only [List.set_cons_zero]))
  refine wpAnyH_done (by kernel_rfl) ?_ _
  clear hHeld
  go_wp2_with fail
  refine (n_any W b _ 9 HB.out.1 (by omega) (by omega)).mono ?_
  rintro e w5 ⟨x, ⟨x1, x2⟩, rfl, hs, hg⟩
  have HD := Lib.hid (HB.out.step hs hg)
  clear hs hg HB
  have hk : k < es.length := by omega
  by_cases cx0 : x = 0
  · subst cx0
    have hp := pick_const HD.out.1 [0, 1, 99, 100] (by decide) (by decide) (fun y hy => by rcases (by simpa using hy : y = 0 ∨ y = 1 ∨ y = 99 ∨ y = 100) with rfl | rfl | rfl | rfl <;> exact ⟨by omega, by omega⟩)
    have HP : Hid (Calls Tryd.prog 30 #[.pointer (some ⟨b, 0, none⟩), .slice (some ⟨w5.heap.size, 0, none⟩) 4 4] (w5.alloc (.cells #[.int .i64 (0), .int .i64 (1), .int .i64 (99), .int .i64 (100)] 3)) (Reads I64 W b (w5.alloc (.cells #[.int .i64 (0), .int .i64 (1), .int .i64 (99), .int .i64 (100)] 3)))) := Lib.hid hp
    have HD2 : Hid (BtS W b w (w5.alloc (.cells #[.int .i64 (0), .int .i64 (1), .int .i64 (99), .int .i64 (100)] 3)) ver (.slice (some ⟨ge, 0, none⟩) 11 c1) (.slice B1 L.length c2) es ss L) := Lib.hid (HD.out.under ((Below.refl _ _).alloc (Nat.le_refl _) _))
    clear hp HD
    go_wp2_with fail
    refine HP.out.mono ?_
    rintro e w6 ⟨y, hy, rfl, hs, hg⟩
    have HB := Lib.hid (HD2.out.step hs hg)
    clear hs hg HD2 HP
    have p0 := (row3 HB.out.2.2.1).1
    have g0 := HB.out.2.2.1.thaw 0
    go_upto_region 23 with fail
    have HB := Lib.hid (HB.out.vers y)
    generalize w6.setCell ⟨w.heap.size, 0, none⟩ (.int .i64 y) = Y6 at HB ⊢
    clear p0 g0
    obtain ⟨q0, q1, q2⟩ := row3 HB.out.2.2.1
    obtain ⟨z0, z1, z2⟩ := row3 HB.out.2.2.2.1
    have f0 := HB.out.2.2.2.1.thaw 0
    have f1 := HB.out.2.2.2.1.thaw 1
    have f2 := HB.out.2.2.2.1.thaw 2
    have HL := Lib.hid (HB.out.last (by omega) (by omega) HCL.out)
    have HR := Lib.hid (set3_row (.int .i64 y) (.slice (some ⟨ge, 0, none⟩) 11 c1) (.slice B1 L.length c2) HB.out.2.2.2.1)
    clear HB
    go_wp2_with fail
    obtain ⟨es9, ss9, L9, l1, l2, l3, l4, l5, l6⟩ := HL.out
    exact bodyPost_ret (v := .agg #[.int .i64 y, (.slice (some ⟨ge, 0, none⟩) 11 c1), (.slice B1 L.length c2)]) (by obtain ⟨z0, z1, z2⟩ := row3 HR.out; simp [results, Tryd.results13, z0, z1, z2, go_sem]) rfl ⟨_, _, _, es9, ss9, L9, rfl, l1, l2, l3, l4, l5, l6⟩
  by_cases cx1 : x = 1
  · subst cx1
    have hp := pick_const HD.out.1 [1, 2, 24, 25] (by decide) (by decide) (fun y hy => by rcases (by simpa using hy : y = 1 ∨ y = 2 ∨ y = 24 ∨ y = 25) with rfl | rfl | rfl | rfl <;> exact ⟨by omega, by omega⟩)
    have HP : Hid (Calls Tryd.prog 30 #[.pointer (some ⟨b, 0, none⟩), .slice (some ⟨w5.heap.size, 0, none⟩) 4 4] (w5.alloc (.cells #[.int .i64 (1), .int .i64 (2), .int .i64 (24), .int .i64 (25)] 3)) (Reads I64 W b (w5.alloc (.cells #[.int .i64 (1), .int .i64 (2), .int .i64 (24), .int .i64 (25)] 3)))) := Lib.hid hp
    have HD2 : Hid (BtS W b w (w5.alloc (.cells #[.int .i64 (1), .int .i64 (2), .int .i64 (24), .int .i64 (25)] 3)) ver (.slice (some ⟨ge, 0, none⟩) 11 c1) (.slice B1 L.length c2) es ss L) := Lib.hid (HD.out.under ((Below.refl _ _).alloc (Nat.le_refl _) _))
    clear hp HD
    go_wp2_with fail
    refine HP.out.mono ?_
    rintro e w6 ⟨y, hy, rfl, hs, hg⟩
    have HB := Lib.hid (HD2.out.step hs hg)
    clear hs hg HD2 HP
    obtain ⟨⟨yo, p0⟩, g0⟩ := HB.out.at hk (f := 2) (by decide)
  
    go_upto_region 23 with fail
    obtain ⟨es', he', HB'⟩ := HB.out.ent hk (f := 2) (by decide) hy
  
    have HB' := Lib.hid HB'
    generalize w6.setCell ⟨ge, k * 5 + 2, none⟩ (.int .i64 y) = Y6 at HB' ⊢
    clear p0 g0 HB
    have HB := HB'
    clear HB'
    obtain ⟨q0, q1, q2⟩ := row3 HB.out.2.2.1
    obtain ⟨z0, z1, z2⟩ := row3 HB.out.2.2.2.1
    have f0 := HB.out.2.2.2.1.thaw 0
    have f1 := HB.out.2.2.2.1.thaw 1
    have f2 := HB.out.2.2.2.1.thaw 2
    have HL := Lib.hid (HB.out.last (by omega) (by omega) HCL.out)
    have HR := Lib.hid (set3_row (.int .i64 ver) (.slice (some ⟨ge, 0, none⟩) 11 c1) (.slice B1 L.length c2) HB.out.2.2.2.1)
    clear HB
    go_wp2_with fail
    obtain ⟨es9, ss9, L9, l1, l2, l3, l4, l5, l6⟩ := HL.out
    exact bodyPost_ret (v := .agg #[.int .i64 ver, (.slice (some ⟨ge, 0, none⟩) 11 c1), (.slice B1 L.length c2)]) (by obtain ⟨z0, z1, z2⟩ := row3 HR.out; simp [results, Tryd.results13, z0, z1, z2, go_sem]) rfl ⟨_, _, _, es9, ss9, L9, rfl, l1, l2, l3, l4, l5, l6⟩
  by_cases cx2 : x = 2
  · subst cx2
    have hp := pick_const HD.out.1 [0, 1, 1000, 1001] (by decide) (by decide) (fun y hy => by rcases (by simpa using hy : y = 0 ∨ y = 1 ∨ y = 1000 ∨ y = 1001) with rfl | rfl | rfl | rfl <;> exact ⟨by omega, by omega⟩)
    have HP : Hid (Calls Tryd.prog 30 #[.pointer (some ⟨b, 0, none⟩), .slice (some ⟨w5.heap.size, 0, none⟩) 4 4] (w5.alloc (.cells #[.int .i64 (0), .int .i64 (1), .int .i64 (1000), .int .i64 (1001)] 3)) (Reads I64 W b (w5.alloc (.cells #[.int .i64 (0), .int .i64 (1), .int .i64 (1000), .int .i64 (1001)] 3)))) := Lib.hid hp
    have HD2 : Hid (BtS W b w (w5.alloc (.cells #[.int .i64 (0), .int .i64 (1), .int .i64 (1000), .int .i64 (1001)] 3)) ver (.slice (some ⟨ge, 0, none⟩) 11 c1) (.slice B1 L.length c2) es ss L) := Lib.hid (HD.out.under ((Below.refl _ _).alloc (Nat.le_refl _) _))
    clear hp HD
    go_wp2_with fail
    refine HP.out.mono ?_
    rintro e w6 ⟨y, hy, rfl, hs, hg⟩
    have HB := Lib.hid (HD2.out.step hs hg)
    clear hs hg HD2 HP
    obtain ⟨⟨yo, p0⟩, g0⟩ := HB.out.at hk (f := 3) (by decide)
  
    go_upto_region 23 with fail
    obtain ⟨es', he', HB'⟩ := HB.out.ent hk (f := 3) (by decide) hy
  
    have HB' := Lib.hid HB'
    generalize w6.setCell ⟨ge, k * 5 + 3, none⟩ (.int .i64 y) = Y6 at HB' ⊢
    clear p0 g0 HB
    have HB := HB'
    clear HB'
    obtain ⟨q0, q1, q2⟩ := row3 HB.out.2.2.1
    obtain ⟨z0, z1, z2⟩ := row3 HB.out.2.2.2.1
    have f0 := HB.out.2.2.2.1.thaw 0
    have f1 := HB.out.2.2.2.1.thaw 1
    have f2 := HB.out.2.2.2.1.thaw 2
    have HL := Lib.hid (HB.out.last (by omega) (by omega) HCL.out)
    have HR := Lib.hid (set3_row (.int .i64 ver) (.slice (some ⟨ge, 0, none⟩) 11 c1) (.slice B1 L.length c2) HB.out.2.2.2.1)
    clear HB
    go_wp2_with fail
    obtain ⟨es9, ss9, L9, l1, l2, l3, l4, l5, l6⟩ := HL.out
    exact bodyPost_ret (v := .agg #[.int .i64 ver, (.slice (some ⟨ge, 0, none⟩) 11 c1), (.slice B1 L.length c2)]) (by obtain ⟨z0, z1, z2⟩ := row3 HR.out; simp [results, Tryd.results13, z0, z1, z2, go_sem]) rfl ⟨_, _, _, es9, ss9, L9, rfl, l1, l2, l3, l4, l5, l6⟩
  by_cases cx3 : x = 3
  · subst cx3
    have hp := pick_const HD.out.1 [-100001, -100000, 100000, 100001] (by decide) (by decide) (fun y hy => by rcases (by simpa using hy : y = -100001 ∨ y = -100000 ∨ y = 100000 ∨ y = 100001) with rfl | rfl | rfl | rfl <;> exact ⟨by omega, by omega⟩)
    have HP : Hid (Calls Tryd.prog 30 #[.pointer (some ⟨b, 0, none⟩), .slice (some ⟨w5.heap.size, 0, none⟩) 4 4] (w5.alloc (.cells #[.int .i64 (-100001), .int .i64 (-100000), .int .i64 (100000), .int .i64 (100001)] 3)) (Reads I64 W b (w5.alloc (.cells #[.int .i64 (-100001), .int .i64 (-100000), .int .i64 (100000), .int .i64 (100001)] 3)))) := Lib.hid hp
    have HD2 : Hid (BtS W b w (w5.alloc (.cells #[.int .i64 (-100001), .int .i64 (-100000), .int .i64 (100000), .int .i64 (100001)] 3)) ver (.slice (some ⟨ge, 0, none⟩) 11 c1) (.slice B1 L.length c2) es ss L) := Lib.hid (HD.out.under ((Below.refl _ _).alloc (Nat.le_refl _) _))
    clear hp HD
    go_wp2_with fail
    refine HP.out.mono ?_
    rintro e w6 ⟨y, hy, rfl, hs, hg⟩
    have HB := Lib.hid (HD2.out.step hs hg)
    clear hs hg HD2 HP
    obtain ⟨⟨yo, p0⟩, g0⟩ := HB.out.at hk (f := 4) (by decide)
  
    go_upto_region 23 with fail
    obtain ⟨es', he', HB'⟩ := HB.out.ent hk (f := 4) (by decide) hy
  
    have HB' := Lib.hid HB'
    generalize w6.setCell ⟨ge, k * 5 + 4, none⟩ (.int .i64 y) = Y6 at HB' ⊢
    clear p0 g0 HB
    have HB := HB'
    clear HB'
    obtain ⟨q0, q1, q2⟩ := row3 HB.out.2.2.1
    obtain ⟨z0, z1, z2⟩ := row3 HB.out.2.2.2.1
    have f0 := HB.out.2.2.2.1.thaw 0
    have f1 := HB.out.2.2.2.1.thaw 1
    have f2 := HB.out.2.2.2.1.thaw 2
    have HL := Lib.hid (HB.out.last (by omega) (by omega) HCL.out)
    have HR := Lib.hid (set3_row (.int .i64 ver) (.slice (some ⟨ge, 0, none⟩) 11 c1) (.slice B1 L.length c2) HB.out.2.2.2.1)
    clear HB
    go_wp2_with fail
    obtain ⟨es9, ss9, L9, l1, l2, l3, l4, l5, l6⟩ := HL.out
    exact bodyPost_ret (v := .agg #[.int .i64 ver, (.slice (some ⟨ge, 0, none⟩) 11 c1), (.slice B1 L.length c2)]) (by obtain ⟨z0, z1, z2⟩ := row3 HR.out; simp [results, Tryd.results13, z0, z1, z2, go_sem]) rfl ⟨_, _, _, es9, ss9, L9, rfl, l1, l2, l3, l4, l5, l6⟩
  by_cases cx4 : x = 4
  · subst cx4
    have hp := pick_const HD.out.1 [0, 1, 100, 9999, 10000] (by decide) (by decide) (fun y hy => by rcases (by simpa using hy : y = 0 ∨ y = 1 ∨ y = 100 ∨ y = 9999 ∨ y = 10000) with rfl | rfl | rfl | rfl | rfl <;> exact ⟨by omega, by omega⟩)
    have HP : Hid (Calls Tryd.prog 30 #[.pointer (some ⟨b, 0, none⟩), .slice (some ⟨w5.heap.size, 0, none⟩) 5 5] (w5.alloc (.cells #[.int .i64 (0), .int .i64 (1), .int .i64 (100), .int .i64 (9999), .int .i64 (10000)] 3)) (Reads I64 W b (w5.alloc (.cells #[.int .i64 (0), .int .i64 (1), .int .i64 (100), .int .i64 (9999), .int .i64 (10000)] 3)))) := Lib.hid hp
    have HD2 : Hid (BtS W b w (w5.alloc (.cells #[.int .i64 (0), .int .i64 (1), .int .i64 (100), .int .i64 (9999), .int .i64 (10000)] 3)) ver (.slice (some ⟨ge, 0, none⟩) 11 c1) (.slice B1 L.length c2) es ss L) := Lib.hid (HD.out.under ((Below.refl _ _).alloc (Nat.le_refl _) _))
    clear hp HD
    go_wp2_with fail
    refine HP.out.mono ?_
    rintro e w6 ⟨y, hy, rfl, hs, hg⟩
    have HB := Lib.hid (HD2.out.step hs hg)
    clear hs hg HD2 HP
    obtain ⟨⟨yo, p0⟩, g0⟩ := HB.out.at hk (f := 0) (by decide)
    rw [Nat.add_zero] at p0 g0
    go_upto_region 23 with fail
    obtain ⟨es', he', HB'⟩ := HB.out.ent hk (f := 0) (by decide) hy
    rw [Nat.add_zero] at HB'
    have HB' := Lib.hid HB'
    generalize w6.setCell ⟨ge, k * 5, none⟩ (.int .i64 y) = Y6 at HB' ⊢
    clear p0 g0 HB
    have HB := HB'
    clear HB'
    obtain ⟨q0, q1, q2⟩ := row3 HB.out.2.2.1
    obtain ⟨z0, z1, z2⟩ := row3 HB.out.2.2.2.1
    have f0 := HB.out.2.2.2.1.thaw 0
    have f1 := HB.out.2.2.2.1.thaw 1
    have f2 := HB.out.2.2.2.1.thaw 2
    have HL := Lib.hid (HB.out.last (by omega) (by omega) HCL.out)
    have HR := Lib.hid (set3_row (.int .i64 ver) (.slice (some ⟨ge, 0, none⟩) 11 c1) (.slice B1 L.length c2) HB.out.2.2.2.1)
    clear HB
    go_wp2_with fail
    obtain ⟨es9, ss9, L9, l1, l2, l3, l4, l5, l6⟩ := HL.out
    exact bodyPost_ret (v := .agg #[.int .i64 ver, (.slice (some ⟨ge, 0, none⟩) 11 c1), (.slice B1 L.length c2)]) (by obtain ⟨z0, z1, z2⟩ := row3 HR.out; simp [results, Tryd.results13, z0, z1, z2, go_sem]) rfl ⟨_, _, _, es9, ss9, L9, rfl, l1, l2, l3, l4, l5, l6⟩
  by_cases cx5 : x = 5
  · subst cx5
    have hp := pick_const HD.out.1 [0, 1, 11, 12] (by decide) (by decide) (fun y hy => by rcases (by simpa using hy : y = 0 ∨ y = 1 ∨ y = 11 ∨ y = 12) with rfl | rfl | rfl | rfl <;> exact ⟨by omega, by omega⟩)
    have HP : Hid (Calls Tryd.prog 30 #[.pointer (some ⟨b, 0, none⟩), .slice (some ⟨w5.heap.size, 0, none⟩) 4 4] (w5.alloc (.cells #[.int .i64 (0), .int .i64 (1), .int .i64 (11), .int .i64 (12)] 3)) (Reads I64 W b (w5.alloc (.cells #[.int .i64 (0), .int .i64 (1), .int .i64 (11), .int .i64 (12)] 3)))) := Lib.hid hp
    have HD2 : Hid (BtS W b w (w5.alloc (.cells #[.int .i64 (0), .int .i64 (1), .int .i64 (11), .int .i64 (12)] 3)) ver (.slice (some ⟨ge, 0, none⟩) 11 c1) (.slice B1 L.length c2) es ss L) := Lib.hid (HD.out.under ((Below.refl _ _).alloc (Nat.le_refl _) _))
    clear hp HD
    go_wp2_with fail
    refine HP.out.mono ?_
    rintro e w6 ⟨y, hy, rfl, hs, hg⟩
    have HB := Lib.hid (HD2.out.step hs hg)
    clear hs hg HD2 HP
    obtain ⟨⟨yo, p0⟩, g0⟩ := HB.out.at hk (f := 1) (by decide)
  
    go_upto_region 23 with fail
    obtain ⟨es', he', HB'⟩ := HB.out.ent hk (f := 1) (by decide) hy
  
    have HB' := Lib.hid HB'
    generalize w6.setCell ⟨ge, k * 5 + 1, none⟩ (.int .i64 y) = Y6 at HB' ⊢
    clear p0 g0 HB
    have HB := HB'
    clear HB'
    obtain ⟨q0, q1, q2⟩ := row3 HB.out.2.2.1
    obtain ⟨z0, z1, z2⟩ := row3 HB.out.2.2.2.1
    have f0 := HB.out.2.2.2.1.thaw 0
    have f1 := HB.out.2.2.2.1.thaw 1
    have f2 := HB.out.2.2.2.1.thaw 2
    have HL := Lib.hid (HB.out.last (by omega) (by omega) HCL.out)
    have HR := Lib.hid (set3_row (.int .i64 ver) (.slice (some ⟨ge, 0, none⟩) 11 c1) (.slice B1 L.length c2) HB.out.2.2.2.1)
    clear HB
    go_wp2_with fail
    obtain ⟨es9, ss9, L9, l1, l2, l3, l4, l5, l6⟩ := HL.out
    exact bodyPost_ret (v := .agg #[.int .i64 ver, (.slice (some ⟨ge, 0, none⟩) 11 c1), (.slice B1 L.length c2)]) (by obtain ⟨z0, z1, z2⟩ := row3 HR.out; simp [results, Tryd.results13, z0, z1, z2, go_sem]) rfl ⟨_, _, _, es9, ss9, L9, rfl, l1, l2, l3, l4, l5, l6⟩
  by_cases cx6 : x = 6
  · subst cx6
    go_upto_region 20 with fail
    refine wp_region_held_drew (S := fun _ : World => True) (by kernel_rfl) trivial (fun hHeld => ?_)
    have HB := Lib.hid HD.out.drew
    clear HD
    generalize w5.drew = X5 at HB ⊢
    refine wpAnyH_take (i := 0) (v := ?_) rfl (by kernel_rfl) (by kernel_rfl) (by kernel_rfl) (fun _ _ _ h => h) (Or.inl ⟨by rfl, ?_⟩) (by assumption) ?_
    case refine_2 => (intro wx hSx; (try dsimp only at hSx); go_simp; first | done | with_reducible rfl)
    ((try simp only [Act.put]); (try simp only [List.setIfInBounds_toArray]); (try simp only [List.set_cons_succ]); (try simp only [List.set_cons_zero]))
    refine wpAnyH_take (i := 2) (v := ?_) rfl (by kernel_rfl) (by kernel_rfl) (by kernel_rfl) (fun _ _ _ h => h) (Or.inl ⟨by rfl, ?_⟩) (by assumption) ?_
    case refine_2 => (intro wx hSx; (try dsimp only at hSx); go_simp; first | done | with_reducible rfl)
    ((try simp only [Act.put]); (try simp only [List.setIfInBounds_toArray]); (try simp only [List.set_cons_succ]); (try simp only [List.set_cons_zero]))
    refine wpAnyH_take (i := 5) (v := ?_) rfl (by kernel_rfl) (by kernel_rfl) (by kernel_rfl) (fun _ _ _ h => h) (Or.inl ⟨by rfl, ?_⟩) (by assumption) ?_
    case refine_2 => (intro wx hSx; (try dsimp only at hSx); go_simp; first | done | with_reducible rfl)
    ((try simp only [Act.put]); (try simp only [List.setIfInBounds_toArray]); (try simp only [List.set_cons_succ]); (try simp only [List.set_cons_zero]))
    refine wpAnyH_ready (rs := [1, 3]) (by kernel_rfl) (by simp) ?_
    refine AllReadyH.cons (o := ⟨some 89, _, _, _, _, none⟩) rfl (fun Kx hK => ?_) (AllReadyH.cons (o := ⟨some 91, _, _, _, _, none⟩) rfl (fun Kx hK => ?_) AllReadyH.nil)
    · have P1 := (row3 HB.out.2.2.1).2.2
      go_simp
      refine hK.out _ _ trivial (fun _ => ?_)
      clear hK Kx P1
      ((try simp only [Act.put]); (try simp only [List.setIfInBounds_toArray]); (try simp only [List.set_cons_succ]); (try simp only [List.set_cons_zero]))
      refine wpAnyH_ready (rs := [3]) (by kernel_rfl) (by simp) ?_
      refine AllReadyH.cons (o := ⟨some 91, _, _, _, _, none⟩) rfl (fun Kx hK => ?_) AllReadyH.nil
      go_simp
      have hp := pick_const HB.out.1 [9999, 10000, 19999, 20000] (by decide) (by decide) (fun y hy => by rcases (by simpa using hy : y = 9999 ∨ y = 10000 ∨ y = 19999 ∨ y = 20000) with rfl | rfl | rfl | rfl <;> exact ⟨by omega, by omega⟩)
      have HP : Hid (Calls Tryd.prog 30 #[.pointer (some ⟨b, 0, none⟩), .slice (some ⟨X5.heap.size, 0, none⟩) 4 4] (X5.alloc (.cells #[.int .i64 9999, .int .i64 10000, .int .i64 19999, .int .i64 20000] 3)) (Reads I64 W b (X5.alloc (.cells #[.int .i64 9999, .int .i64 10000, .int .i64 19999, .int .i64 20000] 3)))) := Lib.hid hp
      have HD2 : Hid (BtS W b w (X5.alloc (.cells #[.int .i64 9999, .int .i64 10000, .int .i64 19999, .int .i64 20000] 3)) ver (.slice (some ⟨ge, 0, none⟩) 11 c1) (.slice B1 L.length c2) es ss L) := Lib.hid (HB.out.under ((Below.refl _ _).alloc (Nat.le_refl _) _))
      clear hp HB
      refine hK.out _ _ trivial (fun _ => ?_)
      clear hK Kx
      ((try simp only [Act.put]); (try simp only [List.setIfInBounds_toArray]); (try simp only [List.set_cons_succ]); (try simp only [List.set_cons_zero]))
      refine wpAnyH_ready (rs := [4]) (by kernel_rfl) (by simp) ?_
      refine AllReadyH.cons (o := ⟨some 92, _, _, _, _, none⟩) rfl (fun Kx hK => ?_) AllReadyH.nil
      go_simp
      refine HP.out.mono ?_
      rintro e w6 ⟨y, hy, rfl, hs, hg⟩
      have HB := Lib.hid (HD2.out.step hs hg)
      have HY := Lib.hid hy
      clear hs hg HD2 HP hy
      go_simp
      refine hK.out _ _ trivial (fun _ => ?_)
      clear hK Kx
      ((try simp only [Act.put]); (try simp only [List.setIfInBounds_toArray]); (try simp only [List.set_cons_succ]); (try simp only [List.set_cons_zero]))
      refine wpAnyH_ready (rs := [6]) (by kernel_rfl) (by simp) ?_
      refine AllReadyH.cons (o := ⟨some 94, _, _, _, _, none⟩) rfl (fun Kx hK => ?_) AllReadyH.nil
      go_simp
      refine (codes_any W b _ 3 HB.out.1 (by decide)).mono ?_
      rintro e w7 ⟨vq, C, rfl, hnm, hCl, hs, hg⟩
      have HD := Lib.hid (HB.out.step hs hg)
      have HCl := Lib.hid hCl
      have HN := Lib.hid hnm
      clear hs hg HB hCl
      obtain ⟨Ac, cc, ec, -⟩ := id hnm.1
      subst ec
      clear hnm
      go_simp
      refine hK.out _ _ trivial (fun _ => ?_)
      clear hK Kx
      ((try simp only [Act.put]); (try simp only [List.setIfInBounds_toArray]); (try simp only [List.set_cons_succ]); (try simp only [List.set_cons_zero]))
      refine wpAnyH_take (i := 7) (v := ?_) rfl (by kernel_rfl) (by kernel_rfl) (by kernel_rfl) (fun _ _ _ h => h) (Or.inl ⟨by rfl, ?_⟩) (by assumption) ?_
      case refine_2 => (intro wx hSx; (try dsimp only at hSx); go_simp; first | done | with_reducible rfl)
      ((try simp only [Act.put]); (try simp only [List.setIfInBounds_toArray]); (try simp only [List.set_cons_succ]); (try simp only [List.set_cons_zero]))
      refine wpAnyH_ready (rs := [8]) (by kernel_rfl) (by simp) ?_
      refine AllReadyH.cons (o := ⟨some 96, _, _, _, _, none⟩) rfl (fun Kx hK => ?_) AllReadyH.nil
      go_simp
      have hx := (Below.refl w7.heap.size w7).alloc (Nat.le_refl _) (.cells #[.int .i64 y, .slice Ac C.length cc] 58)
      have N1 := Lib.hid (two_at (Row.new w7 #[.int .i64 y, .slice Ac C.length cc] 58))
      have H9 := Lib.hid (⟨HD.out.under hx, HN.out.under hx⟩ : BtS W b w (w7.alloc (.cells #[.int .i64 y, .slice Ac C.length cc] 58)) ver (.slice (some ⟨ge, 0, none⟩) 11 c1) (.slice B1 L.length c2) es ss L ∧ NmO b (w7.alloc (.cells #[.int .i64 y, .slice Ac C.length cc] 58)) (.slice Ac C.length cc) C)
      clear hx HD HN
      refine hK.out _ _ trivial (fun _ => ?_)
      clear hK Kx
      ((try simp only [Act.put]); (try simp only [List.setIfInBounds_toArray]); (try simp only [List.set_cons_succ]); (try simp only [List.set_cons_zero]))
      refine wpAnyH_ready (rs := [9]) (by kernel_rfl) (by simp) ?_
      refine AllReadyH.cons (o := ⟨some 97, _, _, _, _, none⟩) rfl (fun Kx hK => ?_) AllReadyH.nil
      refine step_append_own rfl (.tmp 89) (.tmp 96) 23 rfl w.heap.size 58 m0 _ 2 32 Tryd.underlying23 hm hx0 hx1 hx2 rfl (by decide) (.slice B1 L.length c2) L.length (rowS L) rfl H9.out.1.2.2.2.2.2.2.2.1 ⟨w7.heap.size, 0, none⟩ 1 1 [.int .i64 y, .slice Ac C.length cc] rfl rfl N1.out (fun z hz => by simp only [List.mem_cons, List.not_mem_nil, or_false] at hz; rcases hz with rfl | rfl <;> rfl) (by unfold maxLen; omega) (by omega) H9.out.1.2.1.size ?_
      intro v' w8 ho' hg9
      obtain ⟨A', cap', ev⟩ : ∃ A' cap', v' = .slice A' (L.length + 1) cap' := sl_of ho'
      subst ev
      have HA := Lib.hid (H9.out.1.appS hWw HY.out H9.out.2 ho' hg9)
      refine hK.out _ _ trivial (fun _ => ?_)
      clear hK Kx hg9 ho' H9 N1
      ((try simp only [Act.put]); (try simp only [List.setIfInBounds_toArray]); (try simp only [List.set_cons_succ]); (try simp only [List.set_cons_zero]))
      refine wpAnyH_take (i := 10) (v := ?_) rfl (by kernel_rfl) (by kernel_rfl) (by kernel_rfl) (fun _ _ _ h => h) (Or.inl ⟨by rfl, ?_⟩) (by assumption) ?_
      case refine_2 => (intro wx hSx; (try dsimp only at hSx); go_simp; first | done | with_reducible rfl)
      ((try simp only [Act.put]); (try simp only [List.setIfInBounds_toArray]); (try simp only [List.set_cons_succ]); (try simp only [List.set_cons_zero]))
      have F2 := HA.out.1.thaw 2
      have P2 := (row3 HA.out.1).2.2
      refine wpAnyH_ready (rs := [11]) (by kernel_rfl) (by simp) ?_
      refine AllReadyH.cons (o := ⟨none, _, _, _, _, none⟩) rfl (fun Kx hK => ?_) AllReadyH.nil
      go_simp
      clear F2 P2
      have HB := Lib.hid HA.out.2
      clear HA
      refine hK.out _ _ trivial (fun _ => ?_)
      clear hK Kx
      ((try simp only [Act.put]); (try simp only [List.setIfInBounds_toArray]); (try simp only [List.set_cons_succ]); (try simp only [List.set_cons_zero]))
      refine wpAnyH_done (by kernel_rfl) ?_ _
      generalize w8.setCell ⟨w.heap.size, 2, none⟩ (.slice A' (L.length + 1) cap') = Y6 at HB ⊢
      go_upto_region 23 with fail
      obtain ⟨q0, q1, q2⟩ := row3 HB.out.2.2.1
      obtain ⟨z0, z1, z2⟩ := row3 HB.out.2.2.2.1
      have f0 := HB.out.2.2.2.1.thaw 0
      have f1 := HB.out.2.2.2.1.thaw 1
      have f2 := HB.out.2.2.2.1.thaw 2
      have HL := Lib.hid (HB.out.last (by omega) (by simp only [List.length_append, List.length_singleton]; omega) (fun s hs => (List.mem_append.1 hs).elim (HCL.out s) (fun q => by rw [List.mem_singleton.1 q]; exact HCl.out)))
      have HR := Lib.hid (set3_row (.int .i64 ver) (.slice (some ⟨ge, 0, none⟩) 11 c1) (.slice A' (L.length + 1) cap') HB.out.2.2.2.1)
      clear HB
      go_wp2_with fail
      obtain ⟨es9, ss9, L9, l1, l2, l3, l4, l5, l6⟩ := HL.out
      exact bodyPost_ret (v := .agg #[.int .i64 ver, (.slice (some ⟨ge, 0, none⟩) 11 c1), (.slice A' (L.length + 1) cap')]) (by obtain ⟨z0, z1, z2⟩ := row3 HR.out; simp [results, Tryd.results13, z0, z1, z2, go_sem]) rfl ⟨_, _, _, es9, ss9, L9, rfl, l1, l2, l3, l4, l5, l6⟩
    · go_simp
      have hp := pick_const HB.out.1 [9999, 10000, 19999, 20000] (by decide) (by decide) (fun y hy => by rcases (by simpa using hy : y = 9999 ∨ y = 10000 ∨ y = 19999 ∨ y = 20000) with rfl | rfl | rfl | rfl <;> exact ⟨by omega, by omega⟩)
      have HP : Hid (Calls Tryd.prog 30 #[.pointer (some ⟨b, 0, none⟩), .slice (some ⟨X5.heap.size, 0, none⟩) 4 4] (X5.alloc (.cells #[.int .i64 9999, .int .i64 10000, .int .i64 19999, .int .i64 20000] 3)) (Reads I64 W b (X5.alloc (.cells #[.int .i64 9999, .int .i64 10000, .int .i64 19999, .int .i64 20000] 3)))) := Lib.hid hp
      have HD2 : Hid (BtS W b w (X5.alloc (.cells #[.int .i64 9999, .int .i64 10000, .int .i64 19999, .int .i64 20000] 3)) ver (.slice (some ⟨ge, 0, none⟩) 11 c1) (.slice B1 L.length c2) es ss L) := Lib.hid (HB.out.under ((Below.refl _ _).alloc (Nat.le_refl _) _))
      clear hp HB
      refine hK.out _ _ trivial (fun _ => ?_)
      clear hK Kx
      ((try simp only [Act.put]); (try simp only [List.setIfInBounds_toArray]); (try simp only [List.set_cons_succ]); (try simp only [List.set_cons_zero]))
      refine wpAnyH_ready (rs := [1, 4]) (by kernel_rfl) (by simp) ?_
      refine AllReadyH.cons (o := ⟨some 89, _, _, _, _, none⟩) rfl (fun Kx hK => ?_) (AllReadyH.cons (o := ⟨some 92, _, _, _, _, none⟩) rfl (fun Kx hK => ?_) AllReadyH.nil)
      · have P1 := (row3 HD2.out.2.2.1).2.2
        go_simp
        refine hK.out _ _ trivial (fun _ => ?_)
        clear hK Kx P1
        ((try simp only [Act.put]); (try simp only [List.setIfInBounds_toArray]); (try simp only [List.set_cons_succ]); (try simp only [List.set_cons_zero]))
        refine wpAnyH_ready (rs := [4]) (by kernel_rfl) (by simp) ?_
        refine AllReadyH.cons (o := ⟨some 92, _, _, _, _, none⟩) rfl (fun Kx hK => ?_) AllReadyH.nil
        go_simp
        refine HP.out.mono ?_
        rintro e w6 ⟨y, hy, rfl, hs, hg⟩
        have HB := Lib.hid (HD2.out.step hs hg)
        have HY := Lib.hid hy
        clear hs hg HD2 HP hy
        go_simp
        refine hK.out _ _ trivial (fun _ => ?_)
        clear hK Kx
        ((try simp only [Act.put]); (try simp only [List.setIfInBounds_toArray]); (try simp only [List.set_cons_succ]); (try simp only [List.set_cons_zero]))
        refine wpAnyH_ready (rs := [6]) (by kernel_rfl) (by simp) ?_
        refine AllReadyH.cons (o := ⟨some 94, _, _, _, _, none⟩) rfl (fun Kx hK => ?_) AllReadyH.nil
        go_simp
        refine (codes_any W b _ 3 HB.out.1 (by decide)).mono ?_
        rintro e w7 ⟨vq, C, rfl, hnm, hCl, hs, hg⟩
        have HD := Lib.hid (HB.out.step hs hg)
        have HCl := Lib.hid hCl
        have HN := Lib.hid hnm
        clear hs hg HB hCl
        obtain ⟨Ac, cc, ec, -⟩ := id hnm.1
        subst ec
        clear hnm
        go_simp
        refine hK.out _ _ trivial (fun _ => ?_)
        clear hK Kx
        ((try simp only [Act.put]); (try simp only [List.setIfInBounds_toArray]); (try simp only [List.set_cons_succ]); (try simp only [List.set_cons_zero]))
        refine wpAnyH_take (i := 7) (v := ?_) rfl (by kernel_rfl) (by kernel_rfl) (by kernel_rfl) (fun _ _ _ h => h) (Or.inl ⟨by rfl, ?_⟩) (by assumption) ?_
        case refine_2 => (intro wx hSx; (try dsimp only at hSx); go_simp; first | done | with_reducible rfl)
        ((try simp only [Act.put]); (try simp only [List.setIfInBounds_toArray]); (try simp only [List.set_cons_succ]); (try simp only [List.set_cons_zero]))
        refine wpAnyH_ready (rs := [8]) (by kernel_rfl) (by simp) ?_
        refine AllReadyH.cons (o := ⟨some 96, _, _, _, _, none⟩) rfl (fun Kx hK => ?_) AllReadyH.nil
        go_simp
        have hx := (Below.refl w7.heap.size w7).alloc (Nat.le_refl _) (.cells #[.int .i64 y, .slice Ac C.length cc] 58)
        have N1 := Lib.hid (two_at (Row.new w7 #[.int .i64 y, .slice Ac C.length cc] 58))
        have H9 := Lib.hid (⟨HD.out.under hx, HN.out.under hx⟩ : BtS W b w (w7.alloc (.cells #[.int .i64 y, .slice Ac C.length cc] 58)) ver (.slice (some ⟨ge, 0, none⟩) 11 c1) (.slice B1 L.length c2) es ss L ∧ NmO b (w7.alloc (.cells #[.int .i64 y, .slice Ac C.length cc] 58)) (.slice Ac C.length cc) C)
        clear hx HD HN
        refine hK.out _ _ trivial (fun _ => ?_)
        clear hK Kx
        ((try simp only [Act.put]); (try simp only [List.setIfInBounds_toArray]); (try simp only [List.set_cons_succ]); (try simp only [List.set_cons_zero]))
        refine wpAnyH_ready (rs := [9]) (by kernel_rfl) (by simp) ?_
        refine AllReadyH.cons (o := ⟨some 97, _, _, _, _, none⟩) rfl (fun Kx hK => ?_) AllReadyH.nil
        refine step_append_own rfl (.tmp 89) (.tmp 96) 23 rfl w.heap.size 58 m0 _ 2 32 Tryd.underlying23 hm hx0 hx1 hx2 rfl (by decide) (.slice B1 L.length c2) L.length (rowS L) rfl H9.out.1.2.2.2.2.2.2.2.1 ⟨w7.heap.size, 0, none⟩ 1 1 [.int .i64 y, .slice Ac C.length cc] rfl rfl N1.out (fun z hz => by simp only [List.mem_cons, List.not_mem_nil, or_false] at hz; rcases hz with rfl | rfl <;> rfl) (by unfold maxLen; omega) (by omega) H9.out.1.2.1.size ?_
        intro v' w8 ho' hg9
        obtain ⟨A', cap', ev⟩ : ∃ A' cap', v' = .slice A' (L.length + 1) cap' := sl_of ho'
        subst ev
        have HA := Lib.hid (H9.out.1.appS hWw HY.out H9.out.2 ho' hg9)
        refine hK.out _ _ trivial (fun _ => ?_)
        clear hK Kx hg9 ho' H9 N1
        ((try simp only [Act.put]); (try simp only [List.setIfInBounds_toArray]); (try simp only [List.set_cons_succ]); (try simp only [List.set_cons_zero]))
        refine wpAnyH_take (i := 10) (v := ?_) rfl (by kernel_rfl) (by kernel_rfl) (by kernel_rfl) (fun _ _ _ h => h) (Or.inl ⟨by rfl, ?_⟩) (by assumption) ?_
        case refine_2 => (intro wx hSx; (try dsimp only at hSx); go_simp; first | done | with_reducible rfl)
        ((try simp only [Act.put]); (try simp only [List.setIfInBounds_toArray]); (try simp only [List.set_cons_succ]); (try simp only [List.set_cons_zero]))
        have F2 := HA.out.1.thaw 2
        have P2 := (row3 HA.out.1).2.2
        refine wpAnyH_ready (rs := [11]) (by kernel_rfl) (by simp) ?_
        refine AllReadyH.cons (o := ⟨none, _, _, _, _, none⟩) rfl (fun Kx hK => ?_) AllReadyH.nil
        go_simp
        clear F2 P2
        have HB := Lib.hid HA.out.2
        clear HA
        refine hK.out _ _ trivial (fun _ => ?_)
        clear hK Kx
        ((try simp only [Act.put]); (try simp only [List.setIfInBounds_toArray]); (try simp only [List.set_cons_succ]); (try simp only [List.set_cons_zero]))
        refine wpAnyH_done (by kernel_rfl) ?_ _
        generalize w8.setCell ⟨w.heap.size, 2, none⟩ (.slice A' (L.length + 1) cap') = Y6 at HB ⊢
        go_upto_region 23 with fail
        obtain ⟨q0, q1, q2⟩ := row3 HB.out.2.2.1
        obtain ⟨z0, z1, z2⟩ := row3 HB.out.2.2.2.1
        have f0 := HB.out.2.2.2.1.thaw 0
        have f1 := HB.out.2.2.2.1.thaw 1
        have f2 := HB.out.2.2.2.1.thaw 2
        have HL := Lib.hid (HB.out.last (by omega) (by simp only [List.length_append, List.length_singleton]; omega) (fun s hs => (List.mem_append.1 hs).elim (HCL.out s) (fun q => by rw [List.mem_singleton.1 q]; exact HCl.out)))
        have HR := Lib.hid (set3_row (.int .i64 ver) (.slice (some ⟨ge, 0, none⟩) 11 c1) (.slice A' (L.length + 1) cap') HB.out.2.2.2.1)
        clear HB
        go_wp2_with fail
        obtain ⟨es9, ss9, L9, l1, l2, l3, l4, l5, l6⟩ := HL.out
        exact bodyPost_ret (v := .agg #[.int .i64 ver, (.slice (some ⟨ge, 0, none⟩) 11 c1), (.slice A' (L.length + 1) cap')]) (by obtain ⟨z0, z1, z2⟩ := row3 HR.out; simp [results, Tryd.results13, z0, z1, z2, go_sem]) rfl ⟨_, _, _, es9, ss9, L9, rfl, l1, l2, l3, l4, l5, l6⟩
      · go_simp
        refine HP.out.mono ?_
        rintro e w6 ⟨y, hy, rfl, hs, hg⟩
        have HB := Lib.hid (HD2.out.step hs hg)
        have HY := Lib.hid hy
        clear hs hg HD2 HP hy
        go_simp
        refine hK.out _ _ trivial (fun _ => ?_)
        clear hK Kx
        ((try simp only [Act.put]); (try simp only [List.setIfInBounds_toArray]); (try simp only [List.set_cons_succ]); (try simp only [List.set_cons_zero]))
        refine wpAnyH_ready (rs := [1, 6]) (by kernel_rfl) (by simp) ?_
        refine AllReadyH.cons (o := ⟨some 89, _, _, _, _, none⟩) rfl (fun Kx hK => ?_) (AllReadyH.cons (o := ⟨some 94, _, _, _, _, none⟩) rfl (fun Kx hK => ?_) AllReadyH.nil)
        · have P1 := (row3 HB.out.2.2.1).2.2
          go_simp
          refine hK.out _ _ trivial (fun _ => ?_)
          clear hK Kx P1
          ((try simp only [Act.put]); (try simp only [List.setIfInBounds_toArray]); (try simp only [List.set_cons_succ]); (try simp only [List.set_cons_zero]))
          refine wpAnyH_ready (rs := [6]) (by kernel_rfl) (by simp) ?_
          refine AllReadyH.cons (o := ⟨some 94, _, _, _, _, none⟩) rfl (fun Kx hK => ?_) AllReadyH.nil
          go_simp
          refine (codes_any W b _ 3 HB.out.1 (by decide)).mono ?_
          rintro e w7 ⟨vq, C, rfl, hnm, hCl, hs, hg⟩
          have HD := Lib.hid (HB.out.step hs hg)
          have HCl := Lib.hid hCl
          have HN := Lib.hid hnm
          clear hs hg HB hCl
          obtain ⟨Ac, cc, ec, -⟩ := id hnm.1
          subst ec
          clear hnm
          go_simp
          refine hK.out _ _ trivial (fun _ => ?_)
          clear hK Kx
          ((try simp only [Act.put]); (try simp only [List.setIfInBounds_toArray]); (try simp only [List.set_cons_succ]); (try simp only [List.set_cons_zero]))
          refine wpAnyH_take (i := 7) (v := ?_) rfl (by kernel_rfl) (by kernel_rfl) (by kernel_rfl) (fun _ _ _ h => h) (Or.inl ⟨by rfl, ?_⟩) (by assumption) ?_
          case refine_2 => (intro wx hSx; (try dsimp only at hSx); go_simp; first | done | with_reducible rfl)
          ((try simp only [Act.put]); (try simp only [List.setIfInBounds_toArray]); (try simp only [List.set_cons_succ]); (try simp only [List.set_cons_zero]))
          refine wpAnyH_ready (rs := [8]) (by kernel_rfl) (by simp) ?_
          refine AllReadyH.cons (o := ⟨some 96, _, _, _, _, none⟩) rfl (fun Kx hK => ?_) AllReadyH.nil
          go_simp
          have hx := (Below.refl w7.heap.size w7).alloc (Nat.le_refl _) (.cells #[.int .i64 y, .slice Ac C.length cc] 58)
          have N1 := Lib.hid (two_at (Row.new w7 #[.int .i64 y, .slice Ac C.length cc] 58))
          have H9 := Lib.hid (⟨HD.out.under hx, HN.out.under hx⟩ : BtS W b w (w7.alloc (.cells #[.int .i64 y, .slice Ac C.length cc] 58)) ver (.slice (some ⟨ge, 0, none⟩) 11 c1) (.slice B1 L.length c2) es ss L ∧ NmO b (w7.alloc (.cells #[.int .i64 y, .slice Ac C.length cc] 58)) (.slice Ac C.length cc) C)
          clear hx HD HN
          refine hK.out _ _ trivial (fun _ => ?_)
          clear hK Kx
          ((try simp only [Act.put]); (try simp only [List.setIfInBounds_toArray]); (try simp only [List.set_cons_succ]); (try simp only [List.set_cons_zero]))
          refine wpAnyH_ready (rs := [9]) (by kernel_rfl) (by simp) ?_
          refine AllReadyH.cons (o := ⟨some 97, _, _, _, _, none⟩) rfl (fun Kx hK => ?_) AllReadyH.nil
          refine step_append_own rfl (.tmp 89) (.tmp 96) 23 rfl w.heap.size 58 m0 _ 2 32 Tryd.underlying23 hm hx0 hx1 hx2 rfl (by decide) (.slice B1 L.length c2) L.length (rowS L) rfl H9.out.1.2.2.2.2.2.2.2.1 ⟨w7.heap.size, 0, none⟩ 1 1 [.int .i64 y, .slice Ac C.length cc] rfl rfl N1.out (fun z hz => by simp only [List.mem_cons, List.not_mem_nil, or_false] at hz; rcases hz with rfl | rfl <;> rfl) (by unfold maxLen; omega) (by omega) H9.out.1.2.1.size ?_
          intro v' w8 ho' hg9
          obtain ⟨A', cap', ev⟩ : ∃ A' cap', v' = .slice A' (L.length + 1) cap' := sl_of ho'
          subst ev
          have HA := Lib.hid (H9.out.1.appS hWw HY.out H9.out.2 ho' hg9)
          refine hK.out _ _ trivial (fun _ => ?_)
          clear hK Kx hg9 ho' H9 N1
          ((try simp only [Act.put]); (try simp only [List.setIfInBounds_toArray]); (try simp only [List.set_cons_succ]); (try simp only [List.set_cons_zero]))
          refine wpAnyH_take (i := 10) (v := ?_) rfl (by kernel_rfl) (by kernel_rfl) (by kernel_rfl) (fun _ _ _ h => h) (Or.inl ⟨by rfl, ?_⟩) (by assumption) ?_
          case refine_2 => (intro wx hSx; (try dsimp only at hSx); go_simp; first | done | with_reducible rfl)
          ((try simp only [Act.put]); (try simp only [List.setIfInBounds_toArray]); (try simp only [List.set_cons_succ]); (try simp only [List.set_cons_zero]))
          have F2 := HA.out.1.thaw 2
          have P2 := (row3 HA.out.1).2.2
          refine wpAnyH_ready (rs := [11]) (by kernel_rfl) (by simp) ?_
          refine AllReadyH.cons (o := ⟨none, _, _, _, _, none⟩) rfl (fun Kx hK => ?_) AllReadyH.nil
          go_simp
          clear F2 P2
          have HB := Lib.hid HA.out.2
          clear HA
          refine hK.out _ _ trivial (fun _ => ?_)
          clear hK Kx
          ((try simp only [Act.put]); (try simp only [List.setIfInBounds_toArray]); (try simp only [List.set_cons_succ]); (try simp only [List.set_cons_zero]))
          refine wpAnyH_done (by kernel_rfl) ?_ _
          generalize w8.setCell ⟨w.heap.size, 2, none⟩ (.slice A' (L.length + 1) cap') = Y6 at HB ⊢
          go_upto_region 23 with fail
          obtain ⟨q0, q1, q2⟩ := row3 HB.out.2.2.1
          obtain ⟨z0, z1, z2⟩ := row3 HB.out.2.2.2.1
          have f0 := HB.out.2.2.2.1.thaw 0
          have f1 := HB.out.2.2.2.1.thaw 1
          have f2 := HB.out.2.2.2.1.thaw 2
          have HL := Lib.hid (HB.out.last (by omega) (by simp only [List.length_append, List.length_singleton]; omega) (fun s hs => (List.mem_append.1 hs).elim (HCL.out s) (fun q => by rw [List.mem_singleton.1 q]; exact HCl.out)))
          have HR := Lib.hid (set3_row (.int .i64 ver) (.slice (some ⟨ge, 0, none⟩) 11 c1) (.slice A' (L.length + 1) cap') HB.out.2.2.2.1)
          clear HB
          go_wp2_with fail
          obtain ⟨es9, ss9, L9, l1, l2, l3, l4, l5, l6⟩ := HL.out
          exact bodyPost_ret (v := .agg #[.int .i64 ver, (.slice (some ⟨ge, 0, none⟩) 11 c1), (.slice A' (L.length + 1) cap')]) (by obtain ⟨z0, z1, z2⟩ := row3 HR.out; simp [results, Tryd.results13, z0, z1, z2, go_sem]) rfl ⟨_, _, _, es9, ss9, L9, rfl, l1, l2, l3, l4, l5, l6⟩
        · go_simp
          refine (codes_any W b _ 3 HB.out.1 (by decide)).mono ?_
          rintro e w7 ⟨vq, C, rfl, hnm, hCl, hs, hg⟩
          have HD := Lib.hid (HB.out.step hs hg)
          have HCl := Lib.hid hCl
          have HN := Lib.hid hnm
          clear hs hg HB hCl
          obtain ⟨Ac, cc, ec, -⟩ := id hnm.1
          subst ec
          clear hnm
          go_simp
          refine hK.out _ _ trivial (fun _ => ?_)
          clear hK Kx
          ((try simp only [Act.put]); (try simp only [List.setIfInBounds_toArray]); (try simp only [List.set_cons_succ]); (try simp only [List.set_cons_zero]))
          refine wpAnyH_take (i := 7) (v := ?_) rfl (by kernel_rfl) (by kernel_rfl) (by kernel_rfl) (fun _ _ _ h => h) (Or.inl ⟨by rfl, ?_⟩) (by assumption) ?_
          case refine_2 => (intro wx hSx; (try dsimp only at hSx); go_simp; first | done | with_reducible rfl)
          ((try simp only [Act.put]); (try simp only [List.setIfInBounds_toArray]); (try simp only [List.set_cons_succ]); (try simp only [List.set_cons_zero]))
          refine wpAnyH_ready (rs := [1, 8]) (by kernel_rfl) (by simp) ?_
          refine AllReadyH.cons (o := ⟨some 89, _, _, _, _, none⟩) rfl (fun Kx hK => ?_) (AllReadyH.cons (o := ⟨some 96, _, _, _, _, none⟩) rfl (fun Kx hK => ?_) AllReadyH.nil)
          · have P1 := (row3 HD.out.2.2.1).2.2
            go_simp
            refine hK.out _ _ trivial (fun _ => ?_)
            clear hK Kx P1
            ((try simp only [Act.put]); (try simp only [List.setIfInBounds_toArray]); (try simp only [List.set_cons_succ]); (try simp only [List.set_cons_zero]))
            refine wpAnyH_ready (rs := [8]) (by kernel_rfl) (by simp) ?_
            refine AllReadyH.cons (o := ⟨some 96, _, _, _, _, none⟩) rfl (fun Kx hK => ?_) AllReadyH.nil
            go_simp
            have hx := (Below.refl w7.heap.size w7).alloc (Nat.le_refl _) (.cells #[.int .i64 y, .slice Ac C.length cc] 58)
            have N1 := Lib.hid (two_at (Row.new w7 #[.int .i64 y, .slice Ac C.length cc] 58))
            have H9 := Lib.hid (⟨HD.out.under hx, HN.out.under hx⟩ : BtS W b w (w7.alloc (.cells #[.int .i64 y, .slice Ac C.length cc] 58)) ver (.slice (some ⟨ge, 0, none⟩) 11 c1) (.slice B1 L.length c2) es ss L ∧ NmO b (w7.alloc (.cells #[.int .i64 y, .slice Ac C.length cc] 58)) (.slice Ac C.length cc) C)
            clear hx HD HN
            refine hK.out _ _ trivial (fun _ => ?_)
            clear hK Kx
            ((try simp only [Act.put]); (try simp only [List.setIfInBounds_toArray]); (try simp only [List.set_cons_succ]); (try simp only [List.set_cons_zero]))
            refine wpAnyH_ready (rs := [9]) (by kernel_rfl) (by simp) ?_
            refine AllReadyH.cons (o := ⟨some 97, _, _, _, _, none⟩) rfl (fun Kx hK => ?_) AllReadyH.nil
            refine step_append_own rfl (.tmp 89) (.tmp 96) 23 rfl w.heap.size 58 m0 _ 2 32 Tryd.underlying23 hm hx0 hx1 hx2 rfl (by decide) (.slice B1 L.length c2) L.length (rowS L) rfl H9.out.1.2.2.2.2.2.2.2.1 ⟨w7.heap.size, 0, none⟩ 1 1 [.int .i64 y, .slice Ac C.length cc] rfl rfl N1.out (fun z hz => by simp only [List.mem_cons, List.not_mem_nil, or_false] at hz; rcases hz with rfl | rfl <;> rfl) (by unfold maxLen; omega) (by omega) H9.out.1.2.1.size ?_
            intro v' w8 ho' hg9
            obtain ⟨A', cap', ev⟩ : ∃ A' cap', v' = .slice A' (L.length + 1) cap' := sl_of ho'
            subst ev
            have HA := Lib.hid (H9.out.1.appS hWw HY.out H9.out.2 ho' hg9)
            refine hK.out _ _ trivial (fun _ => ?_)
            clear hK Kx hg9 ho' H9 N1
            ((try simp only [Act.put]); (try simp only [List.setIfInBounds_toArray]); (try simp only [List.set_cons_succ]); (try simp only [List.set_cons_zero]))
            refine wpAnyH_take (i := 10) (v := ?_) rfl (by kernel_rfl) (by kernel_rfl) (by kernel_rfl) (fun _ _ _ h => h) (Or.inl ⟨by rfl, ?_⟩) (by assumption) ?_
            case refine_2 => (intro wx hSx; (try dsimp only at hSx); go_simp; first | done | with_reducible rfl)
            ((try simp only [Act.put]); (try simp only [List.setIfInBounds_toArray]); (try simp only [List.set_cons_succ]); (try simp only [List.set_cons_zero]))
            have F2 := HA.out.1.thaw 2
            have P2 := (row3 HA.out.1).2.2
            refine wpAnyH_ready (rs := [11]) (by kernel_rfl) (by simp) ?_
            refine AllReadyH.cons (o := ⟨none, _, _, _, _, none⟩) rfl (fun Kx hK => ?_) AllReadyH.nil
            go_simp
            clear F2 P2
            have HB := Lib.hid HA.out.2
            clear HA
            refine hK.out _ _ trivial (fun _ => ?_)
            clear hK Kx
            ((try simp only [Act.put]); (try simp only [List.setIfInBounds_toArray]); (try simp only [List.set_cons_succ]); (try simp only [List.set_cons_zero]))
            refine wpAnyH_done (by kernel_rfl) ?_ _
            generalize w8.setCell ⟨w.heap.size, 2, none⟩ (.slice A' (L.length + 1) cap') = Y6 at HB ⊢
            go_upto_region 23 with fail
            obtain ⟨q0, q1, q2⟩ := row3 HB.out.2.2.1
            obtain ⟨z0, z1, z2⟩ := row3 HB.out.2.2.2.1
            have f0 := HB.out.2.2.2.1.thaw 0
            have f1 := HB.out.2.2.2.1.thaw 1
            have f2 := HB.out.2.2.2.1.thaw 2
            have HL := Lib.hid (HB.out.last (by omega) (by simp only [List.length_append, List.length_singleton]; omega) (fun s hs => (List.mem_append.1 hs).elim (HCL.out s) (fun q => by rw [List.mem_singleton.1 q]; exact HCl.out)))
            have HR := Lib.hid (set3_row (.int .i64 ver) (.slice (some ⟨ge, 0, none⟩) 11 c1) (.slice A' (L.length + 1) cap') HB.out.2.2.2.1)
            clear HB
            go_wp2_with fail
            obtain ⟨es9, ss9, L9, l1, l2, l3, l4, l5, l6⟩ := HL.out
            exact bodyPost_ret (v := .agg #[.int .i64 ver, (.slice (some ⟨ge, 0, none⟩) 11 c1), (.slice A' (L.length + 1) cap')]) (by obtain ⟨z0, z1, z2⟩ := row3 HR.out; simp [results, Tryd.results13, z0, z1, z2, go_sem]) rfl ⟨_, _, _, es9, ss9, L9, rfl, l1, l2, l3, l4, l5, l6⟩
          · go_simp
            have hx := (Below.refl w7.heap.size w7).alloc (Nat.le_refl _) (.cells #[.int .i64 y, .slice Ac C.length cc] 58)
            have N1 := Lib.hid (two_at (Row.new w7 #[.int .i64 y, .slice Ac C.length cc] 58))
            have H9 := Lib.hid (⟨HD.out.under hx, HN.out.under hx⟩ : BtS W b w (w7.alloc (.cells #[.int .i64 y, .slice Ac C.length cc] 58)) ver (.slice (some ⟨ge, 0, none⟩) 11 c1) (.slice B1 L.length c2) es ss L ∧ NmO b (w7.alloc (.cells #[.int .i64 y, .slice Ac C.length cc] 58)) (.slice Ac C.length cc) C)
            clear hx HD HN
            refine hK.out _ _ trivial (fun _ => ?_)
            clear hK Kx
            ((try simp only [Act.put]); (try simp only [List.setIfInBounds_toArray]); (try simp only [List.set_cons_succ]); (try simp only [List.set_cons_zero]))
            refine wpAnyH_ready (rs := [1]) (by kernel_rfl) (by simp) ?_
            refine AllReadyH.cons (o := ⟨some 89, _, _, _, _, none⟩) rfl (fun Kx hK => ?_) AllReadyH.nil
            have P1 := (row3 H9.out.1.2.2.1).2.2
            go_simp
            refine hK.out _ _ trivial (fun _ => ?_)
            clear hK Kx P1
            ((try simp only [Act.put]); (try simp only [List.setIfInBounds_toArray]); (try simp only [List.set_cons_succ]); (try simp only [List.set_cons_zero]))
            refine wpAnyH_ready (rs := [9]) (by kernel_rfl) (by simp) ?_
            refine AllReadyH.cons (o := ⟨some 97, _, _, _, _, none⟩) rfl (fun Kx hK => ?_) AllReadyH.nil
            refine step_append_own rfl (.tmp 89) (.tmp 96) 23 rfl w.heap.size 58 m0 _ 2 32 Tryd.underlying23 hm hx0 hx1 hx2 rfl (by decide) (.slice B1 L.length c2) L.length (rowS L) rfl H9.out.1.2.2.2.2.2.2.2.1 ⟨w7.heap.size, 0, none⟩ 1 1 [.int .i64 y, .slice Ac C.length cc] rfl rfl N1.out (fun z hz => by simp only [List.mem_cons, List.not_mem_nil, or_false] at hz; rcases hz with rfl | rfl <;> rfl) (by unfold maxLen; omega) (by omega) H9.out.1.2.1.size ?_
            intro v' w8 ho' hg9
            obtain ⟨A', cap', ev⟩ : ∃ A' cap', v' = .slice A' (L.length + 1) cap' := sl_of ho'
            subst ev
            have HA := Lib.hid (H9.out.1.appS hWw HY.out H9.out.2 ho' hg9)
            refine hK.out _ _ trivial (fun _ => ?_)
            clear hK Kx hg9 ho' H9 N1
            ((try simp only [Act.put]); (try simp only [List.setIfInBounds_toArray]); (try simp only [List.set_cons_succ]); (try simp only [List.set_cons_zero]))
            refine wpAnyH_take (i := 10) (v := ?_) rfl (by kernel_rfl) (by kernel_rfl) (by kernel_rfl) (fun _ _ _ h => h) (Or.inl ⟨by rfl, ?_⟩) (by assumption) ?_
            case refine_2 => (intro wx hSx; (try dsimp only at hSx); go_simp; first | done | with_reducible rfl)
            ((try simp only [Act.put]); (try simp only [List.setIfInBounds_toArray]); (try simp only [List.set_cons_succ]); (try simp only [List.set_cons_zero]))
            have F2 := HA.out.1.thaw 2
            have P2 := (row3 HA.out.1).2.2
            refine wpAnyH_ready (rs := [11]) (by kernel_rfl) (by simp) ?_
            refine AllReadyH.cons (o := ⟨none, _, _, _, _, none⟩) rfl (fun Kx hK => ?_) AllReadyH.nil
            go_simp
            clear F2 P2
            have HB := Lib.hid HA.out.2
            clear HA
            refine hK.out _ _ trivial (fun _ => ?_)
            clear hK Kx
            ((try simp only [Act.put]); (try simp only [List.setIfInBounds_toArray]); (try simp only [List.set_cons_succ]); (try simp only [List.set_cons_zero]))
            refine wpAnyH_done (by kernel_rfl) ?_ _
            generalize w8.setCell ⟨w.heap.size, 2, none⟩ (.slice A' (L.length + 1) cap') = Y6 at HB ⊢
            go_upto_region 23 with fail
            obtain ⟨q0, q1, q2⟩ := row3 HB.out.2.2.1
            obtain ⟨z0, z1, z2⟩ := row3 HB.out.2.2.2.1
            have f0 := HB.out.2.2.2.1.thaw 0
            have f1 := HB.out.2.2.2.1.thaw 1
            have f2 := HB.out.2.2.2.1.thaw 2
            have HL := Lib.hid (HB.out.last (by omega) (by simp only [List.length_append, List.length_singleton]; omega) (fun s hs => (List.mem_append.1 hs).elim (HCL.out s) (fun q => by rw [List.mem_singleton.1 q]; exact HCl.out)))
            have HR := Lib.hid (set3_row (.int .i64 ver) (.slice (some ⟨ge, 0, none⟩) 11 c1) (.slice A' (L.length + 1) cap') HB.out.2.2.2.1)
            clear HB
            go_wp2_with fail
            obtain ⟨es9, ss9, L9, l1, l2, l3, l4, l5, l6⟩ := HL.out
            exact bodyPost_ret (v := .agg #[.int .i64 ver, (.slice (some ⟨ge, 0, none⟩) 11 c1), (.slice A' (L.length + 1) cap')]) (by obtain ⟨z0, z1, z2⟩ := row3 HR.out; simp [results, Tryd.results13, z0, z1, z2, go_sem]) rfl ⟨_, _, _, es9, ss9, L9, rfl, l1, l2, l3, l4, l5, l6⟩
  by_cases cx7 : x = 7
  · subst cx7
    have hsz : (w5.alloc (.cells #[.int .i64 20120, .int .i64 15000] 3)).heap.size = w5.heap.size + 1 := by simp
    have hnm : NmO b (w5.alloc (.cells #[.int .i64 20120, .int .i64 15000] 3)) (.slice (some ⟨w5.heap.size, 0, none⟩) 2 2) [20120, 15000] := NmO.own (base := w5.heap.size) (fun y hy => by rcases (by simpa using hy : y = 20120 ∨ y = 15000) with rfl | rfl <;> exact ⟨by omega, by omega⟩) (World.ownsRow_lit (e := 3) (base := w5.heap.size) (size := 1) w5 #[.int .i64 20120, .int .i64 15000] 2 (Nat.le_refl _) (by decide) rfl) (Nat.lt_of_lt_of_le hbl HD.out.2.1.size)
    have hb1 : Below w5.heap.size w5 (w5.alloc (.cells #[.int .i64 20120, .int .i64 15000] 3)) := (Below.refl _ _).alloc (Nat.le_refl _) _
    have hb2 : Below (w5.alloc (.cells #[.int .i64 20120, .int .i64 15000] 3)).heap.size (w5.alloc (.cells #[.int .i64 20120, .int .i64 15000] 3)) ((w5.alloc (.cells #[.int .i64 20120, .int .i64 15000] 3)).alloc (.cells #[.int .i64 15000, .slice (some ⟨w5.heap.size, 0, none⟩) 2 2] 58)) := (Below.refl _ _).alloc (Nat.le_refl _) _
    have N1 := two_at (Row.new (w5.alloc (.cells #[.int .i64 20120, .int .i64 15000] 3)) #[.int .i64 15000, (.slice (some ⟨w5.heap.size, 0, none⟩) 2 2)] 58)
    rw [hsz] at N1
    have N1 := Lib.hid N1
    have H9 : Hid (BtS W b w ((w5.alloc (.cells #[.int .i64 20120, .int .i64 15000] 3)).alloc (.cells #[.int .i64 15000, .slice (some ⟨w5.heap.size, 0, none⟩) 2 2] 58)) ver (.slice (some ⟨ge, 0, none⟩) 11 c1) (.slice B1 L.length c2) es ss L ∧ NmO b ((w5.alloc (.cells #[.int .i64 20120, .int .i64 15000] 3)).alloc (.cells #[.int .i64 15000, .slice (some ⟨w5.heap.size, 0, none⟩) 2 2] 58)) (.slice (some ⟨w5.heap.size, 0, none⟩) 2 2) [20120, 15000]) := Lib.hid ⟨(HD.out.under hb1).under hb2, hnm.under hb2⟩
    obtain ⟨q0, q1, q2⟩ := row3 HD.out.2.2.1
    clear hsz hnm hb1 hb2 HD
    go_upto_region 23 with (at_builtin; refine wpList_append_own' rfl (.tmp 102) (.tmp 105) 23 rfl w.heap.size 58 m0 _ 2 32 Tryd.underlying23 hm hx0 hx1 hx2 rfl (by decide) (.slice B1 L.length c2) L.length (rowS L) rfl H9.out.1.2.2.2.2.2.2.2.1 ⟨w5.heap.size + 1, 0, none⟩ 1 1 [.int .i64 15000, (.slice (some ⟨w5.heap.size, 0, none⟩) 2 2)] rfl rfl N1.out (fun z hz => by simp only [List.mem_cons, List.not_mem_nil, or_false] at hz; rcases hz with rfl | rfl <;> rfl) (by unfold maxLen; omega) (by omega) H9.out.1.2.1.size ?_; intro v' w8 ho' hg3; (obtain ⟨A', cap', ev⟩ : ∃ A' cap', v' = .slice A' (L.length + 1) cap' := sl_of ho'); subst ev; have HA := Lib.hid (H9.out.1.appS hWw (by exact ⟨by omega, by omega⟩) H9.out.2 ho' hg3); clear ho' hg3; have F2 := HA.out.1.thaw 2; have P2 := (row3 HA.out.1).2.2)
    have HB := Lib.hid HA.out.2
    generalize w8.setCell ⟨w.heap.size, 2, none⟩ (.slice A' (L.length + 1) cap') = Y6 at HB ⊢
    clear HA F2 P2 H9 N1 q0 q1 q2
    obtain ⟨q0, q1, q2⟩ := row3 HB.out.2.2.1
    obtain ⟨z0, z1, z2⟩ := row3 HB.out.2.2.2.1
    have f0 := HB.out.2.2.2.1.thaw 0
    have f1 := HB.out.2.2.2.1.thaw 1
    have f2 := HB.out.2.2.2.1.thaw 2
    have HL := Lib.hid (HB.out.last (by omega) (by simp only [List.length_append, List.length_singleton]; omega) (fun s hs => (List.mem_append.1 hs).elim (HCL.out s) (fun q => by rw [List.mem_singleton.1 q]; exact Nat.le_succ 2)))
    have HR := Lib.hid (set3_row (.int .i64 ver) (.slice (some ⟨ge, 0, none⟩) 11 c1) (.slice A' (L.length + 1) cap') HB.out.2.2.2.1)
    clear HB
    go_wp2_with fail
    obtain ⟨es9, ss9, L9, l1, l2, l3, l4, l5, l6⟩ := HL.out
    exact bodyPost_ret (v := .agg #[.int .i64 ver, (.slice (some ⟨ge, 0, none⟩) 11 c1), (.slice A' (L.length + 1) cap')]) (by obtain ⟨z0, z1, z2⟩ := row3 HR.out; simp [results, Tryd.results13, z0, z1, z2, go_sem]) rfl ⟨_, _, _, es9, ss9, L9, rfl, l1, l2, l3, l4, l5, l6⟩
  obtain rfl : x = 8 := by omega
  go_wp2_with fail
  go_loopw [] (fun Y => ∃ (es' : List En) (va' : Value), es'.length ≤ 41 ∧ Hid (BtS W b w Y ver va' (.slice B1 L.length c2) es' ss L)) (fun Y => wants Y w.heap.size)
  case atStart => exact ⟨es, _, by omega, HD⟩
  case round =>
    clear HD
    obtain ⟨es', va', hl, HB⟩ := hrel
    obtain ⟨A', cap', ev⟩ : ∃ A' cap', va' = .slice A' es'.length cap' := sl_of HB.out.2.2.2.2.2.2.1
    subst ev
    have hw0 := Lib.hid (wants_row HB.out.2.2.1)
    by_cases h41 : es'.length < 41
    · have i41 : (es'.length : Int) < 41 := by omega
      obtain ⟨q0, q1, q2⟩ := row3 HB.out.2.2.1
      have hb1 : Below wr.heap.size wr (wr.alloc (.cells #[.int .i64 (2000 + (es'.length : Int)), .int .i64 1, .int .i64 8, .int .i64 1, .int .i64 0] 47)) := (Below.refl _ _).alloc (Nat.le_refl _) _
      have N1 := Lib.hid (At5.row (e := ((2000 + (es'.length : Int), 1, 8, 1, 0) : En)) (Row.new wr #[.int .i64 (2000 + (es'.length : Int)), .int .i64 1, .int .i64 8, .int .i64 1, .int .i64 0] 47))
      have H9 := Lib.hid (HB.out.under hb1)
      clear hb1 HB
      go_wp2_with (at_builtin; go_loud (refine wpList_append_own' rfl (.tmp 31) (.tmp 37) 22 rfl w.heap.size 47 i0 _ 5 40 Tryd.underlying22 hi hz0 hz1 hz2 rfl (by decide) (.slice A' es'.length cap') es'.length (rowE es') rfl H9.out.2.2.2.2.2.2.1 ⟨wr.heap.size, 0, none⟩ 1 1 (encE ((2000 + (es'.length : Int), 1, 8, 1, 0) : En)) rfl rfl (encE_at N1.out) (encE_one _) (by unfold maxLen; omega) (by omega) H9.out.2.1.size ?_; intro v' w8 ho' hg3; (obtain ⟨A9, cap9, ev⟩ : ∃ A' cap', v' = .slice A' (es'.length + 1) cap' := sl_of ho'); subst ev; have HA := Lib.hid (H9.out.appE hWw ((2000 + (es'.length : Int), 1, 8, 1, 0) : En) (by exact ⟨by show _ ≤ 2000 + (es'.length : Int); omega, by show 2000 + (es'.length : Int) ≤ _; omega⟩) ho' hg3); clear ho' hg3; have F2 := HA.out.1.thaw 1; have P2 := (row3 HA.out.1).2.1))
      have HB := Lib.hid HA.out.2
      clear HA F2 P2 H9 N1 q0 q1 q2
      go_roundw
      case rel => exact ⟨_, _, by simp only [List.length_append, List.length_singleton]; omega, HB⟩
      case measure => rw [hw0.out, wants_row HB.out.2.2.1]; omega
    · have i41 : ¬ (es'.length : Int) < 41 := by omega
      obtain ⟨p0, p1, p2⟩ := row3 HB.out.2.2.1
      go_upto_region 23 with fail
      clear p0 p1 p2
      obtain ⟨q0, q1, q2⟩ := row3 HB.out.2.2.1
      obtain ⟨z0, z1, z2⟩ := row3 HB.out.2.2.2.1
      have f0 := HB.out.2.2.2.1.thaw 0
      have f1 := HB.out.2.2.2.1.thaw 1
      have f2 := HB.out.2.2.2.1.thaw 2
      have HL := Lib.hid (HB.out.last (by omega) (by omega) HCL.out)
      have HR := Lib.hid (set3_row (.int .i64 ver) (.slice A' es'.length cap') (.slice B1 L.length c2) HB.out.2.2.2.1)
      clear HB
      go_wp2_with fail
      obtain ⟨es9, ss9, L9, l1, l2, l3, l4, l5, l6⟩ := HL.out
      exact bodyPost_ret (v := .agg #[.int .i64 ver, (.slice A' es'.length cap'), (.slice B1 L.length c2)]) (by obtain ⟨z0, z1, z2⟩ := row3 HR.out; simp [results, Tryd.results13, z0, z1, z2, go_sem]) rfl ⟨_, _, _, es9, ss9, L9, rfl, l1, l2, l3, l4, l5, l6⟩

end Go.Proofs.YtjaopjhfjijdaaaDoor
