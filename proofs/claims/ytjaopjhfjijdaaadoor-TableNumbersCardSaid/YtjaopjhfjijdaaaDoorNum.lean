/- The walk of TableNumbers. -/
import Derived.Test.YtjaopjhfjijdaaaDoorLw
namespace Go.Proofs.YtjaopjhfjijdaaaDoor
open Go.RowKit

/-- What the law holds between its steps: the reader, the chosen entry, the three entries. -/
def Ns (W : World) (b g11 g58 : Nat) (e : En) (r : En) (Y : World) : Prop := Src W b Y ∧ Row Y g11 47 (encE e).toArray ∧ Row Y g58 47 (rowE [r, e, sv]).toArray
theorem Ns.under {W : World} {b g11 g58 : Nat} {e r : En} {Y Y' : World} (h : Ns W b g11 g58 e r Y) (hb : Below Y.heap.size Y Y') : Ns W b g11 g58 e r Y' := ⟨h.1.under hb, h.2.1.under hb, h.2.2.under hb⟩
theorem Ns.drew {W : World} {b g11 g58 : Nat} {e r : En} {Y : World} (h : Ns W b g11 g58 e r Y) : Ns W b g11 g58 e r Y.drew := h.under (below_drewN (Below.refl _ _) 1)
theorem Ns.step {W : World} {b g11 g58 : Nat} {e r : En} {Y Y' : World} (h : Ns W b g11 g58 e r Y) (hs : Src W b Y') (hg : Y.grownBy Y' (some b)) : Ns W b g11 g58 e r Y' := by
  obtain ⟨_, _, _, _, _, _, h3, _⟩ := h.1.row
  have k : ∀ {g : Nat} {cs : Array Value}, Row Y g 47 cs → some g ≠ some b := fun hr q => by
    injection q with q
    subst q
    unfold Row at hr
    rw [hr] at h3
    injection h3 with h3
    injection h3 with _ h3
    exact absurd h3 (by decide)
  exact ⟨hs, h.2.1.grown hg (k h.2.1), h.2.2.grown hg (k h.2.2)⟩
/-- One of the three entries. -/
theorem Ns.pick {W : World} {b g11 g58 : Nat} {e r : En} {Y : World} (h : Ns W b g11 g58 e r Y) (hr : I64 r.1) (he : I64 e.1) {i : Nat} (hi : i < 3) : ∃ x : En, I64 x.1 ∧ At5 Y g58 (i * 5) x := by
  have hx := rowE_at [r, e, sv] i hi
  refine ⟨[r, e, sv][i], ?_, ?_⟩
  · have : ∀ z ∈ [r, e, sv], I64 z.1 := fun z hz => by
      rcases List.mem_cons.1 hz with rfl | hz
      · exact hr
      · rcases List.mem_cons.1 hz with rfl | hz
        · exact he
        · rw [List.mem_singleton.1 hz]; exact sv_i
    exact this _ (List.getElem_mem hi)
  · unfold At5
    rw [h.2.2.cell, h.2.2.cell, h.2.2.cell, h.2.2.cell, h.2.2.cell]
    simpa using hx
set_option maxRecDepth 100000 in
set_option maxHeartbeats 4000000 in
theorem tableNumbers_any (c el wd sc ls y0 n0 : Int) (v : Value) (W0 : World) (hT : Tab W0) (hc : I64 c) (hy : I64 y0) (hn : I64 n0) (hv : ListIn W0 v) :
    Calls Tryd.prog 4 #[enV (c, el, wd, sc, ls), .int .i64 y0, .int .i64 n0, v] W0 fun e w' => e = .returned (.bool true) ∧ Below W0.heap.size W0 w' := by
  have HT := Lib.hid hT
  have HC := Lib.hid hc
  have HY := Lib.hid hy
  have HN := Lib.hid hn
  clear hT hc hy hn
  have r4 := Row.new W0 #[.int .i64 c, .int .i64 el, .int .i64 wd, .int .i64 sc, .int .i64 ls] 47
  have b4 : Below W0.heap.size W0 (W0.alloc (.cells #[.int .i64 c, .int .i64 el, .int .i64 wd, .int .i64 sc, .int .i64 ls] 47)) := (Below.refl _ _).alloc (Nat.le_refl _) _
  have HW : Hid (Row (W0.alloc (.cells #[.int .i64 c, .int .i64 el, .int .i64 wd, .int .i64 sc, .int .i64 ls] 47)) W0.heap.size 47 #[.int .i64 c, .int .i64 el, .int .i64 wd, .int .i64 sc, .int .i64 ls] ∧ ListIn (W0.alloc (.cells #[.int .i64 c, .int .i64 el, .int .i64 wd, .int .i64 sc, .int .i64 ls] 47)) v ∧ Tab (W0.alloc (.cells #[.int .i64 c, .int .i64 el, .int .i64 wd, .int .i64 sc, .int .i64 ls] 47)) ∧ Below W0.heap.size W0 (W0.alloc (.cells #[.int .i64 c, .int .i64 el, .int .i64 wd, .int .i64 sc, .int .i64 ls] 47))) := Lib.hid ⟨r4, hv.under b4, HT.out.under b4, b4⟩
  clear r4 hv b4 HT
  go_enter Tryd.func4, Tryd.ntmps4
  go_upto_region 1 with fail
  refine forget (fun V => Hid (Row V W0.heap.size 47 #[.int .i64 c, .int .i64 el, .int .i64 wd, .int .i64 sc, .int .i64 ls] ∧ ListIn V v ∧ Tab V ∧ Below W0.heap.size W0 V)) HW ?_
  clear HW
  obtain ⟨g4, e4⟩ : ∃ g4, W0.heap.size = g4 := ⟨_, rfl⟩
  have E4 := Lib.hid e4
  rw [e4]
  clear e4
  intro W HW
  go_wp2_with fail
  refine (new_any W v HW.out.2.1).mono ?_
  rintro e w1 ⟨rfl, hs, hb⟩
  have H1 : Hid (Src W W.heap.size w1) := Lib.hid hs
  clear hs hb
  generalize W.heap.size = b at H1 ⊢
  go_wp2_with fail
  refine (table_any W b w1 1 H1.out).mono ?_
  rintro e w2 ⟨tv, es, ss, rfl, htb, hes, -, hs, hg⟩
  obtain ⟨A, cap, Bq, cbp, rfl, hE, -⟩ := htb.parts
  obtain ⟨ge, off, rfl, -, hcp, hge⟩ := hE.at (by have := hes.1; omega)
  clear hE
  have hb2 : Below w2.heap.size w2 (w2.alloc (.cells #[.int .i64 1, .slice (some ⟨ge, off, none⟩) es.length cap, .slice Bq ss.length cbp] 25)) := (Below.refl _ _).alloc (Nat.le_refl _) _
  generalize w1.heap.size = base at htb
  have H2 : Hid (Src W b (w2.alloc (.cells #[.int .i64 1, .slice (some ⟨ge, off, none⟩) es.length cap, .slice Bq ss.length cbp] 25)) ∧ Row (w2.alloc (.cells #[.int .i64 1, .slice (some ⟨ge, off, none⟩) es.length cap, .slice Bq ss.length cbp] 25)) w2.heap.size 25 #[.int .i64 1, .slice (some ⟨ge, off, none⟩) es.length cap, .slice Bq ss.length cbp] ∧ TbO b base (w2.alloc (.cells #[.int .i64 1, .slice (some ⟨ge, off, none⟩) es.length cap, .slice Bq ss.length cbp] 25)) (.agg #[.int .i64 1, .slice (some ⟨ge, off, none⟩) es.length cap, .slice Bq ss.length cbp]) 1 es ss ∧ ge < (w2.alloc (.cells #[.int .i64 1, .slice (some ⟨ge, off, none⟩) es.length cap, .slice Bq ss.length cbp] 25)).heap.size) := Lib.hid ⟨hs.under hb2, Row.new _ _ _, htb.under hb2, by simp; omega⟩
  have HES := Lib.hid hes
  clear hs htb hes hg H1 hb2
  go_upto_region 3 with fail
  refine forget (fun V => Hid (Src W b V ∧ Row V w2.heap.size 25 #[.int .i64 1, .slice (some ⟨ge, off, none⟩) es.length cap, .slice Bq ss.length cbp] ∧ TbO b base V (.agg #[.int .i64 1, .slice (some ⟨ge, off, none⟩) es.length cap, .slice Bq ss.length cbp]) 1 es ss ∧ ge < V.heap.size)) H2 ?_
  clear H2
  generalize w2.heap.size = g10
  intro V H3
  have hl11 : es.length = 11 := HES.out.1
  rw [hl11] at H3 hcp ⊢
  go_cut [11] from 35 to 43 (fun p wc => ∃ (g11 : Nat) (x : En), p = .pointer (some ⟨g11, 0, none⟩) ∧ okE x ∧ I64 x.1 ∧ Src W b wc ∧ Row wc g11 47 (encE x).toArray)
  case first =>
    refine wp_region_held_drew (S := fun Y : World => Y.cell? ⟨g10, 1, none⟩ = some (.slice (some ⟨ge, off, none⟩) 11 cap) ∧ ∀ i (h : i < es.length), At5 Y ge (off + i * 5) es[i]) (by kernel_rfl) ⟨(row3 H3.out.2.1).2.1, H3.out.2.2.1.cells⟩ (fun hHeld => ?_)
    have hd : Below V.heap.size V V.drew := below_drewN (Below.refl _ _) 1
    have HD : Hid (Src W b V.drew ∧ Row V.drew g10 25 #[.int .i64 1, .slice (some ⟨ge, off, none⟩) 11 cap, .slice Bq ss.length cbp] ∧ TbO b base V.drew (.agg #[.int .i64 1, .slice (some ⟨ge, off, none⟩) 11 cap, .slice Bq ss.length cbp]) 1 es ss ∧ ge < V.drew.heap.size) := Lib.hid ⟨H3.out.1.under hd, H3.out.2.1.under hd, H3.out.2.2.1.under hd, H3.out.2.2.2⟩
    clear H3 hd
    generalize V.drew = X at HD hHeld ⊢
    refine wpAnyH_take (i := 0) (v := ?_) rfl (by kernel_rfl) (by kernel_rfl) (by kernel_rfl) (fun _ _ _ h => h) (Or.inl ⟨by rfl, ?_⟩) (by assumption) ?_
    case refine_2 => (intro wx hSx; (try dsimp only at hSx); go_simp; first | done | with_reducible rfl)
    ((try simp only [Act.put]); (try simp only [List.setIfInBounds_toArray]); (try simp only [List.set_cons_succ]); (try simp only [List.set_cons_zero]))
    refine wpAnyH_take (i := 1) (v := ?_) rfl (by kernel_rfl) (by kernel_rfl) (by kernel_rfl) (fun _ _ _ h => h) (Or.inl ⟨by rfl, ?_⟩) (by assumption) ?_
    case refine_2 => (intro wx hSx; (try dsimp only at hSx); go_simp; first | done | with_reducible rfl)
    ((try simp only [Act.put]); (try simp only [List.setIfInBounds_toArray]); (try simp only [List.set_cons_succ]); (try simp only [List.set_cons_zero]))
    refine wpAnyH_take (i := 2) (v := ?_) rfl (by kernel_rfl) (by kernel_rfl) (by kernel_rfl) (fun _ _ _ h => h) (Or.inl ⟨by rfl, ?_⟩) (by assumption) ?_
    case refine_2 => (intro wx hSx; (try dsimp only at hSx); go_simp; first | done | with_reducible rfl)
    ((try simp only [Act.put]); (try simp only [List.setIfInBounds_toArray]); (try simp only [List.set_cons_succ]); (try simp only [List.set_cons_zero]))
    refine wpAnyH_take (i := 3) (v := ?_) rfl (by kernel_rfl) (by kernel_rfl) (by kernel_rfl) (fun _ _ _ h => h) (Or.inl ⟨by rfl, ?_⟩) (by assumption) ?_
    case refine_2 => (intro wx hSx; (try dsimp only at hSx); go_simp; first | done | with_reducible rfl)
    ((try simp only [Act.put]); (try simp only [List.setIfInBounds_toArray]); (try simp only [List.set_cons_succ]); (try simp only [List.set_cons_zero]))
    refine wpAnyH_take (i := 4) (v := ?_) rfl (by kernel_rfl) (by kernel_rfl) (by kernel_rfl) (fun _ _ _ h => h) (Or.inl ⟨by rfl, ?_⟩) (by assumption) ?_
    case refine_2 => (intro wx hSx; (try dsimp only at hSx); go_simp; first | done | with_reducible rfl)
    ((try simp only [Act.put]); (try simp only [List.setIfInBounds_toArray]); (try simp only [List.set_cons_succ]); (try simp only [List.set_cons_zero]))
    refine wpAnyH_take (i := 5) (v := ?_) rfl (by kernel_rfl) (by kernel_rfl) (by kernel_rfl) (fun _ _ _ h => h) (Or.inl ⟨by rfl, ?_⟩) (by assumption) ?_
    case refine_2 => (intro wx hSx; (try dsimp only at hSx); go_simp; first | done | with_reducible rfl)
    ((try simp only [Act.put]); (try simp only [List.setIfInBounds_toArray]); (try simp only [List.set_cons_succ]); (try simp only [List.set_cons_zero]))
    refine wpAnyH_ready (rs := [6, 9]) (by kernel_rfl) (by simp) ?_
    refine AllReadyH.cons (o := ⟨some 41, _, _, _, _, none⟩) rfl (fun Kx hK => ?_) (AllReadyH.cons (o := ⟨some 11, _, _, _, _, none⟩) rfl (fun Kx hK => ?_) (AllReadyH.nil))
    · go_simp
      refine (n_any W b _ 11 HD.out.1 (by omega) (by omega)).mono ?_
      rintro e w4 ⟨k0, ⟨k1, k2⟩, rfl, hs, hg⟩
      obtain ⟨k, rfl⟩ := Int.eq_ofNat_of_zero_le k1
      have H4 : Hid (Src W b w4 ∧ Row w4 g10 25 #[.int .i64 1, .slice (some ⟨ge, off, none⟩) 11 cap, .slice Bq ss.length cbp] ∧ TbO b base w4 (.agg #[.int .i64 1, .slice (some ⟨ge, off, none⟩) 11 cap, .slice Bq ss.length cbp]) 1 es ss ∧ ge < w4.heap.size) := Lib.hid ⟨hs, HD.out.2.1.keep HD.out.1 hg (by decide), HD.out.2.2.1.step hg, Nat.lt_of_lt_of_le HD.out.2.2.2 hg.size⟩
      clear hs hg HD hHeld
      go_simp
      refine hK.out _ _ ⟨(row3 H4.out.2.1).2.1, H4.out.2.2.1.cells⟩ (fun hHeld => ?_)
      clear hK Kx
      ((try simp only [Act.put]); (try simp only [List.setIfInBounds_toArray]); (try simp only [List.set_cons_succ]); (try simp only [List.set_cons_zero]))
      refine wpAnyH_take (i := 7) (v := ?_) rfl (by kernel_rfl) (by kernel_rfl) (by kernel_rfl) (fun _ _ _ h => h) (Or.inl ⟨by rfl, ?_⟩) (by assumption) ?_
      case refine_2 => (intro wx hSx; (try dsimp only at hSx); go_simp; first | done | with_reducible rfl)
      ((try simp only [Act.put]); (try simp only [List.setIfInBounds_toArray]); (try simp only [List.set_cons_succ]); (try simp only [List.set_cons_zero]))
      obtain ⟨x, hx⟩ : ∃ x, es[k]'(by omega) = x := ⟨_, rfl⟩
      have HX := Lib.hid hx
      clear hx
      refine wpAnyH_take (i := 8) (v := ?_) rfl (by kernel_rfl) (by kernel_rfl) (by kernel_rfl) (fun _ _ _ h => h) (Or.inl ⟨by rfl, ?_⟩) (by assumption) ?_
      case refine_2 => (intro wx hSx; have hc := (by simpa using hSx.2 k (by omega) : At5 wx ge (off + k * 5) (es[k]'(by omega))); rw [HX.out] at hc; obtain ⟨c0, c1, c2, c3, c4⟩ := hc; clear hSx; go_simp; first | done | with_reducible rfl)
      ((try simp only [Act.put]); (try simp only [List.setIfInBounds_toArray]); (try simp only [List.set_cons_succ]); (try simp only [List.set_cons_zero]))
      refine wpAnyH_ready (rs := [9]) (by kernel_rfl) (by simp) ?_
      refine AllReadyH.cons (o := ⟨some 11, _, _, _, _, none⟩) rfl (fun Kx hK => ?_) (AllReadyH.nil)
      go_simp
      have ha : Below w4.heap.size w4 (w4.alloc (.cells #[.int .i64 0, .int .i64 0, .int .i64 0, .int .i64 0, .int .i64 0] 47)) := (Below.refl _ _).alloc (Nat.le_refl _) _
      have HQ : Hid (Src W b (w4.alloc (.cells #[.int .i64 0, .int .i64 0, .int .i64 0, .int .i64 0, .int .i64 0] 47)) ∧ Row (w4.alloc (.cells #[.int .i64 0, .int .i64 0, .int .i64 0, .int .i64 0, .int .i64 0] 47)) g10 25 #[.int .i64 1, .slice (some ⟨ge, off, none⟩) 11 cap, .slice Bq ss.length cbp] ∧ TbO b base (w4.alloc (.cells #[.int .i64 0, .int .i64 0, .int .i64 0, .int .i64 0, .int .i64 0] 47)) (.agg #[.int .i64 1, .slice (some ⟨ge, off, none⟩) 11 cap, .slice Bq ss.length cbp]) 1 es ss ∧ ge < (w4.alloc (.cells #[.int .i64 0, .int .i64 0, .int .i64 0, .int .i64 0, .int .i64 0] 47)).heap.size ∧ Row (w4.alloc (.cells #[.int .i64 0, .int .i64 0, .int .i64 0, .int .i64 0, .int .i64 0] 47)) w4.heap.size 47 #[.int .i64 0, .int .i64 0, .int .i64 0, .int .i64 0, .int .i64 0] ∧ W.heap.size ≤ w4.heap.size ∧ ge ≠ w4.heap.size ∧ g10 ≠ w4.heap.size) := Lib.hid ⟨H4.out.1.under ha, H4.out.2.1.under ha, H4.out.2.2.1.under ha, Nat.lt_of_lt_of_le H4.out.2.2.2 ha.size, Row.new _ _ _, H4.out.1.below.size, by have := H4.out.2.2.2; omega, by have := H4.out.2.1.lt; omega⟩
      clear ha
      refine hK.out _ _ ⟨(row3 HQ.out.2.1).2.1, HQ.out.2.2.1.cells⟩ (fun hHeld2 => ?_)
      clear hK Kx hHeld H4
      ((try simp only [Act.put]); (try simp only [List.setIfInBounds_toArray]); (try simp only [List.set_cons_succ]); (try simp only [List.set_cons_zero]))
      refine genH (fun V => Hid (Src W b V ∧ Row V g10 25 #[.int .i64 1, .slice (some ⟨ge, off, none⟩) 11 cap, .slice Bq ss.length cbp] ∧ TbO b base V (.agg #[.int .i64 1, .slice (some ⟨ge, off, none⟩) 11 cap, .slice Bq ss.length cbp]) 1 es ss ∧ ge < V.heap.size ∧ Row V w4.heap.size 47 #[.int .i64 0, .int .i64 0, .int .i64 0, .int .i64 0, .int .i64 0] ∧ W.heap.size ≤ w4.heap.size ∧ ge ≠ w4.heap.size ∧ g10 ≠ w4.heap.size)) HQ ?_
      clear HQ hHeld2
      generalize w4.heap.size = g11
      intro w5 H5
      have hHeld : w5.cell? ⟨g10, 1, none⟩ = some (.slice (some ⟨ge, off, none⟩) 11 cap) ∧ ∀ i (h : i < es.length), At5 w5 ge (off + i * 5) es[i] := ⟨(row3 H5.out.2.1).2.1, H5.out.2.2.1.cells⟩
      refine wpAnyH_ready (rs := [10]) (by kernel_rfl) (by simp) ?_
      refine AllReadyH.cons (o := ⟨none, _, _, _, _, none⟩) rfl (fun Kx hK => ?_) (AllReadyH.nil)
      have f0 := H5.out.2.2.2.2.1.thaw 0
      have f1 := H5.out.2.2.2.2.1.thaw 1
      have f2 := H5.out.2.2.2.2.1.thaw 2
      have f3 := H5.out.2.2.2.2.1.thaw 3
      have f4 := H5.out.2.2.2.2.1.thaw 4
      obtain ⟨q0, q1, q2, q3, q4⟩ := row5 H5.out.2.2.2.2.1
      go_simp
      clear f0 f1 f2 f3 f4 q0 q1 q2 q3 q4
      have hne := H5.out.2.2.2.2.2.2.1
      have hnt := H5.out.2.2.2.2.2.2.2
      refine hK.out _ _ ⟨(row3 ((((((H5.out.2.1.far (p := ⟨g11, 0, none⟩) (Ne.symm hnt) _).far (p := ⟨g11, 1, none⟩) (Ne.symm hnt) _).far (p := ⟨g11, 2, none⟩) (Ne.symm hnt) _).far (p := ⟨g11, 3, none⟩) (Ne.symm hnt) _).far (p := ⟨g11, 4, none⟩) (Ne.symm hnt) _))).2.1, fun i hi => (((((H5.out.2.2.1.cells i hi).far (Ne.symm hne)).far (Ne.symm hne)).far (Ne.symm hne)).far (Ne.symm hne)).far (Ne.symm hne)⟩ (fun hHeld2 => ?_)
      clear hK Kx hHeld hHeld2
      ((try simp only [Act.put]); (try simp only [List.setIfInBounds_toArray]); (try simp only [List.set_cons_succ]); (try simp only [List.set_cons_zero]))
      refine wpAnyH_done (by kernel_rfl) ?_ _
      go_wp2_with fail
      go_meet
      have hk : k < es.length := by omega
      have he := HES.out.2 k hk
      rw [HX.out] at he
      exact ⟨g11, x, rfl, he.2, by have := knd_1.1 he.2.2.1; exact ⟨by omega, by omega⟩, put5 H5.out.1 H5.out.2.2.2.2.1 H5.out.2.2.2.2.2.1⟩
    · go_simp
      have ha : Below X.heap.size X (X.alloc (.cells #[.int .i64 0, .int .i64 0, .int .i64 0, .int .i64 0, .int .i64 0] 47)) := (Below.refl _ _).alloc (Nat.le_refl _) _
      have HQ : Hid (Src W b (X.alloc (.cells #[.int .i64 0, .int .i64 0, .int .i64 0, .int .i64 0, .int .i64 0] 47)) ∧ Row (X.alloc (.cells #[.int .i64 0, .int .i64 0, .int .i64 0, .int .i64 0, .int .i64 0] 47)) g10 25 #[.int .i64 1, .slice (some ⟨ge, off, none⟩) 11 cap, .slice Bq ss.length cbp] ∧ TbO b base (X.alloc (.cells #[.int .i64 0, .int .i64 0, .int .i64 0, .int .i64 0, .int .i64 0] 47)) (.agg #[.int .i64 1, .slice (some ⟨ge, off, none⟩) 11 cap, .slice Bq ss.length cbp]) 1 es ss ∧ ge < (X.alloc (.cells #[.int .i64 0, .int .i64 0, .int .i64 0, .int .i64 0, .int .i64 0] 47)).heap.size ∧ Row (X.alloc (.cells #[.int .i64 0, .int .i64 0, .int .i64 0, .int .i64 0, .int .i64 0] 47)) X.heap.size 47 #[.int .i64 0, .int .i64 0, .int .i64 0, .int .i64 0, .int .i64 0] ∧ W.heap.size ≤ X.heap.size ∧ ge ≠ X.heap.size ∧ g10 ≠ X.heap.size) := Lib.hid ⟨HD.out.1.under ha, HD.out.2.1.under ha, HD.out.2.2.1.under ha, Nat.lt_of_lt_of_le HD.out.2.2.2 ha.size, Row.new _ _ _, HD.out.1.below.size, by have := HD.out.2.2.2; omega, by have := HD.out.2.1.lt; omega⟩
      clear ha
      refine hK.out _ _ ⟨(row3 HQ.out.2.1).2.1, HQ.out.2.2.1.cells⟩ (fun hHeld2 => ?_)
      clear hK Kx hHeld HD
      ((try simp only [Act.put]); (try simp only [List.setIfInBounds_toArray]); (try simp only [List.set_cons_succ]); (try simp only [List.set_cons_zero]))
      refine genH (fun V => Hid (Src W b V ∧ Row V g10 25 #[.int .i64 1, .slice (some ⟨ge, off, none⟩) 11 cap, .slice Bq ss.length cbp] ∧ TbO b base V (.agg #[.int .i64 1, .slice (some ⟨ge, off, none⟩) 11 cap, .slice Bq ss.length cbp]) 1 es ss ∧ ge < V.heap.size ∧ Row V X.heap.size 47 #[.int .i64 0, .int .i64 0, .int .i64 0, .int .i64 0, .int .i64 0] ∧ W.heap.size ≤ X.heap.size ∧ ge ≠ X.heap.size ∧ g10 ≠ X.heap.size)) HQ ?_
      clear HQ hHeld2
      generalize X.heap.size = g11
      intro w4 H4
      have hHeld : w4.cell? ⟨g10, 1, none⟩ = some (.slice (some ⟨ge, off, none⟩) 11 cap) ∧ ∀ i (h : i < es.length), At5 w4 ge (off + i * 5) es[i] := ⟨(row3 H4.out.2.1).2.1, H4.out.2.2.1.cells⟩
      refine wpAnyH_ready (rs := [6]) (by kernel_rfl) (by simp) ?_
      refine AllReadyH.cons (o := ⟨some 41, _, _, _, _, none⟩) rfl (fun Kx hK => ?_) (AllReadyH.nil)
      go_simp
      refine (n_any W b _ 11 H4.out.1 (by omega) (by omega)).mono ?_
      rintro e w5 ⟨k0, ⟨k1, k2⟩, rfl, hs, hg⟩
      obtain ⟨k, rfl⟩ := Int.eq_ofNat_of_zero_le k1
      have H5 : Hid (Src W b w5 ∧ Row w5 g10 25 #[.int .i64 1, .slice (some ⟨ge, off, none⟩) 11 cap, .slice Bq ss.length cbp] ∧ TbO b base w5 (.agg #[.int .i64 1, .slice (some ⟨ge, off, none⟩) 11 cap, .slice Bq ss.length cbp]) 1 es ss ∧ ge < w5.heap.size ∧ Row w5 g11 47 #[.int .i64 0, .int .i64 0, .int .i64 0, .int .i64 0, .int .i64 0] ∧ W.heap.size ≤ g11 ∧ ge ≠ g11 ∧ g10 ≠ g11) := Lib.hid ⟨hs, H4.out.2.1.keep H4.out.1 hg (by decide), H4.out.2.2.1.step hg, Nat.lt_of_lt_of_le H4.out.2.2.2.1 hg.size, H4.out.2.2.2.2.1.keep H4.out.1 hg (by decide), H4.out.2.2.2.2.2⟩
      clear hs hg H4 hHeld
      go_simp
      refine hK.out _ _ ⟨(row3 H5.out.2.1).2.1, H5.out.2.2.1.cells⟩ (fun hHeld => ?_)
      clear hK Kx
      ((try simp only [Act.put]); (try simp only [List.setIfInBounds_toArray]); (try simp only [List.set_cons_succ]); (try simp only [List.set_cons_zero]))
      refine wpAnyH_take (i := 7) (v := ?_) rfl (by kernel_rfl) (by kernel_rfl) (by kernel_rfl) (fun _ _ _ h => h) (Or.inl ⟨by rfl, ?_⟩) (by assumption) ?_
      case refine_2 => (intro wx hSx; (try dsimp only at hSx); go_simp; first | done | with_reducible rfl)
      ((try simp only [Act.put]); (try simp only [List.setIfInBounds_toArray]); (try simp only [List.set_cons_succ]); (try simp only [List.set_cons_zero]))
      obtain ⟨x, hx⟩ : ∃ x, es[k]'(by omega) = x := ⟨_, rfl⟩
      have HX := Lib.hid hx
      clear hx
      refine wpAnyH_take (i := 8) (v := ?_) rfl (by kernel_rfl) (by kernel_rfl) (by kernel_rfl) (fun _ _ _ h => h) (Or.inl ⟨by rfl, ?_⟩) (by assumption) ?_
      case refine_2 => (intro wx hSx; have hc := (by simpa using hSx.2 k (by omega) : At5 wx ge (off + k * 5) (es[k]'(by omega))); rw [HX.out] at hc; obtain ⟨c0, c1, c2, c3, c4⟩ := hc; clear hSx; go_simp; first | done | with_reducible rfl)
      ((try simp only [Act.put]); (try simp only [List.setIfInBounds_toArray]); (try simp only [List.set_cons_succ]); (try simp only [List.set_cons_zero]))
      refine wpAnyH_ready (rs := [10]) (by kernel_rfl) (by simp) ?_
      refine AllReadyH.cons (o := ⟨none, _, _, _, _, none⟩) rfl (fun Kx hK => ?_) (AllReadyH.nil)
      have f0 := H5.out.2.2.2.2.1.thaw 0
      have f1 := H5.out.2.2.2.2.1.thaw 1
      have f2 := H5.out.2.2.2.2.1.thaw 2
      have f3 := H5.out.2.2.2.2.1.thaw 3
      have f4 := H5.out.2.2.2.2.1.thaw 4
      obtain ⟨q0, q1, q2, q3, q4⟩ := row5 H5.out.2.2.2.2.1
      go_simp
      clear f0 f1 f2 f3 f4 q0 q1 q2 q3 q4
      have hne := H5.out.2.2.2.2.2.2.1
      have hnt := H5.out.2.2.2.2.2.2.2
      refine hK.out _ _ ⟨(row3 ((((((H5.out.2.1.far (p := ⟨g11, 0, none⟩) (Ne.symm hnt) _).far (p := ⟨g11, 1, none⟩) (Ne.symm hnt) _).far (p := ⟨g11, 2, none⟩) (Ne.symm hnt) _).far (p := ⟨g11, 3, none⟩) (Ne.symm hnt) _).far (p := ⟨g11, 4, none⟩) (Ne.symm hnt) _))).2.1, fun i hi => (((((H5.out.2.2.1.cells i hi).far (Ne.symm hne)).far (Ne.symm hne)).far (Ne.symm hne)).far (Ne.symm hne)).far (Ne.symm hne)⟩ (fun hHeld2 => ?_)
      clear hK Kx hHeld hHeld2
      ((try simp only [Act.put]); (try simp only [List.setIfInBounds_toArray]); (try simp only [List.set_cons_succ]); (try simp only [List.set_cons_zero]))
      refine wpAnyH_done (by kernel_rfl) ?_ _
      go_wp2_with fail
      go_meet
      have hk : k < es.length := by omega
      have he := HES.out.2 k hk
      rw [HX.out] at he
      exact ⟨g11, x, rfl, he.2, by have := knd_1.1 he.2.2.1; exact ⟨by omega, by omega⟩, put5 H5.out.1 H5.out.2.2.2.2.1 H5.out.2.2.2.2.2.1⟩
  case rest =>
    obtain ⟨g11, ⟨xc, xe, xw, xs, xl⟩, rfl, hok, hI, hs, hr⟩ := hcut
    simp only [encE] at hr
    obtain ⟨kw, rfl⟩ : ∃ k : Nat, xw = (k : Int) := ⟨xw.toNat, by have := hok.2.2.1; simp only at this; omega⟩
    have hw1 : 2 ≤ kw := by have := hok.2.2.1; simp only at this; omega
    have hw2 : kw ≤ 24 := by have := hok.2.2.2.1; simp only at this; omega
    have hs1 : 1 ≤ xs := hok.2.2.2.2.1
    have hs2 : xs ≤ 1000 := hok.2.2.2.2.2.1
    have hl1 : -100000 ≤ xl := hok.2.2.2.2.2.2.1
    have hl2 : xl ≤ 100000 := hok.2.2.2.2.2.2.2
    obtain ⟨p1, p2⟩ := pw_bd hw1 hw2
    obtain ⟨P, hP⟩ : ∃ P : Int, (2 : Int) ^ kw = P := ⟨_, rfl⟩
    rw [hP] at p1 p2
    have HP := Lib.hid hP
    clear hP
    have HOK := Lib.hid hok
    have HI := Lib.hid hI
    obtain ⟨m1, m2⟩ := mul_bd hs1 hs2 (by omega : 0 ≤ P) p2
    have m3 : 1 ≤ xs * P := Int.mul_pos (by omega) (by omega)
    have H4 := Lib.hid (⟨hs, hr⟩ : Src W b wc ∧ Row wc g11 47 #[.int .i64 xc, .int .i64 xe, .int .i64 (kw : Int), .int .i64 xs, .int .i64 xl])
    clear hs hr hok hI H3 hge hcp hl11 HES
    go_upto_region 4 with fail
    obtain ⟨q0, q1, q2, q3, q4⟩ := row5 H4.out.2
    refine wp_region_held_drew (S := fun Y : World => Y.cell? ⟨g11, 2, none⟩ = some (.int .i64 (kw : Int)) ∧ Y.cell? ⟨g11, 3, none⟩ = some (.int .i64 xs) ∧ Y.cell? ⟨g11, 4, none⟩ = some (.int .i64 xl)) (by kernel_rfl) ⟨q2, q3, q4⟩ (fun hHeld => ?_)
    clear q0 q1 q2 q3 q4
    have hd : Below wc.heap.size wc wc.drew := below_drewN (Below.refl _ _) 1
    have H5 := Lib.hid (⟨H4.out.1.under hd, H4.out.2.under hd⟩ : Src W b wc.drew ∧ Row wc.drew g11 47 #[.int .i64 xc, .int .i64 xe, .int .i64 (kw : Int), .int .i64 xs, .int .i64 xl])
    clear H4 hd
    generalize wc.drew = X at H5 hHeld ⊢
    refine wpAnyH_take (i := 0) (v := ?_) rfl (by kernel_rfl) (by kernel_rfl) (by kernel_rfl) (fun _ _ _ h => h) (Or.inl ⟨by rfl, ?_⟩) (by assumption) ?_
    case refine_2 => (intro wx hSx; (try dsimp only at hSx); go_simp; first | done | with_reducible rfl)
    ((try simp only [Act.put]); (try simp only [List.setIfInBounds_toArray]); (try simp only [List.set_cons_succ]); (try simp only [List.set_cons_zero]))
    refine wpAnyH_take (i := 1) (v := ?_) rfl (by kernel_rfl) (by kernel_rfl) (by kernel_rfl) (fun _ _ _ h => h) (Or.inl ⟨by rfl, ?_⟩) (by assumption) ?_
    case refine_2 => (intro wx hSx; (try dsimp only at hSx); go_simp; first | done | with_reducible rfl)
    ((try simp only [Act.put]); (try simp only [List.setIfInBounds_toArray]); (try simp only [List.set_cons_succ]); (try simp only [List.set_cons_zero]))
    refine wpAnyH_take (i := 2) (v := ?_) rfl (by kernel_rfl) (by kernel_rfl) (by kernel_rfl) (fun _ _ _ h => h) (Or.inl ⟨by rfl, ?_⟩) (by assumption) ?_
    case refine_2 => (intro wx hSx; (try dsimp only at hSx); go_simp; first | done | with_reducible rfl)
    ((try simp only [Act.put]); (try simp only [List.setIfInBounds_toArray]); (try simp only [List.set_cons_succ]); (try simp only [List.set_cons_zero]))
    refine wpAnyH_take (i := 3) (v := ?_) rfl (by kernel_rfl) (by kernel_rfl) (by kernel_rfl) (fun _ _ _ h => h) (Or.inl ⟨by rfl, ?_⟩) (by assumption) ?_
    case refine_2 => (intro wx hSx; (try dsimp only at hSx); go_simp; first | done | with_reducible rfl)
    ((try simp only [Act.put]); (try simp only [List.setIfInBounds_toArray]); (try simp only [List.set_cons_succ]); (try simp only [List.set_cons_zero]))
    refine wpAnyH_take (i := 4) (v := ?_) rfl (by kernel_rfl) (by kernel_rfl) (by kernel_rfl) (fun _ _ _ h => h) (Or.inl ⟨by rfl, ?_⟩) (by assumption) ?_
    case refine_2 => (intro wx hSx; (try dsimp only at hSx); go_simp; first | done | with_reducible rfl)
    ((try simp only [Act.put]); (try simp only [List.setIfInBounds_toArray]); (try simp only [List.set_cons_succ]); (try simp only [List.set_cons_zero]))
    refine wpAnyH_take (i := 5) (v := ?_) rfl (by kernel_rfl) (by kernel_rfl) (by kernel_rfl) (fun _ _ _ h => h) (Or.inl ⟨by rfl, ?_⟩) (by assumption) ?_
    case refine_2 => (intro wx hSx; (try dsimp only at hSx); go_simp; first | done | with_reducible rfl)
    ((try simp only [Act.put]); (try simp only [List.setIfInBounds_toArray]); (try simp only [List.set_cons_succ]); (try simp only [List.set_cons_zero]))
    refine wpAnyH_take (i := 6) (v := ?_) rfl (by kernel_rfl) (by kernel_rfl) (by kernel_rfl) (fun _ _ _ h => h) (Or.inl ⟨by rfl, ?_⟩) (by assumption) ?_
    case refine_2 => (intro wx hSx; (try dsimp only at hSx); go_simp; first | done | with_reducible rfl)
    ((try simp only [Act.put]); (try simp only [List.setIfInBounds_toArray]); (try simp only [List.set_cons_succ]); (try simp only [List.set_cons_zero]))
    refine wpAnyH_take (i := 7) (v := ?_) rfl (by kernel_rfl) (by kernel_rfl) (by kernel_rfl) (fun _ _ _ h => h) (Or.inl ⟨by rfl, ?_⟩) (by assumption) ?_
    case refine_2 => (intro wx hSx; (try dsimp only at hSx); go_simp; first | done | with_reducible rfl)
    ((try simp only [Act.put]); (try simp only [List.setIfInBounds_toArray]); (try simp only [List.set_cons_succ]); (try simp only [List.set_cons_zero]))
    refine wpAnyH_take (i := 8) (v := ?_) rfl (by kernel_rfl) (by kernel_rfl) (by kernel_rfl) (fun _ _ _ h => h) (Or.inl ⟨by rfl, ?_⟩) (by assumption) ?_
    case refine_2 => (intro wx hSx; (try dsimp only at hSx); go_simp; first | done | with_reducible rfl)
    ((try simp only [Act.put]); (try simp only [List.setIfInBounds_toArray]); (try simp only [List.set_cons_succ]); (try simp only [List.set_cons_zero]))
    refine wpAnyH_ready (rs := [9]) (by kernel_rfl) (by simp) ?_
    refine AllReadyH.cons (o := ⟨some 53, _, _, _, _, none⟩) rfl (fun Kx hK => ?_) (AllReadyH.nil)
    go_simp
    rw [sh_min hw2, HP.out, IntWalk.i64_in (xs * P) (by omega), u_in hw2]
    refine (n_any W b _ (xs * P) H5.out.1 m3 (by omega)).mono ?_
    rintro e w4 ⟨v1, ⟨k1, k2⟩, rfl, hs, hg⟩
    have H6 := Lib.hid (⟨hs, H5.out.2.keep H5.out.1 hg (by decide)⟩ : Src W b w4 ∧ Row w4 g11 47 #[.int .i64 xc, .int .i64 xe, .int .i64 (kw : Int), .int .i64 xs, .int .i64 xl])
    clear hs hg H5 hHeld
    go_simp
    obtain ⟨q0, q1, q2, q3, q4⟩ := row5 H6.out.2
    refine hK.out _ _ ⟨q2, q3, q4⟩ (fun hHeld => ?_)
    clear hK Kx q0 q1 q2 q3 q4
    ((try simp only [Act.put]); (try simp only [List.setIfInBounds_toArray]); (try simp only [List.set_cons_succ]); (try simp only [List.set_cons_zero]))
    have hz1 : IntKind.i64.wrap (xl + v1) = xl + v1 := IntWalk.i64_in _ (by omega)
    refine wpAnyH_take (i := 10) (oi := ⟨some 54, _, _, _, _, none⟩) (v := ?_) rfl (by kernel_rfl) (by kernel_rfl) (by kernel_rfl) (fun _ _ _ h => h) (Or.inl ⟨by rfl, ?_⟩) (by assumption) ?_
    case refine_2 => (intro wx hSx; (try dsimp only at hSx); go_simp; first | done | with_reducible rfl)
    ((try simp only [Act.put]); (try simp only [List.setIfInBounds_toArray]); (try simp only [List.set_cons_succ]); (try simp only [List.set_cons_zero]))
    refine wpAnyH_take (i := 11) (oi := ⟨some 12, _, _, _, _, none⟩) (v := ?_) rfl (by kernel_rfl) (by kernel_rfl) (by kernel_rfl) (fun _ _ _ h => h) (Or.inl ⟨by rfl, ?_⟩) (by assumption) ?_
    case refine_2 => (intro wx hSx; (try dsimp only at hSx); go_simp; first | done | with_reducible rfl)
    ((try simp only [Act.put]); (try simp only [List.setIfInBounds_toArray]); (try simp only [List.set_cons_succ]); (try simp only [List.set_cons_zero]))
    refine wpAnyH_done (by kernel_rfl) ?_ _
    have hz2 : I64 (xl + v1) := ⟨by omega, by omega⟩
    have HV := Lib.hid hz2
    generalize xl + v1 = y1 at *
    clear hz1 hz2 k1 k2 hHeld
    go_upto_region 5 with fail
    have r4' : Row w4 g4 47 #[.int .i64 c, .int .i64 el, .int .i64 wd, .int .i64 sc, .int .i64 ls] := HW.out.1.under H6.out.1.below
    have H7 := Lib.hid (⟨H6.out.1, H6.out.2, r4'⟩ : Src W b w4 ∧ Row w4 g11 47 #[.int .i64 xc, .int .i64 xe, .int .i64 (kw : Int), .int .i64 xs, .int .i64 xl] ∧ Row w4 g4 47 #[.int .i64 c, .int .i64 el, .int .i64 wd, .int .i64 sc, .int .i64 ls])
    clear r4' H6
    obtain ⟨q0, q1, q2, q3, q4⟩ := row5 H7.out.2.1
    obtain ⟨z0, z1, z2, z3, z4⟩ := row5 H7.out.2.2
    refine wp_region_held_drew (S := fun Y : World => (Y.cell? ⟨g11, 0, none⟩ = some (.int .i64 xc) ∧ Y.cell? ⟨g11, 1, none⟩ = some (.int .i64 xe) ∧ Y.cell? ⟨g11, 2, none⟩ = some (.int .i64 (kw : Int)) ∧ Y.cell? ⟨g11, 3, none⟩ = some (.int .i64 xs) ∧ Y.cell? ⟨g11, 4, none⟩ = some (.int .i64 xl)) ∧ Y.cell? ⟨g4, 0, none⟩ = some (.int .i64 c) ∧ Y.cell? ⟨g4, 1, none⟩ = some (.int .i64 el) ∧ Y.cell? ⟨g4, 2, none⟩ = some (.int .i64 wd) ∧ Y.cell? ⟨g4, 3, none⟩ = some (.int .i64 sc) ∧ Y.cell? ⟨g4, 4, none⟩ = some (.int .i64 ls)) (by kernel_rfl) ⟨⟨q0, q1, q2, q3, q4⟩, z0, z1, z2, z3, z4⟩ (fun hHeld => ?_)
    clear q0 q1 q2 q3 q4 z0 z1 z2 z3 z4
    refine wpAnyH_take (i := 0) (oi := ⟨some 55, _, _, _, _, none⟩) (v := ?_) rfl (by kernel_rfl) (by kernel_rfl) (by kernel_rfl) (fun _ _ _ h => h) (Or.inl ⟨by rfl, ?_⟩) (by assumption) ?_
    case refine_2 => (intro wx hSx; (try dsimp only at hSx); go_simp; first | done | with_reducible rfl)
    ((try simp only [Act.put]); (try simp only [List.setIfInBounds_toArray]); (try simp only [List.set_cons_succ]); (try simp only [List.set_cons_zero]))
    refine wpAnyH_take (i := 1) (oi := ⟨some 56, _, _, _, _, none⟩) (v := ?_) rfl (by kernel_rfl) (by kernel_rfl) (by kernel_rfl) (fun _ _ _ h => h) (Or.inl ⟨by rfl, ?_⟩) (by assumption) ?_
    case refine_2 => (intro wx hSx; (try dsimp only at hSx); go_simp; first | done | with_reducible rfl)
    ((try simp only [Act.put]); (try simp only [List.setIfInBounds_toArray]); (try simp only [List.set_cons_succ]); (try simp only [List.set_cons_zero]))
    refine wpAnyH_take (i := 5) (oi := ⟨some 60, _, _, _, _, none⟩) (v := ?_) rfl (by kernel_rfl) (by kernel_rfl) (by kernel_rfl) (fun _ _ _ h => h) (Or.inl ⟨by rfl, ?_⟩) (by assumption) ?_
    case refine_2 => (intro wx hSx; (try dsimp only at hSx); go_simp; first | done | with_reducible rfl)
    ((try simp only [Act.put]); (try simp only [List.setIfInBounds_toArray]); (try simp only [List.set_cons_succ]); (try simp only [List.set_cons_zero]))
    refine wpAnyH_ready (rs := [2]) (by kernel_rfl) (by simp) ?_
    refine AllReadyH.cons (o := ⟨some 57, _, _, _, _, none⟩) rfl (fun Kx hK => ?_) (AllReadyH.nil)
    have hd : Below w4.heap.size w4 w4.drew := below_drewN (Below.refl _ _) 1
    have H8 := Lib.hid (⟨H7.out.1.under hd, H7.out.2.1.under hd, H7.out.2.2.under hd⟩ : Src W b w4.drew ∧ Row w4.drew g11 47 #[.int .i64 xc, .int .i64 xe, .int .i64 (kw : Int), .int .i64 xs, .int .i64 xl] ∧ Row w4.drew g4 47 #[.int .i64 c, .int .i64 el, .int .i64 wd, .int .i64 sc, .int .i64 ls])
    clear H7 hd
    generalize w4.drew = X5 at H8 hHeld ⊢
    go_simp
    refine (seven_any _).mono ?_
    rintro e w5 ⟨rfl, hb⟩
    have H9 := Lib.hid (⟨H8.out.1.under hb, H8.out.2.1.under hb, H8.out.2.2.under hb⟩ : Src W b w5 ∧ Row w5 g11 47 #[.int .i64 xc, .int .i64 xe, .int .i64 (kw : Int), .int .i64 xs, .int .i64 xl] ∧ Row w5 g4 47 #[.int .i64 c, .int .i64 el, .int .i64 wd, .int .i64 sc, .int .i64 ls])
    clear H8 hb hHeld
    go_simp
    refine hK.out _ _ ⟨row5 H9.out.2.1, row5 H9.out.2.2⟩ (fun hHeld => ?_)
    clear hK Kx
    ((try simp only [Act.put]); (try simp only [List.setIfInBounds_toArray]); (try simp only [List.set_cons_succ]); (try simp only [List.set_cons_zero]))
    refine wpAnyH_ready (rs := [3]) (by kernel_rfl) (by simp) ?_
    refine AllReadyH.cons (o := ⟨some 58, _, _, _, _, none⟩) rfl (fun Kx hK => ?_) (AllReadyH.nil)
    simp only [enV, sv]
    go_simp
    have ha : Below w5.heap.size w5 (w5.alloc (.cells (rowE [(c, el, wd, sc, ls), (xc, xe, (kw : Int), xs, xl), sv]).toArray 47)) := (Below.refl _ _).alloc (Nat.le_refl _) _
    have HA : Hid (Ns W b g11 w5.heap.size (xc, xe, (kw : Int), xs, xl) (c, el, wd, sc, ls) (w5.alloc (.cells (rowE [(c, el, wd, sc, ls), (xc, xe, (kw : Int), xs, xl), sv]).toArray 47))) := Lib.hid ⟨H9.out.1.under ha, H9.out.2.1.under ha, Row.new _ _ _⟩
    refine hK.out _ _ ⟨row5 (H9.out.2.1.under ha), row5 (H9.out.2.2.under ha)⟩ (fun hHeld2 => ?_)
    clear hK Kx hHeld hHeld2 ha H9
    ((try simp only [Act.put]); (try simp only [List.setIfInBounds_toArray]); (try simp only [List.set_cons_succ]); (try simp only [List.set_cons_zero]))
    refine genH (fun V => Hid (Ns W b g11 w5.heap.size (xc, xe, (kw : Int), xs, xl) (c, el, wd, sc, ls) V)) HA ?_
    clear HA
    generalize w5.heap.size = g58
    intro w6 H6
    have hHeld : (w6.cell? ⟨g11, 0, none⟩ = some (.int .i64 xc) ∧ w6.cell? ⟨g11, 1, none⟩ = some (.int .i64 xe) ∧ w6.cell? ⟨g11, 2, none⟩ = some (.int .i64 (kw : Int)) ∧ w6.cell? ⟨g11, 3, none⟩ = some (.int .i64 xs) ∧ w6.cell? ⟨g11, 4, none⟩ = some (.int .i64 xl)) ∧ w6.cell? ⟨g4, 0, none⟩ = some (.int .i64 c) ∧ w6.cell? ⟨g4, 1, none⟩ = some (.int .i64 el) ∧ w6.cell? ⟨g4, 2, none⟩ = some (.int .i64 wd) ∧ w6.cell? ⟨g4, 3, none⟩ = some (.int .i64 sc) ∧ w6.cell? ⟨g4, 4, none⟩ = some (.int .i64 ls) := ⟨row5 H6.out.2.1, row5 (HW.out.1.under H6.out.1.below)⟩
    refine wpAnyH_take (i := 4) (oi := ⟨some 59, _, _, _, _, none⟩) (v := ?_) rfl (by kernel_rfl) (by kernel_rfl) (by kernel_rfl) (fun _ _ _ h => h) (Or.inl ⟨by rfl, ?_⟩) (by assumption) ?_
    case refine_2 => (intro wx hSx; (try dsimp only at hSx); go_simp; first | done | with_reducible rfl)
    ((try simp only [Act.put]); (try simp only [List.setIfInBounds_toArray]); (try simp only [List.set_cons_succ]); (try simp only [List.set_cons_zero]))
    refine wpAnyH_done (by kernel_rfl) ?_ _
    clear hHeld
    go_wp2_with fail
    go_loopw [60] (fun t Y => ∃ i : Nat, i ≤ 3 ∧ t = .int .i64 i ∧ Hid (Ns W b g11 g58 (xc, xe, (kw : Int), xs, xl) (c, el, wd, sc, ls) Y)) (fun t _ => 3 - (intOf t).toNat)
    case atStart => exact ⟨0, by decide, rfl, H6⟩
    case round =>
      clear H6
      obtain ⟨i, hi, rfl, M⟩ := hrel
      by_cases hlt : i < 3
      · have i0 : (0 : Int) ≤ (i : Int) := by omega
        have i1 : (i : Int) < 3 := by omega
        obtain ⟨⟨ac, ae, aw, as_, al⟩, hxi, c0, c1, c2, c3, c4⟩ := M.out.pick HC.out HI.out hlt
        simp only at c0 c1 c2 c3 c4
        obtain ⟨q0, q1, q2, q3, q4⟩ := row5 M.out.2.1
        go_upto_region 8 with fail
        have ha : Below wr.heap.size wr (wr.alloc (.cells #[.int .i64 ac, .int .i64 ae, .int .i64 aw, .int .i64 as_, .int .i64 al] 47)) := (Below.refl _ _).alloc (Nat.le_refl _) _
        have HA : Hid (Ns W b g11 g58 (xc, xe, (kw : Int), xs, xl) (c, el, wd, sc, ls) (wr.alloc (.cells #[.int .i64 ac, .int .i64 ae, .int .i64 aw, .int .i64 as_, .int .i64 al] 47)) ∧ Row (wr.alloc (.cells #[.int .i64 ac, .int .i64 ae, .int .i64 aw, .int .i64 as_, .int .i64 al] 47)) wr.heap.size 47 #[.int .i64 ac, .int .i64 ae, .int .i64 aw, .int .i64 as_, .int .i64 al]) := Lib.hid ⟨M.out.under ha, Row.new _ _ _⟩
        refine forget (fun V => Hid (Ns W b g11 g58 (xc, xe, (kw : Int), xs, xl) (c, el, wd, sc, ls) V ∧ Row V wr.heap.size 47 #[.int .i64 ac, .int .i64 ae, .int .i64 aw, .int .i64 as_, .int .i64 al])) HA ?_
        clear HA ha c0 c1 c2 c3 c4 q0 q1 q2 q3 q4 M
        generalize wr.heap.size = g14
        intro w7 M
        obtain ⟨q0, q1, q2, q3, q4⟩ := row5 M.out.1.2.1
        simp only at q0 q1 q2 q3 q4
        have HXI := Lib.hid hxi
        clear hxi
        have hk1 : (2 : Int) ≤ (kw : Int) := by omega
        have hk2 : (kw : Int) ≤ 24 := by omega
        go_wp2_with fail
        obtain ⟨m4, m5⟩ := mul_bd hs1 hs2 (by omega : 0 ≤ P - 1) (by omega)
        rw [HP.out, IntWalk.wrap64_in P ⟨by omega, by omega⟩, IntWalk.wrap64_in (P - 1) ⟨by omega, by omega⟩, IntWalk.wrap64_in (xs * (P - 1)) ⟨by omega, by omega⟩, IntWalk.wrap64_in (xl + xs * (P - 1)) ⟨by omega, by omega⟩]
        have hQ : I64 (xl + xs * (P - 1)) := ⟨by omega, by omega⟩
        have HQ := Lib.hid hQ
        generalize xl + xs * (P - 1) = Q at *
        have ha : Below w7.heap.size w7 (w7.alloc (.cells #[.int .i64 y0, .int .i64 y1, .int .i64 (xl - 1), .int .i64 Q] 3)) := (Below.refl _ _).alloc (Nat.le_refl _) _
        have HA : Hid (Ns W b g11 g58 (xc, xe, (kw : Int), xs, xl) (c, el, wd, sc, ls) (w7.alloc (.cells #[.int .i64 y0, .int .i64 y1, .int .i64 (xl - 1), .int .i64 Q] 3)) ∧ Row (w7.alloc (.cells #[.int .i64 y0, .int .i64 y1, .int .i64 (xl - 1), .int .i64 Q] 3)) g14 47 #[.int .i64 ac, .int .i64 ae, .int .i64 aw, .int .i64 as_, .int .i64 al] ∧ Row (w7.alloc (.cells #[.int .i64 y0, .int .i64 y1, .int .i64 (xl - 1), .int .i64 Q] 3)) w7.heap.size 3 #[.int .i64 y0, .int .i64 y1, .int .i64 (xl - 1), .int .i64 Q]) := Lib.hid ⟨M.out.1.under ha, M.out.2.under ha, Row.new _ _ _⟩
        refine forget (fun V => Hid (Ns W b g11 g58 (xc, xe, (kw : Int), xs, xl) (c, el, wd, sc, ls) V ∧ Row V g14 47 #[.int .i64 ac, .int .i64 ae, .int .i64 aw, .int .i64 as_, .int .i64 al] ∧ Row V w7.heap.size 3 #[.int .i64 y0, .int .i64 y1, .int .i64 (xl - 1), .int .i64 Q])) HA ?_
        clear HA ha M q0 q1 q2 q3 q4 m4 m5 hQ
        generalize w7.heap.size = g80
        intro w8 M
        go_loopw [82] (fun t Y => ∃ k : Nat, k ≤ 4 ∧ t = .int .i64 k ∧ Hid (Ns W b g11 g58 (xc, xe, (kw : Int), xs, xl) (c, el, wd, sc, ls) Y ∧ Row Y g14 47 #[.int .i64 ac, .int .i64 ae, .int .i64 aw, .int .i64 as_, .int .i64 al] ∧ Row Y g80 3 #[.int .i64 y0, .int .i64 y1, .int .i64 (xl - 1), .int .i64 Q])) (fun t _ => 4 - (intOf t).toNat)
        case atStart => exact ⟨0, by decide, rfl, M⟩
        case round =>
          clear M
          obtain ⟨k, hk, rfl, M⟩ := hrel
          by_cases hlt4 : k < 4
          · have k0 : (0 : Int) ≤ (k : Int) := by omega
            have k1 : (k : Int) < 4 := by omega
            obtain ⟨y, hy, cy⟩ : ∃ y : Int, I64 y ∧ wr.cell? ⟨g80, k, none⟩ = some (.int .i64 y) := by
              have h3 := row4 M.out.2.2
              rcases (by omega : k = 0 ∨ k = 1 ∨ k = 2 ∨ k = 3) with rfl | rfl | rfl | rfl
              · exact ⟨_, HY.out, h3.1⟩
              · exact ⟨_, HV.out, h3.2.1⟩
              · exact ⟨_, ⟨by omega, by omega⟩, h3.2.2.1⟩
              · exact ⟨_, HQ.out, h3.2.2.2⟩
            have HYI := Lib.hid hy
            clear hy
            obtain ⟨z0, z1, z2, z3, z4⟩ := row5 M.out.2.1
            obtain ⟨⟨r1, r2⟩, hr⟩ : ∃ r, encA (ac, ae, aw, as_, al) y = r := ⟨_, rfl⟩
            have HE := Lib.hid (fun X (h : Tab X) => encode_any (ac, ae, aw, as_, al) y X h HXI.out)
            have HF := Lib.hid (fun X => refEncode_any (ac, ae, aw, as_, al) y X HXI.out)
            rw [hr] at HE HF
            have HR := Lib.hid hr
            clear hr
            simp only [enV] at HE HF
            go_wp2_with fail
            refine (HE.out _ (HW.out.2.2.1.under M.out.1.1.below)).mono ?_
            rintro e w9 ⟨rfl, hb⟩
            have M9 : Hid (Ns W b g11 g58 (xc, xe, (kw : Int), xs, xl) (c, el, wd, sc, ls) w9 ∧ Row w9 g14 47 #[.int .i64 ac, .int .i64 ae, .int .i64 aw, .int .i64 as_, .int .i64 al] ∧ Row w9 g80 3 #[.int .i64 y0, .int .i64 y1, .int .i64 (xl - 1), .int .i64 Q]) := Lib.hid ⟨M.out.1.under hb, M.out.2.1.under hb, M.out.2.2.under hb⟩
            clear hb M cy z0 z1 z2 z3 z4
            obtain ⟨z0, z1, z2, z3, z4⟩ := row5 M9.out.2.1
            go_wp2_with fail
            refine (HF.out _).mono ?_
            rintro e w10 ⟨rfl, hb⟩
            have MA : Hid (Ns W b g11 g58 (xc, xe, (kw : Int), xs, xl) (c, el, wd, sc, ls) w10 ∧ Row w10 g14 47 #[.int .i64 ac, .int .i64 ae, .int .i64 aw, .int .i64 as_, .int .i64 al] ∧ Row w10 g80 3 #[.int .i64 y0, .int .i64 y1, .int .i64 (xl - 1), .int .i64 Q]) := Lib.hid ⟨M9.out.1.under hb, M9.out.2.1.under hb, M9.out.2.2.under hb⟩
            clear hb M9 z0 z1 z2 z3 z4 HE HF
            by_cases hr2 : r2 = 0
            · subst hr2
              obtain ⟨hoka, x9, hd, hx1, hx2⟩ := dec_enc (e := (ac, ae, aw, as_, al)) (y := y) (by rw [HR.out])
              rw [HR.out] at hd
              simp only at hd hx2
              have HD := Lib.hid (fun X (h : Tab X) => decode_any (ac, ae, aw, as_, al) r1 X h HXI.out)
              rw [hd] at HD
              simp only [enV] at HD
              have hbd := dec_i64 (ac, ae, aw, as_, al) r1
              rw [hd] at hbd
              simp only at hbd
              obtain ⟨b1, b2⟩ := hbd
              obtain ⟨b3, b4⟩ := HYI.out
              have b5 : as_ ≤ 1000 := hoka.2.2.2.2.2.1
              have x3 : wrap64 (y - x9) = y - x9 := IntWalk.wrap64_in _ ⟨by omega, by omega⟩
              have x4 : ¬ (y < x9 ∨ as_ ≤ y - x9) := by omega
              have x1 : ¬ y < x9 := by omega
              have x2 : ¬ as_ ≤ y - x9 := by omega
              clear hd hx1 hx2 hoka
              obtain ⟨z0, z1, z2, z3, z4⟩ := row5 MA.out.2.1
              go_wp2_with fail
              refine (HD.out _ (HW.out.2.2.1.under MA.out.1.1.below)).mono ?_
              rintro e w11 ⟨rfl, hb⟩
              have MB : Hid (Ns W b g11 g58 (xc, xe, (kw : Int), xs, xl) (c, el, wd, sc, ls) w11 ∧ Row w11 g14 47 #[.int .i64 ac, .int .i64 ae, .int .i64 aw, .int .i64 as_, .int .i64 al] ∧ Row w11 g80 3 #[.int .i64 y0, .int .i64 y1, .int .i64 (xl - 1), .int .i64 Q]) := Lib.hid ⟨MA.out.1.under hb, MA.out.2.1.under hb, MA.out.2.2.under hb⟩
              clear hb MA z0 z1 z2 z3 z4 HD
              obtain ⟨z0, z1, z2, z3, z4⟩ := row5 MB.out.2.1
              go_wp2_with fail
              go_roundw
              case rel => exact ⟨k + 1, by omega, by go_num, MB⟩
              case measure => simp [intOf]; omega
            · have e2 : (r2 == 0) = false := by simpa using hr2
              go_wp2_with fail
              go_roundw
              case rel => exact ⟨k + 1, by omega, by go_num, MA⟩
              case measure => simp [intOf]; omega
          · have k1 : ¬ (k : Int) < 4 := by omega
            have M2 : Hid (Ns W b g11 g58 (xc, xe, (kw : Int), xs, xl) (c, el, wd, sc, ls) wr ∧ Row wr g14 47 #[.int .i64 ac, .int .i64 ae, .int .i64 aw, .int .i64 as_, .int .i64 al]) := Lib.hid ⟨M.out.1, M.out.2.1⟩
            clear M
            obtain ⟨q0, q1, q2, q3, q4⟩ := row5 M2.out.1.2.1
            simp only at q2
            go_upto_region 20 with fail
            refine wp_region_held_drew (S := fun Y : World => Y.cell? ⟨g11, 2, none⟩ = some (.int .i64 (kw : Int))) (by kernel_rfl) q2 (fun hHeld => ?_)
            clear q0 q1 q2 q3 q4
            have hd : Below wr.heap.size wr wr.drew := below_drewN (Below.refl _ _) 1
            have M3 : Hid (Ns W b g11 g58 (xc, xe, (kw : Int), xs, xl) (c, el, wd, sc, ls) wr.drew ∧ Row wr.drew g14 47 #[.int .i64 ac, .int .i64 ae, .int .i64 aw, .int .i64 as_, .int .i64 al]) := Lib.hid ⟨M2.out.1.under hd, M2.out.2.under hd⟩
            clear M2 hd
            generalize wr.drew = X20 at M3 hHeld ⊢
            refine wpAnyH_take (i := 0) (oi := ⟨some 130, _, _, _, _, none⟩) (v := ?_) rfl (by kernel_rfl) (by kernel_rfl) (by kernel_rfl) (fun _ _ _ h => h) (Or.inl ⟨by rfl, ?_⟩) (by assumption) ?_
            case refine_2 => (intro wx hSx; (try dsimp only at hSx); go_simp; first | done | with_reducible rfl)
            ((try simp only [Act.put]); (try simp only [List.setIfInBounds_toArray]); (try simp only [List.set_cons_succ]); (try simp only [List.set_cons_zero]))
            refine wpAnyH_take (i := 1) (oi := ⟨some 131, _, _, _, _, none⟩) (v := ?_) rfl (by kernel_rfl) (by kernel_rfl) (by kernel_rfl) (fun _ _ _ h => h) (Or.inl ⟨by rfl, ?_⟩) (by assumption) ?_
            case refine_2 => (intro wx hSx; (try dsimp only at hSx); go_simp; first | done | with_reducible rfl)
            ((try simp only [Act.put]); (try simp only [List.setIfInBounds_toArray]); (try simp only [List.set_cons_succ]); (try simp only [List.set_cons_zero]))
            refine wpAnyH_take (i := 3) (oi := ⟨some 133, _, _, _, _, none⟩) (v := ?_) rfl (by kernel_rfl) (by kernel_rfl) (by kernel_rfl) (fun _ _ _ h => h) (Or.inl ⟨by rfl, ?_⟩) (by assumption) ?_
            case refine_2 => (intro wx hSx; (try dsimp only at hSx); go_simp; first | done | with_reducible rfl)
            ((try simp only [Act.put]); (try simp only [List.setIfInBounds_toArray]); (try simp only [List.set_cons_succ]); (try simp only [List.set_cons_zero]))
            refine wpAnyH_take (i := 4) (oi := ⟨some 134, _, _, _, _, none⟩) (v := ?_) rfl (by kernel_rfl) (by kernel_rfl) (by kernel_rfl) (fun _ _ _ h => h) (Or.inl ⟨by rfl, ?_⟩) (by assumption) ?_
            case refine_2 => (intro wx hSx; (try dsimp only at hSx); go_simp; first | done | with_reducible rfl)
            ((try simp only [Act.put]); (try simp only [List.setIfInBounds_toArray]); (try simp only [List.set_cons_succ]); (try simp only [List.set_cons_zero]))
            refine wpAnyH_take (i := 5) (oi := ⟨some 135, _, _, _, _, none⟩) (v := ?_) rfl (by kernel_rfl) (by kernel_rfl) (by kernel_rfl) (fun _ _ _ h => h) (Or.inl ⟨by rfl, ?_⟩) (by assumption) ?_
            case refine_2 => (intro wx hSx; (try dsimp only at hSx); go_simp; first | done | with_reducible rfl)
            ((try simp only [Act.put]); (try simp only [List.setIfInBounds_toArray]); (try simp only [List.set_cons_succ]); (try simp only [List.set_cons_zero]))
            refine wpAnyH_take (i := 6) (oi := ⟨some 136, _, _, _, _, none⟩) (v := ?_) rfl (by kernel_rfl) (by kernel_rfl) (by kernel_rfl) (fun _ _ _ h => h) (Or.inl ⟨by rfl, ?_⟩) (by assumption) ?_
            case refine_2 => (intro wx hSx; (try dsimp only at hSx); go_simp; first | done | with_reducible rfl)
            ((try simp only [Act.put]); (try simp only [List.setIfInBounds_toArray]); (try simp only [List.set_cons_succ]); (try simp only [List.set_cons_zero]))
            refine wpAnyH_take (i := 7) (oi := ⟨some 137, _, _, _, _, none⟩) (v := ?_) rfl (by kernel_rfl) (by kernel_rfl) (by kernel_rfl) (fun _ _ _ h => h) (Or.inl ⟨by rfl, ?_⟩) (by assumption) ?_
            case refine_2 => (intro wx hSx; (try dsimp only at hSx); go_simp; first | done | with_reducible rfl)
            ((try simp only [Act.put]); (try simp only [List.setIfInBounds_toArray]); (try simp only [List.set_cons_succ]); (try simp only [List.set_cons_zero]))
            refine wpAnyH_take (i := 8) (oi := ⟨some 138, _, _, _, _, none⟩) (v := ?_) rfl (by kernel_rfl) (by kernel_rfl) (by kernel_rfl) (fun _ _ _ h => h) (Or.inl ⟨by rfl, ?_⟩) (by assumption) ?_
            case refine_2 => (intro wx hSx; (try dsimp only at hSx); go_simp; first | done | with_reducible rfl)
            ((try simp only [Act.put]); (try simp only [List.setIfInBounds_toArray]); (try simp only [List.set_cons_succ]); (try simp only [List.set_cons_zero]))
            refine wpAnyH_take (i := 9) (oi := ⟨some 139, _, _, _, _, none⟩) (v := ?_) rfl (by kernel_rfl) (by kernel_rfl) (by kernel_rfl) (fun _ _ _ h => h) (Or.inl ⟨by rfl, ?_⟩) (by assumption) ?_
            case refine_2 => (intro wx hSx; (try dsimp only at hSx); go_simp; first | done | with_reducible rfl)
            ((try simp only [Act.put]); (try simp only [List.setIfInBounds_toArray]); (try simp only [List.set_cons_succ]); (try simp only [List.set_cons_zero]))
            refine wpAnyH_take (i := 10) (oi := ⟨some 140, _, _, _, _, none⟩) (v := ?_) rfl (by kernel_rfl) (by kernel_rfl) (by kernel_rfl) (fun _ _ _ h => h) (Or.inl ⟨by rfl, ?_⟩) (by assumption) ?_
            case refine_2 => (intro wx hSx; (try dsimp only at hSx); go_simp; first | done | with_reducible rfl)
            ((try simp only [Act.put]); (try simp only [List.setIfInBounds_toArray]); (try simp only [List.set_cons_succ]); (try simp only [List.set_cons_zero]))
            refine wpAnyH_take (i := 11) (oi := ⟨some 141, _, _, _, _, none⟩) (v := ?_) rfl (by kernel_rfl) (by kernel_rfl) (by kernel_rfl) (fun _ _ _ h => h) (Or.inl ⟨by rfl, ?_⟩) (by assumption) ?_
            case refine_2 => (intro wx hSx; (try dsimp only at hSx); go_simp; first | done | with_reducible rfl)
            ((try simp only [Act.put]); (try simp only [List.setIfInBounds_toArray]); (try simp only [List.set_cons_succ]); (try simp only [List.set_cons_zero]))
            refine wpAnyH_take (i := 12) (oi := ⟨some 142, _, _, _, _, none⟩) (v := ?_) rfl (by kernel_rfl) (by kernel_rfl) (by kernel_rfl) (fun _ _ _ h => h) (Or.inl ⟨by rfl, ?_⟩) (by assumption) ?_
            case refine_2 => (intro wx hSx; (try dsimp only at hSx); go_simp; first | done | with_reducible rfl)
            ((try simp only [Act.put]); (try simp only [List.setIfInBounds_toArray]); (try simp only [List.set_cons_succ]); (try simp only [List.set_cons_zero]))
            refine wpAnyH_take (i := 15) (oi := ⟨some 145, _, _, _, _, none⟩) (v := ?_) rfl (by kernel_rfl) (by kernel_rfl) (by kernel_rfl) (fun _ _ _ h => h) (Or.inl ⟨by rfl, ?_⟩) (by assumption) ?_
            case refine_2 => (intro wx hSx; (try dsimp only at hSx); go_simp; first | done | with_reducible rfl)
            ((try simp only [Act.put]); (try simp only [List.setIfInBounds_toArray]); (try simp only [List.set_cons_succ]); (try simp only [List.set_cons_zero]))
            refine wpAnyH_ready (rs := [2]) (by kernel_rfl) (by simp) ?_
            refine AllReadyH.cons (o := ⟨some 132, _, _, _, _, none⟩) rfl (fun Kx hK => ?_) (AllReadyH.nil)
            go_simp
            refine (n_any W b _ 1048576 M3.out.1.1 (by omega) (by omega)).mono ?_
            rintro e w12 ⟨v2, ⟨k2, k3⟩, rfl, hs, hg⟩
            have M4 : Hid (Ns W b g11 g58 (xc, xe, (kw : Int), xs, xl) (c, el, wd, sc, ls) w12 ∧ Row w12 g14 47 #[.int .i64 ac, .int .i64 ae, .int .i64 aw, .int .i64 as_, .int .i64 al]) := Lib.hid ⟨M3.out.1.step hs hg, M3.out.2.keep M3.out.1.1 hg (by decide)⟩
            clear hs hg M3 hHeld
            go_simp
            refine hK.out _ _ (row5 M4.out.1.2.1).2.2.1 (fun hHeld => ?_)
            clear hK Kx
            ((try simp only [Act.put]); (try simp only [List.setIfInBounds_toArray]); (try simp only [List.set_cons_succ]); (try simp only [List.set_cons_zero]))
            refine wpAnyH_ready (rs := [13]) (by kernel_rfl) (by simp) ?_
            refine AllReadyH.cons (o := ⟨some 143, _, _, _, _, none⟩) rfl (fun Kx hK => ?_) (AllReadyH.nil)
            go_simp
            rw [sh_min hw2, HP.out, IntWalk.i64_in P (by omega), IntWalk.i64_in (P - 1) (by omega), IntWalk.i64_in (P - 2) (by omega), u_in hw2]
            have ha : Below w12.heap.size w12 (w12.alloc (.cells #[.int .i64 n0, .int .i64 v2, .int .i64 (P - 1), .int .i64 (P - 2)] 3)) := (Below.refl _ _).alloc (Nat.le_refl _) _
            have HA : Hid (Ns W b g11 g58 (xc, xe, (kw : Int), xs, xl) (c, el, wd, sc, ls) (w12.alloc (.cells #[.int .i64 n0, .int .i64 v2, .int .i64 (P - 1), .int .i64 (P - 2)] 3)) ∧ Row (w12.alloc (.cells #[.int .i64 n0, .int .i64 v2, .int .i64 (P - 1), .int .i64 (P - 2)] 3)) g14 47 #[.int .i64 ac, .int .i64 ae, .int .i64 aw, .int .i64 as_, .int .i64 al] ∧ Row (w12.alloc (.cells #[.int .i64 n0, .int .i64 v2, .int .i64 (P - 1), .int .i64 (P - 2)] 3)) w12.heap.size 3 #[.int .i64 n0, .int .i64 v2, .int .i64 (P - 1), .int .i64 (P - 2)]) := Lib.hid ⟨M4.out.1.under ha, M4.out.2.under ha, Row.new _ _ _⟩
            refine hK.out _ _ (row5 HA.out.1.2.1).2.2.1 (fun hHeld2 => ?_)
            clear hK Kx hHeld hHeld2 ha M4
            ((try simp only [Act.put]); (try simp only [List.setIfInBounds_toArray]); (try simp only [List.set_cons_succ]); (try simp only [List.set_cons_zero]))
            refine genH (fun V => Hid (Ns W b g11 g58 (xc, xe, (kw : Int), xs, xl) (c, el, wd, sc, ls) V ∧ Row V g14 47 #[.int .i64 ac, .int .i64 ae, .int .i64 aw, .int .i64 as_, .int .i64 al] ∧ Row V w12.heap.size 3 #[.int .i64 n0, .int .i64 v2, .int .i64 (P - 1), .int .i64 (P - 2)])) HA ?_
            clear HA
            generalize w12.heap.size = g143
            intro w13 M5
            have hHeld : w13.cell? ⟨g11, 2, none⟩ = some (.int .i64 (kw : Int)) := (row5 M5.out.1.2.1).2.2.1
            refine wpAnyH_take (i := 14) (oi := ⟨some 144, _, _, _, _, none⟩) (v := ?_) rfl (by kernel_rfl) (by kernel_rfl) (by kernel_rfl) (fun _ _ _ h => h) (Or.inl ⟨by rfl, ?_⟩) (by assumption) ?_
            case refine_2 => (intro wx hSx; (try dsimp only at hSx); go_simp; first | done | with_reducible rfl)
            ((try simp only [Act.put]); (try simp only [List.setIfInBounds_toArray]); (try simp only [List.set_cons_succ]); (try simp only [List.set_cons_zero]))
            refine wpAnyH_done (by kernel_rfl) ?_ _
            clear hHeld
            go_wp2_with fail
            go_loopw [145] (fun t Y => ∃ k : Nat, k ≤ 4 ∧ t = .int .i64 k ∧ Hid (Ns W b g11 g58 (xc, xe, (kw : Int), xs, xl) (c, el, wd, sc, ls) Y ∧ Row Y g14 47 #[.int .i64 ac, .int .i64 ae, .int .i64 aw, .int .i64 as_, .int .i64 al] ∧ Row Y g143 3 #[.int .i64 n0, .int .i64 v2, .int .i64 (P - 1), .int .i64 (P - 2)])) (fun t _ => 4 - (intOf t).toNat)
            case atStart => exact ⟨0, by decide, rfl, M5⟩
            case round =>
              clear M5
              obtain ⟨k, hk, rfl, M⟩ := hrel
              by_cases hlt4 : k < 4
              · have k0 : (0 : Int) ≤ (k : Int) := by omega
                have k1 : (k : Int) < 4 := by omega
                obtain ⟨y, hy, cy⟩ : ∃ y : Int, I64 y ∧ wr.cell? ⟨g143, k, none⟩ = some (.int .i64 y) := by
                  have h3 := row4 M.out.2.2
                  rcases (by omega : k = 0 ∨ k = 1 ∨ k = 2 ∨ k = 3) with rfl | rfl | rfl | rfl
                  · exact ⟨_, HN.out, h3.1⟩
                  · exact ⟨_, ⟨by omega, by omega⟩, h3.2.1⟩
                  · exact ⟨_, ⟨by omega, by omega⟩, h3.2.2.1⟩
                  · exact ⟨_, ⟨by omega, by omega⟩, h3.2.2.2⟩
                obtain ⟨z0, z1, z2, z3, z4⟩ := row5 M.out.2.1
                obtain ⟨⟨r1, r2⟩, hr⟩ : ∃ r, decA (ac, ae, aw, as_, al) y = r := ⟨_, rfl⟩
                have HE := Lib.hid (fun X (h : Tab X) => decode_any (ac, ae, aw, as_, al) y X h HXI.out)
                have HF := Lib.hid (fun X => refDecode_any (ac, ae, aw, as_, al) y X HXI.out)
                rw [hr] at HE HF
                have HR := Lib.hid hr
                clear hr hy
                simp only [enV] at HE HF
                go_wp2_with fail
                refine (HE.out _ (HW.out.2.2.1.under M.out.1.1.below)).mono ?_
                rintro e w14 ⟨rfl, hb⟩
                have M9 : Hid (Ns W b g11 g58 (xc, xe, (kw : Int), xs, xl) (c, el, wd, sc, ls) w14 ∧ Row w14 g14 47 #[.int .i64 ac, .int .i64 ae, .int .i64 aw, .int .i64 as_, .int .i64 al] ∧ Row w14 g143 3 #[.int .i64 n0, .int .i64 v2, .int .i64 (P - 1), .int .i64 (P - 2)]) := Lib.hid ⟨M.out.1.under hb, M.out.2.1.under hb, M.out.2.2.under hb⟩
                clear hb M cy z0 z1 z2 z3 z4
                obtain ⟨z0, z1, z2, z3, z4⟩ := row5 M9.out.2.1
                go_wp2_with fail
                refine (HF.out _).mono ?_
                rintro e w15 ⟨rfl, hb⟩
                have MA : Hid (Ns W b g11 g58 (xc, xe, (kw : Int), xs, xl) (c, el, wd, sc, ls) w15 ∧ Row w15 g14 47 #[.int .i64 ac, .int .i64 ae, .int .i64 aw, .int .i64 as_, .int .i64 al] ∧ Row w15 g143 3 #[.int .i64 n0, .int .i64 v2, .int .i64 (P - 1), .int .i64 (P - 2)]) := Lib.hid ⟨M9.out.1.under hb, M9.out.2.1.under hb, M9.out.2.2.under hb⟩
                clear hb M9 z0 z1 z2 z3 z4 HE HF
                obtain ⟨z0, z1, z2, z3, z4⟩ := row5 MA.out.2.1
                obtain ⟨⟨s1, s2⟩, hs0⟩ : ∃ r, encA (ac, ae, aw, as_, al) r1 = r := ⟨_, rfl⟩
                have HE := Lib.hid (fun X (h : Tab X) => encode_any (ac, ae, aw, as_, al) r1 X h HXI.out)
                rw [hs0] at HE
                simp only [enV] at HE
                have HS := Lib.hid hs0
                clear hs0
                go_wp2_with fail
                refine (HE.out _ (HW.out.2.2.1.under MA.out.1.1.below)).mono ?_
                rintro e w16 ⟨rfl, hb⟩
                have MB : Hid (Ns W b g11 g58 (xc, xe, (kw : Int), xs, xl) (c, el, wd, sc, ls) w16 ∧ Row w16 g14 47 #[.int .i64 ac, .int .i64 ae, .int .i64 aw, .int .i64 as_, .int .i64 al] ∧ Row w16 g143 3 #[.int .i64 n0, .int .i64 v2, .int .i64 (P - 1), .int .i64 (P - 2)]) := Lib.hid ⟨MA.out.1.under hb, MA.out.2.1.under hb, MA.out.2.2.under hb⟩
                clear hb MA z0 z1 z2 z3 z4 HE
                by_cases hr2 : r2 = true
                · subst hr2
                  have hed := enc_dec (e := (ac, ae, aw, as_, al)) (y := y) (by rw [HR.out])
                  rw [HR.out, HS.out] at hed
                  injection hed with hd1 hd2
                  subst hd1; subst hd2
                  go_wp2_with fail
                  go_roundw
                  case rel => exact ⟨k + 1, by omega, by go_num, by first | exact MB | exact Lib.hid ⟨MB.out.1.drew, MB.out.2.1.drew, MB.out.2.2.drew⟩⟩
                  case measure => simp [intOf]; omega
                · have hr2 : r2 = false := by simpa using hr2
                  subst hr2
                  go_wp2_with fail
                  go_roundw
                  case rel => exact ⟨k + 1, by omega, by go_num, by first | exact MB | exact Lib.hid ⟨MB.out.1.drew, MB.out.2.1.drew, MB.out.2.2.drew⟩⟩
                  case measure => simp [intOf]; omega
              · have k1 : ¬ (k : Int) < 4 := by omega
                go_wp2_with fail
                go_roundw
                case rel => exact ⟨i + 1, by omega, by go_num, Lib.hid M.out.1⟩
                case measure => simp [intOf]; omega
      · have i1 : ¬ (i : Int) < 3 := by omega
        go_wp2_with fail
        refine (awake_from (w0 := W) wr (HW.out.2.2.1.under M.out.1.below) M.out.1.below).mono ?_
        rintro e w9 ⟨rfl, hb⟩
        have HB0 : Below W0.heap.size W0 W := by have := HW.out.2.2.2; rwa [← E4.out] at this
        have HF : Hid (Below W0.heap.size W0 w9) := Lib.hid (HB0.trans (hb.mono HB0.size))
        clear HB0
        clear hb
        go_wp2_with fail
        go_ret
        exact ⟨rfl, HF.out⟩
end Go.Proofs.YtjaopjhfjijdaaaDoor
