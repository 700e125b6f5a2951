/- The program's lines: its first loop. -/
import Derived.Test.YtlakgkoohdfiaaaDoorQao
import Derived.Test.YtlakgkoohdfiaaaDoorTmF
namespace Go.Proofs.YtlakgkoohdfiaaaDoor.Tm
open Go.RowKit Go.Maps Go.ChangeMaps

/-- What is known in the loops of lines. -/
def Gs (w : World) (b : Nat) (E : List (Ke × Pt)) (Y : World) : Prop := ∃ f, Gm w E.length (gr E) b f Y
theorem Gs.under {w Y Y' : World} {b : Nat} {E : List (Ke × Pt)} (h : Gs w b E Y) (hb : Below Y.heap.size Y Y') : Gs w b E Y' := by
  obtain ⟨f, hf⟩ := h
  exact ⟨f, hf.under hb⟩
theorem Gs.below {w Y : World} {b : Nat} {E : List (Ke × Pt)} (h : Gs w b E Y) : Below w.heap.size w Y := by
  obtain ⟨f, hf⟩ := h
  exact hf.below
theorem Gm.to {w Y : World} {b n n' : Nat} {g g' : Ke → List Pt} {f : Ke → Option Value} (h : Gm w n g b f Y) (hn : n = n') (hg : g = g') : Gm w n' g' b f Y := by subst hn hg; exact h
/-- The map after the first loop. -/
def LnA (w : World) (Q : List Rp) (b : Nat) (Y : World) : Prop := Gs w b (entK Q Q.length) Y
set_option maxRecDepth 100000 in
set_option maxHeartbeats 8000000 in
theorem lines_any (v : Value) (Q : List Rp) (w : World) (hv : RpsIn w v Q) (hl : Q.length ≤ 1000) (hn : ∀ r ∈ Q, r.nm.size ≤ 40) (hx : ∀ r ∈ Q, El.Elt.vld r.L = 0) (hds : Dis Q) :
    Calls Tryd.prog 79 #[v] w (LnO Q w) := by
  have HN := Lib.hid hn; clear hn
  have HX := Lib.hid hx; clear hx
  have HDs := Lib.hid hds; clear hds
  have HL40 : Hid (∀ r ∈ Q, r.L.length ≤ 40) := Lib.hid (fun r hr => by have := le11 (HX.out r hr); omega)
  have hmm := @run_makeMap Tryd.prog
  have I0 : Hid (Gs w w.heap.size [] (w.alloc (.map #[] 0))) := Lib.hid ⟨_, (Gm.made w).to rfl (by funext k; rfl)⟩
  obtain ⟨A, cap, rfl, h1, h2, -⟩ := id hv
  have HV := Lib.hid hv; clear hv
  obtain ⟨i0, hi, hz0, hz1, hz2⟩ := info_parts infoP
  go_enter Tryd.func79, Tryd.ntmps79
  go_upto_region 2 with fail
  refine forget (fun Y => Hid (Gs w w.heap.size [] Y)) I0 ?_
  clear I0 hmm
  obtain ⟨b, hb⟩ : ∃ g, w.heap.size = g := ⟨_, rfl⟩
  have HBB := Lib.hid hb
  rw [hb]
  clear hb
  rintro Y I0
  go_wp2_with fail
  go_loopw [14] (fun t wr => ∃ k : Nat, k ≤ Q.length ∧ t = .int .i64 (k : Int) ∧ Hid (Gs w b (entK Q k) wr)) (fun t _ => Q.length - (intOf t).toNat)
  case atStart => exact ⟨0, Nat.zero_le _, rfl, I0⟩
  case round =>
    clear I0
    obtain ⟨k, hk, rfl, H1⟩ := hrel
    by_cases hlt : k < Q.length
    · obtain ⟨A', cap', e, -, -, hat⟩ := HV.out.under H1.out.below
      injection e with e1 e2 e3
      subst e1
      obtain ⟨g, off, hAq, hgl, ⟨c0, c1, c2, c3, c4, c5, c6, c7⟩, hrd⟩ := hat k hlt
      subst hAq
      have k1 : (k : Int) < (Q.length : Int) := by omega
      have k2 : (0 : Int) ≤ (k : Int) := by omega
      have HEk := Lib.hid (entK_succ hlt)
      have HEl := Lib.hid (entK_len HL40.out k)
      have HNk := Lib.hid (HN.out _ (List.getElem_mem hlt))
      have HRd : Hid (El.RdIn w Q[k].u Q[k].L) := Lib.hid (by
        obtain ⟨_, _, -, -, -, hat0⟩ := HV.out
        obtain ⟨_, _, -, -, -, h⟩ := hat0 k hlt
        exact h)
      have HXk := Lib.hid (HX.out _ (List.getElem_mem hlt))
      clear hat e3 hgl e2
      obtain ⟨r, hr⟩ : ∃ r, Q[k] = r := ⟨_, rfl⟩
      rw [hr] at c0 c1 c2 c3 c4 c5 c6 c7 hrd HEk HNk HXk HRd
      clear hr
      obtain ⟨E2, hE2⟩ : ∃ E, entK Q (k + 1) = E := ⟨_, rfl⟩
      rw [hE2] at HEk
      have HE2 := Lib.hid hE2
      clear hE2
      obtain ⟨rk, rn, rt, rF, rA, rB, rC, ru, rL⟩ := r
      simp only at c0 c1 c2 c3 c4 c5 c6 c7 hrd HEk HNk HXk HRd
      obtain ⟨Au, cu, eu, -⟩ := id hrd
      have eu' : ru = .slice Au rL.length cu := eu
      subst eu'
      clear eu
      have hL11 : rL.length ≤ 11 := le11 HXk.out
      have b1 := (Below.refl wr.heap.size wr).alloc (Nat.le_refl _) (.cells (repC rk rn rt rF rA rB rC (.slice Au rL.length cu)) 38)
      have H2 : Hid (Gs w b (entK Q k ++ entR k ⟨rk, rn, rt, rF, rA, rB, rC, .slice Au rL.length cu, rL⟩ 0) (wr.alloc (.cells (repC rk rn rt rF rA rB rC (.slice Au rL.length cu)) 38)) ∧ Row (wr.alloc (.cells (repC rk rn rt rF rA rB rC (.slice Au rL.length cu)) 38)) wr.heap.size 38 (repC rk rn rt rF rA rB rC (.slice Au rL.length cu))) := Lib.hid ⟨by rw [entR_zero, List.append_nil]; exact H1.out.under b1, Row.new _ _ _⟩
      clear b1 hrd H1
      go_upto_region 5 with fail
      refine forget (fun Y => Hid (Gs w b (entK Q k ++ entR k ⟨rk, rn, rt, rF, rA, rB, rC, .slice Au rL.length cu, rL⟩ 0) Y ∧ Row Y wr.heap.size 38 (repC rk rn rt rF rA rB rC (.slice Au rL.length cu)))) H2 ?_
      clear H2 c0 c1 c2 c3 c4 c5 c6 c7
      generalize wr.heap.size = gp at *
      rintro Y2 H2
      obtain ⟨q0, q1, q2, q3, q4, q5, q6, q7⟩ := row8 H2.out.2
      go_wp2_with fail
      clear q0 q1 q2 q3 q4 q5 q6 q7
      go_loopw [22] (fun t wr => ∃ j : Nat, j ≤ rL.length ∧ t = .int .i64 (j : Int) ∧ Hid (Gs w b (entK Q k ++ entR k ⟨rk, rn, rt, rF, rA, rB, rC, .slice Au rL.length cu, rL⟩ j) wr ∧ Row wr gp 38 (repC rk rn rt rF rA rB rC (.slice Au rL.length cu)))) (fun t _ => rL.length - (intOf t).toNat)
      case atStart => exact ⟨0, Nat.zero_le _, rfl, H2⟩
      case round =>
        clear H2
        obtain ⟨j, hj, rfl, H3⟩ := hrel
        by_cases hlj : j < rL.length
        · obtain ⟨A5, cap5, e5, -, -, hat⟩ := HRd.out.under H3.out.1.below
          injection e5 with e51 e52 e53
          subst e51
          obtain ⟨g5, off5, hA5, hg5, c0, c1⟩ := hat j hlj
          subst hA5
          have j0 : (0 : Int) ≤ (j : Int) := by omega
          have j1 : (j : Int) < (rL.length : Int) := by omega
          have HSn := Lib.hid (entR_snoc (i := k) (r := ⟨rk, rn, rt, rF, rA, rB, rC, .slice (some ⟨g5, off5, none⟩) rL.length cu, rL⟩) hlj)
          have HVb : Hid (1 ≤ rL[j].1 ∧ rL[j].1 ≤ 11) := Lib.hid (by
            have := (bd0 HXk.out _ (List.getElem_mem hlj)).1
            exact this)
          have HEj : Hid ((entK Q k ++ entR k ⟨rk, rn, rt, rF, rA, rB, rC, .slice (some ⟨g5, off5, none⟩) rL.length cu, rL⟩ j).length ≤ 50000) := Lib.hid (by
            have h1 := HEl.out
            have h2 := entR_len k ⟨rk, rn, rt, rF, rA, rB, rC, .slice (some ⟨g5, off5, none⟩) rL.length cu, rL⟩ j
            rw [List.length_append]
            have h3 : (⟨rk, rn, rt, rF, rA, rB, rC, .slice (some ⟨g5, off5, none⟩) rL.length cu, rL⟩ : Rp).L.length = rL.length := rfl
            omega)
          clear hat e53 e52 hg5
          obtain ⟨E3, hE3⟩ : ∃ E, entK Q k ++ entR k ⟨rk, rn, rt, rF, rA, rB, rC, .slice (some ⟨g5, off5, none⟩) rL.length cu, rL⟩ (j + 1) = E := ⟨_, rfl⟩
          obtain ⟨E1, hE1⟩ : ∃ E, entK Q k ++ entR k ⟨rk, rn, rt, rF, rA, rB, rC, .slice (some ⟨g5, off5, none⟩) rL.length cu, rL⟩ j = E := ⟨_, rfl⟩
          have HE31 : Hid (E3 = E1 ++ [((rn, rL[j].1), ⟨rL[j].2, rt, k⟩)]) := Lib.hid (by rw [← hE3, ← hE1, HSn.out, List.append_assoc])
          have HE3 := Lib.hid hE3
          rw [hE1] at H3 HEj
          clear hE3 hE1 HSn
          generalize rL[j] = x at *
          obtain ⟨xc, xv⟩ := x
          simp only at c0 c1 HVb HE31
          have bb := ((Below.refl wr.heap.size wr).alloc (Nat.le_refl _) (.cells #[.int .i64 xc, .int .i64 xv] 81)).alloc (by simp) (.cells #[.string rn, .int .i64 xc] 132)
          have H4 : Hid ((Gs w b E1 ((wr.alloc (.cells #[.int .i64 xc, .int .i64 xv] 81)).alloc (.cells #[.string rn, .int .i64 xc] 132)) ∧ Row ((wr.alloc (.cells #[.int .i64 xc, .int .i64 xv] 81)).alloc (.cells #[.string rn, .int .i64 xc] 132)) gp 38 (repC rk rn rt rF rA rB rC (.slice (some ⟨g5, off5, none⟩) rL.length cu))) ∧ Row ((wr.alloc (.cells #[.int .i64 xc, .int .i64 xv] 81)).alloc (.cells #[.string rn, .int .i64 xc] 132)) wr.heap.size 81 #[.int .i64 xc, .int .i64 xv] ∧ Row ((wr.alloc (.cells #[.int .i64 xc, .int .i64 xv] 81)).alloc (.cells #[.string rn, .int .i64 xc] 132)) (wr.heap.size + 1) 132 #[.string rn, .int .i64 xc]) := Lib.hid ⟨⟨H3.out.1.under bb, H3.out.2.under bb⟩, (Row.new _ _ _).alloc _, Row.newAt (by simp)⟩
          obtain ⟨q0, q1, q2, q3, q4, q5, q6, q7⟩ := row8 H3.out.2
          have hgp := H3.out.2.lt
          clear bb H3
          go_upto_region 9 with fail
          refine forget (fun Y => Hid ((Gs w b E1 Y ∧ Row Y gp 38 (repC rk rn rt rF rA rB rC (.slice (some ⟨g5, off5, none⟩) rL.length cu))) ∧ Row Y wr.heap.size 81 #[.int .i64 xc, .int .i64 xv] ∧ Row Y (wr.heap.size + 1) 132 #[.string rn, .int .i64 xc])) H4 ?_
          clear H4 c0 c1 q0 q1 q2 q3 q4 q5 q6 q7 hgp
          obtain ⟨go, hgo⟩ : ∃ g, wr.heap.size + 1 = g := ⟨_, rfl⟩
          rw [hgo]
          clear hgo
          generalize wr.heap.size = gx at *
          rintro Y6 H6
          obtain ⟨q0, q1, q2, q3, q4, q5, q6, q7⟩ := row8 H6.out.1.2
          obtain ⟨x0, x1⟩ := row2 H6.out.2.1
          obtain ⟨o0, o1⟩ := row2 H6.out.2.2
          obtain ⟨f, hG⟩ := H6.out.1.1
          have hbY := hG.map.lt
          have ba := (Below.refl Y6.heap.size Y6).alloc (Nat.le_refl _) (.cells #[.int .i64 xv, .int .i64 rt, .int .i64 (k : Int)] 137)
          have hRy : Row (Y6.alloc (.cells #[.int .i64 xv, .int .i64 rt, .int .i64 (k : Int)] 137)) Y6.heap.size 137 #[.int .i64 xv, .int .i64 rt, .int .i64 (k : Int)] := Row.new _ _ _
          have hGa := hG.under ba
          have hgp := (H6.out.1.2.under ba)
          have hok : KeOk (rn, xc) := ⟨Nat.le_trans HNk.out (by decide), by have := HVb.out; exact ⟨by show -9223372036854775808 ≤ xc; omega, by show xc ≤ 9223372036854775807; omega⟩⟩
          obtain ⟨st, w1, hr1, hg1, hs1, hst⟩ := hGa.map.entry Tryd.underlying129 (by have := HEj.out; unfold maxLen; omega) (z := .slice none 0 0) (fun u => Tryd.zeroValue133 u) hok
          have hown := hGa.at_ (rn, xc)
          have hbu := hGa.map.ne_own hown
          have hown1 : w1.ownsRow w.heap.size 137 3 ((f (rn, xc)).getD (.slice none 0 0)) (gr E1 (rn, xc)).length (rc ptE (gr E1 (rn, xc))) := own_heap hown fun i hi => hg1.block i (row_size hown hi) (fun e => hbu (by rw [hi, e]))
          have hR1 : Row w1 Y6.heap.size 137 #[.int .i64 xv, .int .i64 rt, .int .i64 (k : Int)] := hRy.grown hg1 (fun e => by injection e with e; omega)
          have hgp1 : Row w1 gp 38 (repC rk rn rt rF rA rB rC (.slice (some ⟨g5, off5, none⟩) rL.length cu)) := hgp.grown hg1 (fun e => hGa.map.ne_row hgp (by injection e with e; exact e.symm))
          have hbel : w.heap.size ≤ w1.heap.size := by rw [hs1]; exact hGa.below.size
          have HOut := Lib.hid (And.intro hGa (And.intro hg1 (And.intro hst (And.intro hgp1 hbu))))
          have HNb := Lib.hid (hGa.map.ne_row hgp)
          have HOk := Lib.hid hok
          have HO1 := Lib.hid hown1
          have HR1 := Lib.hid hR1
          have HS1 := Lib.hid hs1
          have HBY := Lib.hid hbY
          have hgl : (gr E1 (rn, xc)).length ≤ 50000 := Nat.le_trans (gr_len _ _) HEj.out
          unfold keV at hr1
          dsimp only at hr1
          clear hG ba hRy hGa hgp hg1 hst hown hbu hown1 hR1 hgp1 hs1 hbY H6
          obtain ⟨u, hu⟩ : ∃ u, (f (rn, xc)).getD (.slice none 0 0) = u := ⟨_, rfl⟩
          rw [hu] at hr1 HO1
          have HU := Lib.hid hu
          clear hu
          go_wp2_with (at_builtin; go_loud (refine wpList_append_at rfl (.tmp 33) (.tmp 40) 133 rfl w.heap.size 137 i0 (.agg #[.int .i64 0, .int .i64 0, .int .i64 0]) 3 24 Tryd.underlying133 hi hz0 hz1 hz2 rfl (by decide) u (gr E1 (rn, xc)).length (rc ptE (gr E1 (rn, xc))) rfl HO1.out ⟨Y6.heap.size, 0, none⟩ 1 1 (ptE ⟨xv, rt, k⟩) rfl rfl (fun q v hv => by rw [Addr.add_lit, Nat.zero_add, HR1.out.cell, ← hv]; simp [ptE]) (fun v hv => by simp [ptE] at hv; rcases hv with rfl | rfl | rfl <;> rfl) (by unfold maxLen; omega) (by omega) hbel ?_); intro v' w2 ho2 hg2 hn2; have HW2 := Lib.hid (And.intro ho2 (And.intro hg2 hn2)); clear ho2 hg2 hn2; obtain ⟨w3, hr3, hm3, hg3⟩ := HOut.out.2.2.1 w2 v' (HW2.out.2.1.block b (by rw [HS1.out]; exact HOut.out.1.map.lt) (fun e => HOut.out.2.2.2.2 (by rw [HU.out]; exact e))); have HW3 := Lib.hid (And.intro hm3 hg3); clear hm3 hg3)
          have HNE : Hid (Gs w b E3 w3 ∧ Row w3 gp 38 (repC rk rn rt rF rA rB rC (.slice (some ⟨g5, off5, none⟩) rL.length cu))) := Lib.hid (by
            obtain ⟨hGa, hg1, hst, hgp1, hbu⟩ := HOut.out
            obtain ⟨ho2, hg2, hn2⟩ := HW2.out
            obtain ⟨hm3, hg3⟩ := HW3.out
            have hgu : w1.grownBy w2 ((f (rn, xc)).getD (.slice none 0 0)).ownBlock := by rw [HU.out]; exact hg2
            have hst := hGa.step (rn, xc) HOk.out ⟨xv, rt, k⟩ ho2 ⟨w1, hg1, hgu⟩ (hn2.imp (fun h => by rw [HU.out]; exact h) (fun h => ⟨_, h, by rw [HS1.out]; exact Nat.le_refl _⟩)) hm3 hg3
            have hgp2 : Row w2 gp 38 (repC rk rn rt rF rA rB rC (.slice (some ⟨g5, off5, none⟩) rL.length cu)) := hgp1.grown hg2 (fun e => row_not HO1.out hgp1 (by decide) e.symm)
            refine ⟨⟨_, hst.to (by rw [HE31.out]; simp) (by rw [HE31.out, gr_snoc])⟩, hgp2.grown hg3 (fun e => HNb.out (by injection e with e; exact e.symm))⟩)
          clear HOut HW2 HW3 HO1 HR1 HU
          have HNF : Hid (Gs w b (entK Q k ++ entR k ⟨rk, rn, rt, rF, rA, rB, rC, .slice (some ⟨g5, off5, none⟩) rL.length cu, rL⟩ (j + 1)) w3 ∧ Row w3 gp 38 (repC rk rn rt rF rA rB rC (.slice (some ⟨g5, off5, none⟩) rL.length cu))) := Lib.hid (by rw [HE3.out]; exact HNE.out)
          exact ⟨⟨j + 1, by omega, by go_num, HNF⟩, by simp [intOf]; omega⟩
        · obtain rfl : j = rL.length := by omega
          have j1 : ¬ (rL.length : Int) < (rL.length : Int) := by omega
          have HF : Hid (Gs w b (entK Q (k + 1)) wr) := Lib.hid (by rw [HE2.out, HEk.out]; exact H3.out.1)
          clear H3
          go_wp2_with fail
          exact ⟨⟨k + 1, by omega, by go_num, HF⟩, by simp [intOf]; omega⟩
    · obtain rfl : k = Q.length := by omega
      have k1 : ¬ (Q.length : Int) < (Q.length : Int) := by omega
      obtain ⟨f, hG⟩ := H1.out
      have HEl : Hid ((entK Q Q.length).length ≤ 50000) := Lib.hid (by have := entK_len HL40.out Q.length; omega)
      have HLn := Lib.hid (fun key L' => lin_sorted (Q := Q) (fun r hr => vld_asc (HX.out r hr)) HDs.out (key := key) (L' := L'))
      obtain ⟨E, hE⟩ : ∃ E, entK Q Q.length = E := ⟨_, rfl⟩
      rw [hE] at hG HEl HLn
      clear hE H1
      have HFI : Hid (∀ k v, f k = some v → ∀ i, v.ownBlock = some i → i < wr.heap.size) := Lib.hid (fun k v e i hi => row_size (hG.rows k v e).1 hi)
      have HOK := Lib.hid hG.ok
      have hbl := hG.map.lt
      obtain ⟨D, hown, hD⟩ := hG.map
      have HD := Lib.hid hD
      have HG := Lib.hid hG
      have HGl : Hid (∀ k, (gr E k).length ≤ 50000) := Lib.hid (fun k => Nat.le_trans (gr_len E k) HEl.out)
      obtain ⟨n, hn⟩ : ∃ n, E.length = n := ⟨_, rfl⟩
      rw [hn] at hown HEl HG
      clear hD hG hn
      go_wp2_with (at_range; refine wpList_range_own _ rfl _ 129 rfl 132 133 Ow.law Tryd.underlying129 MsR b n D rfl hown ?_; intro w1 hrg hgr hsz)
      try go_frame
      have HN0 : Hid (G2 w n (gr E) b wr.heap.size D f (Maps.has D) (Maps.size D) w1 ∧ Sd (Maps.has D) (gr E) E f) := Lib.hid ⟨⟨HG.out.grow hgr, hrg, by omega⟩, Sd.start HD.out HG.out.nil⟩
      clear hrg hgr hsz hown
      obtain ⟨gi, hgi⟩ : ∃ g, wr.heap.size = g := ⟨_, rfl⟩
      rw [hgi] at HN0 HFI hbl ⊢
      clear hgi HG
      go_loopw [48] (fun t wr => ∃ (left : Lit → Bool) (cnt : Nat) (g : Ke → List Pt), Hid (G2 w n g b gi D f left cnt wr ∧ Sd left g E f)) (fun _ wr => wr.rangeLeft b gi)
      case atStart => exact ⟨_, _, _, HN0⟩
      case round =>
        obtain ⟨left, cnt, g, HN⟩ := hrel
        clear HN0
        have hrange := HN.out.1.rng
        go_wp2_with (at_next; refine wpList_next_ranges _ rfl _ rfl 132 Ow.law MsR keV (fun v : Value => v) (fun key kl h => by obtain ⟨k, e, -⟩ := Ow.nk_inv h; exact ⟨k, e⟩) (fun v y _ => ⟨v, rfl⟩) b gi n D left cnt rfl hrange ?_ ?_)
        · intro _ hl0
          have HEnd : Hid (LnO Q w (.returned (.map (some b))) wr) := Lib.hid (by
            refine ⟨b, f, n, rfl, HEl.out, HN.out.1.gm.to rfl ?_⟩
            funext k
            refine HLn.out k (g k) (HN.out.2.perm k) ?_
            cases hf : f k with
            | none => rw [HN.out.2.non k hf]; exact List.Pairwise.nil
            | some v => exact (HN.out.2.srt k (HOK.out k v hf) (hl0 _)).imp fun {x y} h => by omega)
          clear hl0 hrange HN
          go_wp2_with fail
          go_ret
          exact HEnd.out
        · intro x1 x2 c kl y1 y2 w2 cnt2 hkey hlx hy hat hrg1 hlt hg1 hs1 hen
          obtain ⟨hfx, rfl, hok⟩ := at_key HD.out hkey hy hat
          have HFx := Lib.hid hfx
          have HKx := Lib.hid hok
          have HRO := Lib.hid hrange
          have HLT := Lib.hid hlt
          have HG2 : Hid (G2 w n g b gi D f (fun z => left z && !z.sameKey (Ow.nk (x1, x2))) cnt2 w2) := Lib.hid ⟨HN.out.1.gm.grown1 hg1 (fun k v e i hi q => by have := HFI.out k v e i hi; omega) hbl, hrg1, Nat.le_trans HN.out.1.it hg1.size⟩
          have HS2 := Lib.hid HN.out.2
          clear hkey hlx hy hat hrg1 hg1 hs1 hrange hlt hfx hok HN
          have hr := (HG2.out.gm.rows _ _ HFx.out).1
          obtain ⟨Ac, cc, ec⟩ := row_form hr
          subst ec
          have HSo := Lib.hid (sortP_any w.heap.size _ (g (x1, x2)) w2 (by have := (HS2.out.perm (x1, x2)).length_eq; have := HGl.out (x1, x2); omega) hr)
          clear hr
          unfold keV at hen
          dsimp only at hen
          go_wp2_with fail
          refine HSo.out.mono ?_
          rintro e w4 ⟨rfl, hgr4, L4, hp4, hs4, ho4⟩
          have HN4 : Hid (G2 w n (fun k => if k = (x1, x2) then L4 else g k) b gi D f (fun z => left z && !z.sameKey (Ow.nk (x1, x2))) cnt2 w4 ∧ Sd (fun z => left z && !z.sameKey (Ow.nk (x1, x2))) (fun k => if k = (x1, x2) then L4 else g k) E f) := Lib.hid (by
            have hr := HG2.out.gm.rows _ _ HFx.out
            refine ⟨⟨HG2.out.gm.sort HFx.out hp4.length_eq ho4 hgr4, HG2.out.rng.kept hgr4 (HG2.out.gm.map.ne_own hr.1) (fun q => ?_), Nat.le_trans HG2.out.it hgr4.size⟩, HS2.out.step HFx.out HKx.out hp4 hs4⟩
            have := HFI.out _ _ HFx.out gi q.symm
            omega)
          clear hgr4 hp4 hs4 ho4 HSo HG2 HS2
          go_wp2_with fail
          exact ⟨⟨_, _, _, HN4⟩, by rw [HN4.out.1.rng.left_eq, HRO.out.left_eq]; exact HLT.out⟩
end Go.Proofs.YtlakgkoohdfiaaaDoor.Tm
