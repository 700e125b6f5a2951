/- The contract of the reference's Learn. -/
import Derived.Test.YtlakgkoohdfiaaaDoorQao
namespace Go.Proofs.YtlakgkoohdfiaaaDoor
open Go.RowKit

theorem L1.put {W w : World} {uv : Value} {R : List Rp} {gr : Nat} (h : L1 W uv R gr w) (v : Value) : Row (w.setCell ⟨gr, 0, none⟩ v) gr 24 #[v] ∧ Below W.heap.size W (w.setCell ⟨gr, 0, none⟩ v) := ⟨h.res.put 0 v, set1_below h.below h.hgr⟩
theorem L2.keepOwn {W w : World} {uv : Value} {R : List Rp} {gr go : Nat} {N : List Cm.N5} {u : Value} (h : L2 W uv R gr go N u w) (v : Value) : (w.setCell ⟨gr, 0, none⟩ v).ownsRow W.heap.size 50 5 u N.length (nrc N) :=
  own_heap h.own fun i hi => Below.heap_setCell w ⟨gr, 0, none⟩ v i (fun e => row_not h.own h.l1.res (by decide) (by have e' : i = gr := e; rw [← e']; exact hi))
/-- A block is laid and a row of the call's own grows. -/
theorem L1.grow {W w w9 : World} {uv : Value} {R : List Rp} {gr : Nat} {tmp : Obj} {bl : Option Nat} (h : L1 W uv R gr w) (h0 : RpsIn W uv R) (hg : (w.alloc tmp).grownBy w9 bl) (hb : ∀ i, bl = some i → W.heap.size ≤ i ∧ i ≠ gr) : L1 W uv R gr w9 := by
  have hal : Below w.heap.size w (w.alloc tmp) := (Below.refl _ _).alloc (Nat.le_refl _) _
  have h1 := h.below.alloc h.below.size tmp
  have hB : Below W.heap.size W w9 := h1.grown hg h1.size (fun i e => (hb i e).1)
  exact ⟨hB, h0.under hB, (h.res.alloc _).grown hg (fun e => (hb gr e.symm).2 rfl), h.hgr⟩
theorem L2.grow {W w w9 : World} {uv u : Value} {R : List Rp} {N : List Cm.N5} {gr go : Nat} {tmp : Obj} {bl : Option Nat} (h : L2 W uv R gr go N u w) (h0 : RpsIn W uv R) (hg : (w.alloc tmp).grownBy w9 bl) (hb : ∀ i, bl = some i → W.heap.size ≤ i ∧ i ≠ gr ∧ i ≠ go ∧ u.ownBlock ≠ some i) : L2 W uv R gr go N u w9 := by
  have hal : Below w.heap.size w (w.alloc tmp) := (Below.refl _ _).alloc (Nat.le_refl _) _
  exact ⟨h.l1.grow h0 hg (fun i e => ⟨(hb i e).1, (hb i e).2.1⟩), (h.box.alloc _).grown hg (fun e => (hb go e.symm).2.2.1 rfl),
    own_heap h.own (fun i hi => (hg.block i (by have := row_size h.own hi; have := hal.size; omega) (fun e => (hb i e.symm).2.2.2 hi)).trans (Below.heap_alloc w _ i (row_size h.own hi))), h.hgo, h.ne⟩
theorem L3.app {W w w9 : World} {uv u vs v' : Value} {R : List Rp} {N : List Cm.N5} {V : List Int} {gr go : Nat} {tmp : Obj} {x : Int} (h : L3 W uv R gr go N u V vs w) (h0 : RpsIn W uv R) (hg : (w.alloc tmp).grownBy w9 vs.ownBlock)
    (ho : w9.ownsRow W.heap.size 3 1 v' (V.length + 1) (nmc V ++ [.int .i64 x])) : L3 W uv R gr go N u (V ++ [x]) v' w9 := by
  refine ⟨h.l2.grow h0 hg (fun i e => ⟨row_base h.own e, fun q => ?_, fun q => ?_, fun q => ?_⟩), ?_⟩
  · subst q; exact row_not h.own h.l2.l1.res (by decide) e
  · subst q; exact row_not h.own h.l2.box (by decide) e
  · obtain ⟨c1, h1, -⟩ := row_own h.own e
    obtain ⟨c2, h2, -⟩ := row_own h.l2.own q
    rw [h1] at h2; injection h2 with h2; injection h2 with _ h2; exact absurd h2 (by decide)
  · have e : nmc V ++ [.int .i64 x] = nmc (V ++ [x]) := by simp [nmc]
    rw [e] at ho
    rw [List.length_append]; exact ho
theorem L1.grow' {W w w9 : World} {uv : Value} {R : List Rp} {gr : Nat} {bl : Option Nat} (h : L1 W uv R gr w) (h0 : RpsIn W uv R) (hg : w.grownBy w9 bl) (hb : ∀ i, bl = some i → W.heap.size ≤ i ∧ i ≠ gr) : L1 W uv R gr w9 := by
  have hB : Below W.heap.size W w9 := h.below.grown hg h.below.size (fun i e => (hb i e).1)
  exact ⟨hB, h0.under hB, h.res.grown hg (fun e => (hb gr e.symm).2 rfl), h.hgr⟩
theorem L2.grow' {W w w9 : World} {uv u : Value} {R : List Rp} {N : List Cm.N5} {gr go : Nat} {bl : Option Nat} (h : L2 W uv R gr go N u w) (h0 : RpsIn W uv R) (hg : w.grownBy w9 bl) (hb : ∀ i, bl = some i → W.heap.size ≤ i ∧ i ≠ gr ∧ i ≠ go ∧ u.ownBlock ≠ some i) : L2 W uv R gr go N u w9 := by
  exact ⟨h.l1.grow' h0 hg (fun i e => ⟨(hb i e).1, (hb i e).2.1⟩), h.box.grown hg (fun e => (hb go e.symm).2.2.1 rfl),
    own_heap h.own (fun i hi => hg.block i (row_size h.own hi) (fun e => (hb i e.symm).2.2.2 hi)), h.hgo, h.ne⟩
theorem set_grown (w : World) (g j : Nat) (x : Value) : w.grownBy (w.setCell ⟨g, j, none⟩ x) (some g) :=
  ⟨rfl, rfl, rfl, by simp [World.setCell], fun i _ hi => Below.heap_setCell w ⟨g, j, none⟩ x i (fun e => hi (by rw [e]))⟩
theorem row_ne {w : World} {g g' : Nat} {t t' : TypeId} {cs cs' : Array Value} (h : Row w g t cs) (h' : Row w g' t' cs') (ht : t ≠ t') : g ≠ g' := fun e => by
  subst e
  have := h.symm.trans h'
  injection this with this
  injection this with _ this
  exact ht this
/-- A normal is appended and stored. -/
theorem L2.app {W w w9 : World} {uv u v' : Value} {R : List Rp} {N : List Cm.N5} {gr go : Nat} {tmp : Obj} {n : Cm.N5} (h : L2 W uv R gr go N u w) (h0 : RpsIn W uv R) (hg : (w.alloc tmp).grownBy w9 u.ownBlock)
    (ho : w9.ownsRow W.heap.size 50 5 v' (N.length + 1) (nrc N ++ encN n)) : L2 W uv R gr go (N ++ [n]) v' (w9.setCell ⟨go, 0, none⟩ v') := by
  have h1 := h.l1.grow h0 hg (fun i e => ⟨row_base h.own e, fun q => by subst q; exact row_not h.own h.l1.res (by decide) e⟩)
  have hbx : Row w9 go 24 #[u] := (h.box.alloc _).grown hg (fun e => row_not h.own h.box (by decide) e.symm)
  refine ⟨h1.grow' h0 (set_grown w9 go 0 v') (fun i e => by injection e with e; subst e; exact ⟨h.hgo, h.ne⟩), hbx.put 0 v', ?_, h.hgo, h.ne⟩
  rw [nrc_app, List.length_append]
  exact own_heap ho (fun i hi => Below.heap_setCell w9 ⟨go, 0, none⟩ v' i (fun e => row_not ho hbx (by decide) (by have e' : i = go := e; rw [← e']; exact hi)))
/-- What is known while the spread is found. -/
structure L4 (W : World) (uv : Value) (R : List Rp) (gr go : Nat) (N : List Cm.N5) (u : Value) (V : List Int) (vs : Value) (gn : Nat) (n : Cm.N5) (w : World) : Prop where
  l3 : L3 W uv R gr go N u V vs w
  rn : Row w gn 50 #[.int .i64 n.1, .int .i64 n.2.1, .int .i64 n.2.2.1, .int .i64 n.2.2.2.1, .int .i64 n.2.2.2.2]
  hgn : W.heap.size ≤ gn
  hu : u.ownBlock ≠ some gn
theorem L4.put {W w : World} {uv u vs : Value} {R : List Rp} {N : List Cm.N5} {V : List Int} {gr go gn : Nat} {c f mo a s : Int} (h : L4 W uv R gr go N u V vs gn (c, f, mo, a, s) w) (h0 : RpsIn W uv R) (x : Int) : L4 W uv R gr go N u V vs gn (c, f, mo, a, x) (w.setCell ⟨gn, 4, none⟩ (.int .i64 x)) := by
  have hg := set_grown w gn 4 (.int .i64 x)
  refine ⟨⟨h.l3.l2.grow' h0 hg (fun i e => by injection e with e; subst e; exact ⟨h.hgn, row_ne h.rn h.l3.l2.l1.res (by decide), row_ne h.rn h.l3.l2.box (by decide), h.hu⟩), own_heap h.l3.own (fun i hi => hg.block i (row_size h.l3.own hi) (fun e => ?_))⟩, h.rn.put 4 (.int .i64 x), h.hgn, h.hu⟩
  injection e with e
  subst e
  exact row_not h.l3.own h.rn (by decide) hi
theorem five_at (Y : World) (n : Cm.N5) : ∀ (j : Nat) (z : Value), (encN n)[j]? = some z → (Y.alloc (.cells #[.int .i64 n.1, .int .i64 n.2.1, .int .i64 n.2.2.1, .int .i64 n.2.2.2.1, .int .i64 n.2.2.2.2] 50)).cell? ((⟨Y.heap.size, 0, none⟩ : Addr).add j) = some z := fun j z hz => by
  have hj : j < 5 := (List.getElem?_eq_some_iff.1 hz).1
  rw [Addr.add_lit, Nat.zero_add, (Row.new Y _ 50).cell j, ← hz]
  rcases (by omega : j = 0 ∨ j = 1 ∨ j = 2 ∨ j = 3 ∨ j = 4) with rfl | rfl | rfl | rfl | rfl <;> rfl
set_option maxRecDepth 100000 in
set_option maxHeartbeats 8000000 in
theorem refLearn_any (uv : Value) (R : List Rp) (w : World) (hR : RpsIn w uv R) (hl : R.length ≤ 40) :
    Calls Tryd.prog 29 #[uv] w (LrnR w R) := by
  obtain ⟨lr, hlr⟩ : ∃ q, lrn R = q := ⟨_, rfl⟩
  have HLR := Lib.hid hlr
  have HPost : Hid (∀ e w', (∃ v, e = .returned (.tuple #[clV v, .int .i64 lr.2]) ∧ Below w.heap.size w w' ∧ w'.ownsRow w.heap.size 50 5 v lr.1.length (nrc lr.1)) → LrnR w R e w') := Lib.hid (fun e w' h => by rw [← hlr] at h; exact h)
  refine Calls.mono ?_ (fun e w' h => HPost.out e w' h)
  clear HPost hlr
  obtain ⟨i0, hi, hz0, hz1, hz2⟩ := info_parts infoNormal
  obtain ⟨i1, hi', hy0, hy1, hy2⟩ := info_parts infoIntC
  have b0 := (Below.refl w.heap.size w).alloc (Nat.le_refl _) (.cells #[.slice none 0 0] 24)
  have I0 : Hid (L1 w uv R w.heap.size (w.alloc (.cells #[.slice none 0 0] 24))) := Lib.hid ⟨b0, hR.under b0, Row.new _ _ _, Nat.le_refl _⟩
  obtain ⟨A, cap, rfl, h1, h2, -⟩ := id hR
  have HR0 := Lib.hid hR
  clear hR b0
  go_enter Tryd.func29, Tryd.ntmps29
  go_upto_region 1 with fail
  refine forget (fun Y => Hid (L1 w (.slice A R.length cap) R w.heap.size Y)) I0 ?_
  clear I0
  obtain ⟨gr, hgr⟩ : ∃ g, w.heap.size = g := ⟨_, rfl⟩
  intro Y hI
  have HI : Hid (L1 w (.slice A R.length cap) R gr Y) := Lib.hid (by rw [← hgr]; exact hI.out)
  rw [hgr]
  clear hI hgr
  go_wp2_with fail
  go_loopw [24] (fun t wr => ∃ k : Nat, k ≤ R.length ∧ t = .int .i64 k ∧ Hid (L1 w (.slice A R.length cap) R gr wr) ∧ Hid (∀ j, ∀ h : j < R.length, j < k → erC R[j] = 0)) (fun t _ => R.length - (intOf t).toNat)
  case atStart => exact ⟨0, Nat.zero_le _, rfl, HI, Lib.hid (fun j h h' => by omega)⟩
  case round =>
    clear HI
    obtain ⟨k, hk, rfl, HI, HE⟩ := hrel
    by_cases hlt : k < R.length
    · obtain ⟨A', cap', e, -, -, hat⟩ := HI.out.rin
      injection e with e1 e2 e3
      subst e1
      obtain ⟨g, off, rfl, hgl, ⟨c0, c1, c2, c3, c4, c5, c6, c7⟩, hrd⟩ := hat k hlt
      have k0 : (0 : Int) ≤ (k : Int) := by omega
      have k1 : (k : Int) < (R.length : Int) := by omega
      have HN : Hid ((erC R[k] = 0 → ∀ j, ∀ h : j < R.length, j < k + 1 → erC R[j] = 0) ∧ (erC R[k] ≠ 0 → lr = ([], erC R[k]))) := Lib.hid ⟨fun h j hj hjk => by
        rcases (by omega : j < k ∨ j = k) with q | rfl
        · exact HE.out j hj q
        · exact h, fun h => by
        rw [← HLR.out]
        have h9 := errC_first R k hlt HE.out h
        unfold lrn
        rw [h9, if_neg h]⟩
      clear hat e3 HE
      have HEr : Hid (erC R[k] = if nrm (R[k]).F (R[k]).A (R[k]).B (R[k]).C = true ∧ Ck.Cal.rng (R[k]).t = true then El.Elt.vld (R[k]).L else 1) := Lib.hid rfl
      generalize R[k] = r at *
      generalize erC r = er at *
      obtain ⟨rk, nm, t, F, A, B, C, u, L⟩ := r
      simp only at c0 c1 c2 c3 c4 c5 c6 c7 HEr hrd
      have hrd' : El.RdIn wr u L := hrd
      clear hrd
      obtain ⟨Au, cu, eu, -⟩ := id hrd'
      subst eu
      have HRd := Lib.hid hrd'
      clear hrd'
      have b1 := (Below.refl wr.heap.size wr).alloc (Nat.le_refl _) (.cells (repC rk nm t F A B C (.slice Au L.length cu)) 38)
      have I1 : Hid ((L1 w (.slice (some ⟨g, off, none⟩) R.length cap) R gr (wr.alloc (.cells (repC rk nm t F A B C (.slice Au L.length cu)) 38)) ∧ El.RdIn (wr.alloc (.cells (repC rk nm t F A B C (.slice Au L.length cu)) 38)) (.slice Au L.length cu) L) ∧ Row (wr.alloc (.cells (repC rk nm t F A B C (.slice Au L.length cu)) 38)) wr.heap.size 38 (repC rk nm t F A B C (.slice Au L.length cu))) := Lib.hid ⟨⟨HI.out.under b1, HRd.out.under b1⟩, Row.new _ _ _⟩
      clear b1 HRd HI
      go_upto_region 4 with fail
      refine forget (fun Y => Hid ((L1 w (.slice (some ⟨g, off, none⟩) R.length cap) R gr Y ∧ El.RdIn Y (.slice Au L.length cu) L) ∧ Row Y wr.heap.size 38 (repC rk nm t F A B C (.slice Au L.length cu)))) I1 ?_
      clear I1 c0 c1 c2 c3 c4 c5 c6 c7
      generalize wr.heap.size = gb at *
      rintro Y HY
      obtain ⟨q0, q1, q2, q3, q4, q5, q6, q7⟩ := row8 HY.out.2
      go_wp2_with fail
      refine (refIsNormal_any F A B C _).mono ?_
      rintro e w2 ⟨rfl, g2⟩
      have H2 := Lib.hid (And.intro (And.intro (HY.out.1.1.under g2) (HY.out.1.2.under g2)) (HY.out.2.under g2))
      clear g2 HY q0 q1 q2 q3 q4 q5 q6 q7
      obtain ⟨q0, q1, q2, q3, q4, q5, q6, q7⟩ := row8 H2.out.2
      --MARK1
      cases hn : nrm F A B C with
      | false =>
        have HEb : Hid (er = 1) := Lib.hid (by rw [HEr.out, if_neg (by rw [hn]; simp)])
        clear hn
        have f0 := H2.out.1.1.res.thaw 0
        have y0 := (H2.out.1.1.res.cell 0).trans rfl
        have HX := Lib.hid (H2.out.1.1.put (.slice none 0 0))
        have HLr : Hid (lr = ([], 1)) := Lib.hid (by have := HN.out.2 (by rw [HEb.out]; omega); rw [HEb.out] at this; exact this)
        go_wp2_with fail
        exact bodyPost_ret (v := .tuple #[.agg #[.slice none 0 0], .int .i64 1]) (by have z0 := (HX.out.1.cell 0).trans rfl; simp [results, Tryd.results29, z0, go_sem]) rfl ⟨.slice none 0 0, by rw [HLr.out], HX.out.2, by rw [HLr.out]; exact World.ownsRow_nil _ _ _ _⟩
      | true =>
        have HNn := Lib.hid hn
        clear hn
        go_wp2_with fail
        refine (Ck.refIn_any t _).mono ?_
        rintro e w3 ⟨rfl, rfl⟩
        cases hg : Ck.Cal.rng t with
        | false =>
          have HEb : Hid (er = 1) := Lib.hid (by rw [HEr.out, if_neg (by rw [hg]; simp)])
          clear hg
          have f0 := H2.out.1.1.res.thaw 0
          have y0 := (H2.out.1.1.res.cell 0).trans rfl
          have HX := Lib.hid (H2.out.1.1.put (.slice none 0 0))
          have HLr : Hid (lr = ([], 1)) := Lib.hid (by have := HN.out.2 (by rw [HEb.out]; omega); rw [HEb.out] at this; exact this)
          go_wp2_with fail
          exact bodyPost_ret (v := .tuple #[.agg #[.slice none 0 0], .int .i64 1]) (by have z0 := (HX.out.1.cell 0).trans rfl; simp [results, Tryd.results29, z0, go_sem]) rfl ⟨.slice none 0 0, by rw [HLr.out], HX.out.2, by rw [HLr.out]; exact World.ownsRow_nil _ _ _ _⟩
        | true =>
          have HEb : Hid (er = El.Elt.vld L) := Lib.hid (by rw [HEr.out, if_pos ⟨HNn.out, hg⟩])
          clear hg
          obtain ⟨z, hz⟩ : ∃ z, El.Elt.vld L = z := ⟨_, rfl⟩
          have HZ := Lib.hid hz
          have HV := El.refValidate_any _ L w2 H2.out.1.2
          rw [hz] at HV
          have HVV := Lib.hid HV
          clear hz HV
          go_wp2_with fail
          refine HVV.out.mono ?_
          rintro e w4 ⟨rfl, g4⟩
          have H4 := Lib.hid (And.intro (And.intro (H2.out.1.1.under g4) (H2.out.1.2.under g4)) (H2.out.2.under g4))
          clear g4 H2 HVV q0 q1 q2 q3 q4 q5 q6 q7
          by_cases h0 : z = 0
          · subst h0
            have HX := Lib.hid (HN.out.1 (by rw [HEb.out, HZ.out]))
            have H5 := Lib.hid H4.out.1.1
            clear H4
            go_wp2_with fail
            go_roundw
            case rel => exact ⟨k + 1, by omega, by go_num, H5, HX⟩
            case measure => simp [intOf]; omega
          · have kz : (z != 0) = true := by rw [bne_iff_ne]; exact h0
            have HEc : Hid (er = z ∧ z ≠ 0) := Lib.hid ⟨by rw [HEb.out, HZ.out], h0⟩
            clear h0
            have f0 := H4.out.1.1.res.thaw 0
            have y0 := (H4.out.1.1.res.cell 0).trans rfl
            have HX := Lib.hid (H4.out.1.1.put (.slice none 0 0))
            have HLr : Hid (lr = ([], z)) := Lib.hid (by have := HN.out.2 (by rw [HEc.out.1]; exact HEc.out.2); rw [HEc.out.1] at this; exact this)
            go_wp2_with fail
            exact bodyPost_ret (v := .tuple #[.agg #[.slice none 0 0], .int .i64 z]) (by have z0 := (HX.out.1.cell 0).trans rfl; simp [results, Tryd.results29, z0, go_sem]) rfl ⟨.slice none 0 0, by rw [HLr.out], HX.out.2, by rw [HLr.out]; exact World.ownsRow_nil _ _ _ _⟩
    · have k1 : ¬ (k : Int) < (R.length : Int) := by omega
      have HE0 : Hid (errC R = 0 ∧ ∀ j, ∀ h : j < R.length, erC R[j] = 0) := Lib.hid ⟨errC_zero R fun j hj => HE.out j hj (by omega), fun j hj => HE.out j hj (by omega)⟩
      have HOK : Hid ((∀ r ∈ R, El.Elt.vld r.L = 0) ∧ ∀ r ∈ R, Ck.Cal.rng r.t = true) := Lib.hid (by
        have key : ∀ r ∈ R, (nrm r.F r.A r.B r.C = true ∧ Ck.Cal.rng r.t = true) ∧ El.Elt.vld r.L = 0 := fun r hr => by
          obtain ⟨j, hj, rfl⟩ := List.getElem_of_mem hr
          have h0 := HE0.out.2 j hj
          unfold erC at h0
          by_cases hc : nrm (R[j]).F (R[j]).A (R[j]).B (R[j]).C = true ∧ Ck.Cal.rng (R[j]).t = true
          · rw [if_pos hc] at h0; exact ⟨hc, h0⟩
          · rw [if_neg hc] at h0; omega
        exact ⟨fun r hr => (key r hr).2, fun r hr => (key r hr).1.2⟩)
      clear HE hlt
      have b1 := (Below.refl wr.heap.size wr).alloc (Nat.le_refl _) (.cells #[.slice none 0 0] 24)
      have J0 : Hid (L2 w (.slice A R.length cap) R gr wr.heap.size (outC R 0) (.slice none 0 0) (wr.alloc (.cells #[.slice none 0 0] 24))) := Lib.hid ⟨HI.out.under b1, Row.new _ _ _, World.ownsRow_nil _ _ _ _, HI.out.below.size, Nat.ne_of_gt HI.out.res.lt⟩
      go_upto_region 11 with fail
      refine forget (fun Y => Hid (L2 w (.slice A R.length cap) R gr wr.heap.size (outC R 0) (.slice none 0 0) Y)) J0 ?_
      clear J0 b1 HI
      generalize wr.heap.size = go at *
      rintro Y J0
      go_wp2_with fail
      go_loopw [8] (fun t wr => ∃ c : Nat, ∃ u, c ≤ 11 ∧ t = .int .i64 ((c : Int) + 1) ∧ Hid (L2 w (.slice A R.length cap) R gr go (outC R (c * 240)) u wr)) (fun t _ => 12 - (intOf t).toNat)
      case atStart => exact ⟨0, _, by omega, rfl, J0⟩
      case round =>
        clear J0
        obtain ⟨c, u, hc, rfl, J⟩ := hrel
        by_cases hc11 : c < 11
        · have kc : (c : Int) + 1 ≤ 11 := by omega
          go_wp2_with fail
          go_loopw [9] (fun t wr => ∃ f : Nat, ∃ u, f ≤ 20 ∧ t = .int .i64 (f : Int) ∧ Hid (L2 w (.slice A R.length cap) R gr go (outC R (c * 240 + f * 12)) u wr)) (fun t _ => 20 - (intOf t).toNat)
          case atStart => exact ⟨0, _, by omega, rfl, J⟩
          case round =>
            clear J
            obtain ⟨f, u, hf, rfl, J⟩ := hrel
            by_cases hf20 : f < 20
            · have kf : (f : Int) < 20 := by omega
              go_wp2_with fail
              go_loopw [10] (fun t wr => ∃ mo : Nat, ∃ u, mo ≤ 12 ∧ t = .int .i64 ((mo : Int) + 1) ∧ Hid (L2 w (.slice A R.length cap) R gr go (outC R (c * 240 + f * 12 + mo)) u wr)) (fun t _ => 13 - (intOf t).toNat)
              case atStart => exact ⟨0, _, by omega, rfl, J⟩
              case round =>
                clear J
                obtain ⟨mo, u, hmo, rfl, J⟩ := hrel
                by_cases hm12 : mo < 12
                · have km : (mo : Int) + 1 ≤ 12 := by omega
                  obtain ⟨V0, hV0⟩ : ∃ V0 : List Int, V0 = [] := ⟨_, rfl⟩
                  have J3 : Hid (L3 w (.slice A R.length cap) R gr go (outC R (c * 240 + f * 12 + mo)) u (valsC (R.take 0) ((c : Int) + 1) f ((mo : Int) + 1)) (.slice none 0 0) wr) := Lib.hid ⟨J.out, World.ownsRow_nil _ _ _ _⟩
                  have HC : Hid (∀ k, k ≤ R.length → valsC (R.take k) ((c : Int) + 1) f ((mo : Int) + 1) = valsC (R.take k) ((c : Int) + 1) f ((mo : Int) + 1)) := Lib.hid (fun _ _ => rfl)
                  clear hV0 V0 HC J
                  go_upto_region 22 with fail
                  go_wp2_with fail
                  go_loopw [11, 12, 61] (fun vs sm t wr => ∃ k : Nat, k ≤ R.length ∧ t = .int .i64 (k : Int) ∧ sm = .int .i64 (valsC (R.take k) ((c : Int) + 1) f ((mo : Int) + 1)).sum ∧ Hid (L3 w (.slice A R.length cap) R gr go (outC R (c * 240 + f * 12 + mo)) u (valsC (R.take k) ((c : Int) + 1) f ((mo : Int) + 1)) vs wr)) (fun _ _ t _ => R.length - (intOf t).toNat)
                  case atStart => exact ⟨0, by omega, rfl, by simp [valsC], J3⟩
                  case round =>
                    clear J3
                    obtain ⟨k, hk, rfl, rfl, J3⟩ := hrel
                    by_cases hlt : k < R.length
                    · obtain ⟨A', cap', e, -, -, hat⟩ := J3.out.l2.l1.rin
                      injection e with e1 e2 e3
                      subst e1
                      obtain ⟨g, off, rfl, hgl, ⟨c0, c1, c2, c3, c4, c5, c6, c7⟩, hrd⟩ := hat k hlt
                      have k0 : (0 : Int) ≤ (k : Int) := by omega
                      have k1 : (k : Int) < (R.length : Int) := by omega
                      have HNx := Lib.hid (valsC_snoc R ((c : Int) + 1) f ((mo : Int) + 1) k hlt)
                      have hrg := HOK.out.2 _ (List.getElem_mem hlt)
                      have hfs := fnd_small (HOK.out.1 _ (List.getElem_mem hlt)) ((c : Int) + 1)
                      have hss := sum_small _ (valsC_small (R := R.take k) (fun r hr => HOK.out.1 r (List.mem_of_mem_take hr)) ((c : Int) + 1) f ((mo : Int) + 1))
                      have hvl := valsC_len R ((c : Int) + 1) f ((mo : Int) + 1) k
                      clear hat e3
                      generalize R[k] = r at *
                      obtain ⟨rk, nm, t, F, A1, B1, C1, u1, L⟩ := r
                      simp only at c0 c1 c2 c3 c4 c5 c6 c7 hrd hrg hfs
                      simp only at HNx
                      have hrd' : El.RdIn wr u1 L := hrd
                      clear hrd
                      obtain ⟨Au, cu, eu, -⟩ := id hrd'
                      subst eu
                      have hr' : 0 ≤ t ∧ t ≤ 52595999 := by unfold Ck.Cal.rng at hrg; simpa using hrg
                      obtain ⟨y, m, d, hh, i, hcv, hcn, -⟩ := Ck.Cal.num_of t hr'.1 hr'.2
                      rw [mth_eq hcv hcn] at HNx
                      have HCV := Lib.hid (And.intro hcn hcv)
                      obtain ⟨V2, hV2⟩ : ∃ q, valsC (R.take (k + 1)) ((c : Int) + 1) f ((mo : Int) + 1) = q := ⟨_, rfl⟩
                      rw [hV2] at HNx
                      have HV2 := Lib.hid hV2
                      clear hV2
                      generalize valsC (R.take k) ((c : Int) + 1) f ((mo : Int) + 1) = V at *
                      obtain ⟨s1, hs1⟩ : ∃ q, (El.Elt.fnd L ((c : Int) + 1)).isSome = q := ⟨_, rfl⟩
                      obtain ⟨v1, hv1⟩ : ∃ q, (El.Elt.fnd L ((c : Int) + 1)).getD 0 = q := ⟨_, rfl⟩
                      rw [hs1, hv1] at HNx
                      rw [hv1] at hfs
                      have HFd := Lib.hid (And.intro hs1 hv1)
                      clear hrg hr' hcv hcn hs1 hv1
                      have b1 := (Below.refl wr.heap.size wr).alloc (Nat.le_refl _) (.cells (repC rk nm t F A1 B1 C1 (.slice Au L.length cu)) 38)
                      have I1 : Hid ((L3 w (.slice (some ⟨g, off, none⟩) R.length cap) R gr go (outC R (c * 240 + f * 12 + mo)) u V «u11» (wr.alloc (.cells (repC rk nm t F A1 B1 C1 (.slice Au L.length cu)) 38)) ∧ El.RdIn (wr.alloc (.cells (repC rk nm t F A1 B1 C1 (.slice Au L.length cu)) 38)) (.slice Au L.length cu) L) ∧ Row (wr.alloc (.cells (repC rk nm t F A1 B1 C1 (.slice Au L.length cu)) 38)) wr.heap.size 38 (repC rk nm t F A1 B1 C1 (.slice Au L.length cu))) := Lib.hid ⟨⟨J3.out.under b1, hrd'.under b1⟩, Row.new _ _ _⟩
                      clear b1 hrd' J3
                      go_upto_region 25 with fail
                      refine forget (fun Y => Hid ((L3 w (.slice (some ⟨g, off, none⟩) R.length cap) R gr go (outC R (c * 240 + f * 12 + mo)) u V «u11» Y ∧ El.RdIn Y (.slice Au L.length cu) L) ∧ Row Y wr.heap.size 38 (repC rk nm t F A1 B1 C1 (.slice Au L.length cu)))) I1 ?_
                      clear I1 c0 c1 c2 c3 c4 c5 c6 c7
                      generalize wr.heap.size = gb at *
                      rintro Y4 HY
                      obtain ⟨q0, q1, q2, q3, q4, q5, q6, q7⟩ := row8 HY.out.2
                      go_wp2_with fail
                      refine (Ck.refDate_yes t y m d hh i _ HCV.out.1 HCV.out.2).mono ?_
                      rintro e w5 ⟨rfl, g5⟩
                      have b5 := (Below.refl w5.heap.size w5).alloc (Nat.le_refl _) (.cells #[.int .i64 y, .int .i64 m, .int .i64 d, .int .i64 hh, .int .i64 i] 113)
                      have H5 : Hid ((L3 w (.slice (some ⟨g, off, none⟩) R.length cap) R gr go (outC R (c * 240 + f * 12 + mo)) u V «u11» (w5.alloc (.cells #[.int .i64 y, .int .i64 m, .int .i64 d, .int .i64 hh, .int .i64 i] 113)) ∧ El.RdIn (w5.alloc (.cells #[.int .i64 y, .int .i64 m, .int .i64 d, .int .i64 hh, .int .i64 i] 113)) (.slice Au L.length cu) L) ∧ Row (w5.alloc (.cells #[.int .i64 y, .int .i64 m, .int .i64 d, .int .i64 hh, .int .i64 i] 113)) gb 38 (repC rk nm t F A1 B1 C1 (.slice Au L.length cu)) ∧ Row (w5.alloc (.cells #[.int .i64 y, .int .i64 m, .int .i64 d, .int .i64 hh, .int .i64 i] 113)) w5.heap.size 113 #[.int .i64 y, .int .i64 m, .int .i64 d, .int .i64 hh, .int .i64 i]) := Lib.hid ⟨⟨(HY.out.1.1.under g5).under b5, (HY.out.1.2.under g5).under b5⟩, (HY.out.2.under g5).under b5, Row.new _ _ _⟩
                      clear g5 b5 HY q0 q1 q2 q3 q4 q5 q6 q7
                      go_upto_region 26 with fail
                      refine forget (fun Y => Hid ((L3 w (.slice (some ⟨g, off, none⟩) R.length cap) R gr go (outC R (c * 240 + f * 12 + mo)) u V «u11» Y ∧ El.RdIn Y (.slice Au L.length cu) L) ∧ Row Y gb 38 (repC rk nm t F A1 B1 C1 (.slice Au L.length cu)) ∧ Row Y w5.heap.size 113 #[.int .i64 y, .int .i64 m, .int .i64 d, .int .i64 hh, .int .i64 i])) H5 ?_
                      clear H5
                      generalize w5.heap.size = gc at *
                      rintro Y5 H5
                      obtain ⟨q0, q1, q2, q3, q4, q5, q6, q7⟩ := row8 H5.out.2.1
                      go_wp2_with fail
                      refine (El.refFind_any _ L ((c : Int) + 1) _ H5.out.1.2).mono ?_
                      rintro e w6 ⟨rfl, g6⟩
                      rw [HFd.out.1, HFd.out.2]
                      have H6 := Lib.hid (And.intro (H5.out.1.1.under g6) (And.intro (H5.out.2.1.under g6) (H5.out.2.2.under g6)))
                      clear g6 H5 q0 q1 q2 q3 q4 q5 q6 q7
                      obtain ⟨q0, q1, q2, q3, q4, q5, q6, q7⟩ := row8 H6.out.2.1
                      obtain ⟨x0, x1, x2, x3, x4⟩ := row5 H6.out.2.2
                      cases s1 with
                      | false =>
                        have HNz : Hid (V2 = V) := Lib.hid (by rw [HNx.out]; simp)
                        have H7 := Lib.hid H6.out.1
                        clear HNx H6
                        go_wp2_with fail
                        go_roundw
                        case rel => exact ⟨k + 1, by omega, by go_num, by rw [HV2.out, HNz.out], by rw [HV2.out, HNz.out]; exact H7⟩
                        case measure => simp [intOf]; omega
                      | true =>
                        by_cases hF : F = (f : Int)
                        · subst hF
                          by_cases hM : m = (mo : Int) + 1
                          · subst hM
                            have HNz : Hid (V2 = V ++ [v1]) := Lib.hid (by rw [HNx.out]; simp)
                            have H7 := Lib.hid H6.out.1
                            clear HNx H6
                            have y9 : IntKind.i64.wrap (V.sum + v1) = V.sum + v1 := IntWalk.i64_in _ (by omega)
                            obtain ⟨Av, cv, rfl⟩ := row_form H7.out.own
                            have HRW := Lib.hid (El.own_under H7.out.own ((Below.refl w6.heap.size w6).alloc (Nat.le_refl _) (.cells #[.int .i64 v1] 3)))
                            have HC1 : Hid (∀ j z, [Value.int .i64 v1][j]? = some z → (w6.alloc (.cells #[.int .i64 v1] 3)).cell? ((⟨w6.heap.size, 0, none⟩ : Addr).add j) = some z) := Lib.hid (fun j z hz => by
                              have hj : j < 1 := (List.getElem?_eq_some_iff.1 hz).1
                              obtain rfl : j = 0 := by omega
                              rw [Addr.add_lit, Nat.zero_add, (Row.new w6 #[.int .i64 v1] 3).cell 0, ← hz]; rfl)
                            have hsz : w.heap.size ≤ w6.heap.size := H7.out.l2.l1.below.size
                            go_wp2_with (at_builtin; refine wpList_append_own' rfl (.tmp 92) (.tmp 94) 28 rfl w.heap.size 3 i1 (.int .i64 0) 1 8 Tryd.underlying28 hi' hy0 hy1 hy2 rfl (by decide) (.slice Av V.length cv) V.length (nmc V) rfl HRW.out ⟨w6.heap.size, 0, none⟩ 1 1 [.int .i64 v1] rfl rfl HC1.out (fun u hu => by simp only [List.mem_cons, List.not_mem_nil, or_false] at hu; subst hu; rfl) (by unfold maxLen; omega) (by omega) (Nat.le_trans hsz ((Below.refl _ _).alloc (Nat.le_refl _) _ : Below w6.heap.size w6 _).size) ?_; intro v' w9 ho' hg'; obtain ⟨A', cap', ev⟩ : ∃ A' cap', v' = .slice A' (V.length + 1) cap' := row_form ho'; subst ev)
                            have H9 : Hid (L3 w (.slice (some ⟨g, off, none⟩) R.length cap) R gr go (outC R (c * 240 + f * 12 + mo)) u (V ++ [v1]) (.slice A' (V.length + 1) cap') w9) := Lib.hid (H7.out.app HR0.out hg' ho')
                            clear ho' hg' H7 HRW HC1 hsz q0 q1 q2 q3 q4 q5 q6 q7 x0 x1 x2 x3 x4
                            go_wp2_with fail
                            go_roundw
                            case rel => exact ⟨k + 1, by omega, by go_num, by rw [HV2.out, HNz.out]; simp, by rw [HV2.out, HNz.out]; exact H9⟩
                            case measure => simp [intOf]; omega
                          · have kM : (m == (mo : Int) + 1) = false := beq_eq_false_iff_ne.2 hM
                            have HNz : Hid (V2 = V) := Lib.hid (by rw [HNx.out, kM]; simp)
                            have H7 := Lib.hid H6.out.1
                            clear HNx H6
                            go_wp2_with fail
                            go_roundw
                            case rel => exact ⟨k + 1, by omega, by go_num, by rw [HV2.out, HNz.out], by rw [HV2.out, HNz.out]; exact H7⟩
                            case measure => simp [intOf]; omega
                        · have kF : (F == (f : Int)) = false := beq_eq_false_iff_ne.2 hF
                          have HNz : Hid (V2 = V) := Lib.hid (by rw [HNx.out, kF]; simp)
                          have H7 := Lib.hid H6.out.1
                          clear HNx H6
                          go_wp2_with fail
                          go_roundw
                          case rel => exact ⟨k + 1, by omega, by go_num, by rw [HV2.out, HNz.out], by rw [HV2.out, HNz.out]; exact H7⟩
                          case measure => simp [intOf]; omega
                    · obtain rfl : k = R.length := by omega
                      have hN0 := Lib.hid (show outC R (c * 240 + f * 12 + (mo + 1)) = outC R (c * 240 + f * 12 + mo) ++ entC R ((c : Int) + 1) (f : Int) ((mo : Int) + 1) by rw [show c * 240 + f * 12 + (mo + 1) = c * 240 + f * 12 + mo + 1 by omega, outC_succ, entI_at R c f mo hf20 hm12])
                      have hvl := valsC_len R ((c : Int) + 1) f ((mo : Int) + 1) R.length
                      have hss := sum_small _ (valsC_small (R := R) HOK.out.1 ((c : Int) + 1) f ((mo : Int) + 1))
                      have HSm := Lib.hid (valsC_small (R := R) HOK.out.1 ((c : Int) + 1) f ((mo : Int) + 1))
                      have hol := outC_len R (c * 240 + f * 12 + mo)
                      have HEn : Hid (entC R ((c : Int) + 1) (f : Int) ((mo : Int) + 1) = if valsC R ((c : Int) + 1) f ((mo : Int) + 1) = [] then [] else [((c : Int) + 1, (f : Int), (mo : Int) + 1, (valsC R ((c : Int) + 1) f ((mo : Int) + 1)).sum / ((valsC R ((c : Int) + 1) f ((mo : Int) + 1)).length : Int), spr (valsC R ((c : Int) + 1) f ((mo : Int) + 1)) ((valsC R ((c : Int) + 1) f ((mo : Int) + 1)).sum / ((valsC R ((c : Int) + 1) f ((mo : Int) + 1)).length : Int)))]) := Lib.hid rfl
                      rw [List.take_length] at J3 hvl
                      rw [List.take_length]
                      generalize valsC R ((c : Int) + 1) f ((mo : Int) + 1) = V at *
                      generalize entC R ((c : Int) + 1) (f : Int) ((mo : Int) + 1) = E at *
                      have HNN : Hid (outC R (c * 240 + f * 12 + (mo + 1)) = outC R (c * 240 + f * 12 + mo) ++ E) := hN0
                      clear hN0
                      obtain ⟨N0, hN0⟩ : ∃ q, outC R (c * 240 + f * 12 + mo) = q := ⟨_, rfl⟩
                      rw [hN0] at J3 HNN hol
                      clear hN0
                      obtain ⟨Av, cv, rfl⟩ := row_form J3.out.own
                      have k1 : ¬ (R.length : Int) < (R.length : Int) := by omega
                      by_cases hV0 : V = []
                      · have HE1 : Hid (E = []) := Lib.hid (by rw [HEn.out, if_pos hV0])
                        subst hV0
                        have J4 := Lib.hid J3.out.l2
                        clear J3 HEn HSm
                        go_wp2_with fail
                        go_roundw
                        case rel => exact ⟨mo + 1, u, by omega, by go_num, by rw [HNN.out, HE1.out, List.append_nil]; exact J4⟩
                        case measure => simp [intOf]; omega
                      · have hlp : 0 < V.length := List.length_pos_iff.2 hV0
                        obtain ⟨a, ha⟩ : ∃ a, V.sum / (V.length : Int) = a := ⟨_, rfl⟩
                        have ha1 : -11000 ≤ a := by rw [← ha]; exact Int.le_ediv_of_mul_le (by omega) (by omega)
                        have ha2 : a ≤ 11000 := by rw [← ha]; exact Int.ediv_le_of_le_mul (by omega) (by omega)
                        have HE1 : Hid (E = [((c : Int) + 1, (f : Int), (mo : Int) + 1, a, spr V a)]) := Lib.hid (by rw [HEn.out, if_neg hV0, ha])
                        have HA := Lib.hid ha
                        have kl : ((V.length : Int) == 0) = false := beq_eq_false_iff_ne.2 (by omega)
                        have kl' : ¬ (V.length : Int) = 0 := by omega
                        clear hV0 HEn ha
                        go_upto_region 32 with fail
                        go_wp2_with fail
                        refine (floor_any V.sum (V.length : Int) _ (by omega) (by omega) (by omega) (by omega)).mono ?_
                        rintro e w5 ⟨rfl, rfl⟩
                        rw [HA.out]
                        have b5 := (Below.refl wr.heap.size wr).alloc (Nat.le_refl _) (.cells #[.int .i64 ((c : Int) + 1), .int .i64 (f : Int), .int .i64 ((mo : Int) + 1), .int .i64 a, .int .i64 0] 50)
                        have J5 : Hid (L4 w (.slice A R.length cap) R gr go N0 u V (.slice Av V.length cv) wr.heap.size ((c : Int) + 1, (f : Int), (mo : Int) + 1, a, spr (V.take 0) a) (wr.alloc (.cells #[.int .i64 ((c : Int) + 1), .int .i64 (f : Int), .int .i64 ((mo : Int) + 1), .int .i64 a, .int .i64 0] 50))) := Lib.hid ⟨J3.out.under b5, Row.new _ _ _, J3.out.l2.l1.below.size, fun e => by have := row_size J3.out.l2.own e; omega⟩
                        clear b5 J3
                        go_upto_region 33 with fail
                        refine forget (fun Y => Hid (L4 w (.slice A R.length cap) R gr go N0 u V (.slice Av V.length cv) wr.heap.size ((c : Int) + 1, (f : Int), (mo : Int) + 1, a, spr (V.take 0) a) Y)) J5 ?_
                        clear J5
                        generalize wr.heap.size = gn at *
                        rintro Y5 J5
                        go_wp2_with fail
                        go_loopw [113] (fun t wr => ∃ i : Nat, i ≤ V.length ∧ t = .int .i64 (i : Int) ∧ Hid (L4 w (.slice A R.length cap) R gr go N0 u V (.slice Av V.length cv) gn ((c : Int) + 1, (f : Int), (mo : Int) + 1, a, spr (V.take i) a) wr)) (fun t _ => V.length - (intOf t).toNat)
                        case atStart => exact ⟨0, by omega, rfl, J5⟩
                        case round =>
                          clear J5
                          obtain ⟨i, hiV, rfl, J5⟩ := hrel
                          by_cases hi2 : i < V.length
                          · obtain ⟨g3, rfl, hc⟩ := own_num J5.out.l3.own hi2
                            have j0 : (0 : Int) ≤ (i : Int) := by omega
                            have j1 : (i : Int) < (V.length : Int) := by omega
                            have hvb := HSm.out _ (List.getElem_mem hi2)
                            have hsb := spr_small (V.take i) a 0 (by omega) (by omega) (by omega) (by omega) (fun v hv => HSm.out v (List.mem_of_mem_take hv))
                            have HSn : Hid (spr (V.take (i + 1)) a = max (max (spr (V.take i) a) (V[i] - a)) (a - V[i])) := Lib.hid (by rw [List.take_add_one, List.getElem?_eq_getElem hi2, Option.toList_some, spr_snoc])
                            have hsb' : 0 ≤ spr (V.take i) a ∧ spr (V.take i) a ≤ 30000000 := hsb
                            clear hsb
                            obtain ⟨s2, hs2⟩ : ∃ q, spr (V.take (i + 1)) a = q := ⟨_, rfl⟩
                            rw [hs2] at HSn
                            have HS2 := Lib.hid hs2
                            clear hs2
                            generalize spr (V.take i) a = s0 at *
                            generalize V[i] = v at *
                            obtain ⟨x0, x1, x2, x3, x4⟩ := row5 J5.out.rn
                            have f4 := J5.out.rn.thaw 4
                            have y1 : IntKind.i64.wrap (v - a) = v - a := IntWalk.i64_in _ (by omega)
                            have y2 : IntKind.i64.wrap (a - v) = a - v := IntWalk.i64_in _ (by omega)
                            simp only at x0 x1 x2 x3 x4
                            have hm1 : max s0 (v - a) = max s0 (v - a) := rfl
                            have HPut := Lib.hid (J5.out.put HR0.out s2)
                            have e9 : (if (if s0 < v - a then v - a else s0) < a - v then a - v else if s0 < v - a then v - a else s0) = s2 := by
                              rw [HSn.out]
                              repeat' split
                              all_goals omega
                            have H9 := Lib.hid e9
                            clear e9 hm1
                            go_wp2_with fail
                            refine ⟨⟨i + 1, by omega, by go_num, ?_⟩, by simp [intOf]; omega⟩
                            rw [H9.out, HS2.out]
                            exact HPut
                          · obtain rfl : i = V.length := by omega
                            rw [List.take_length] at J5
                            have k2 : ¬ (V.length : Int) < (V.length : Int) := by omega
                            obtain ⟨s1, hs1⟩ : ∃ q, spr V a = q := ⟨_, rfl⟩
                            rw [hs1] at J5 HE1
                            clear hs1
                            obtain ⟨Au, cu, rfl⟩ := row_form J5.out.l3.l2.own
                            have q0 := (J5.out.l3.l2.box.cell 0).trans rfl
                            obtain ⟨x0, x1, x2, x3, x4⟩ := row5 J5.out.rn
                            simp only at x0 x1 x2 x3 x4
                            have HC5 := Lib.hid (five_at wr ((c : Int) + 1, (f : Int), (mo : Int) + 1, a, s1))
                            have HRW := Lib.hid (El.own_under J5.out.l3.l2.own ((Below.refl wr.heap.size wr).alloc (Nat.le_refl _) (.cells #[.int .i64 ((c : Int) + 1), .int .i64 (f : Int), .int .i64 ((mo : Int) + 1), .int .i64 a, .int .i64 s1] 50)))
                            have hsz : w.heap.size ≤ wr.heap.size := J5.out.l3.l2.l1.below.size
                            go_wp2_with (at_builtin; refine wpList_append_own' rfl (.tmp 131) (.tmp 133) 22 rfl w.heap.size 50 i0 (nV (0, 0, 0, 0, 0)) 5 40 Tryd.underlying22 hi hz0 hz1 hz2 rfl (by decide) (.slice Au N0.length cu) N0.length (nrc N0) rfl HRW.out ⟨wr.heap.size, 0, none⟩ 1 1 (encN ((c : Int) + 1, (f : Int), (mo : Int) + 1, a, s1)) rfl rfl HC5.out (fun u hu => by simp only [encN, List.mem_cons, List.not_mem_nil, or_false] at hu; rcases hu with rfl | rfl | rfl | rfl | rfl <;> rfl) (by unfold maxLen; omega) (by omega) (Nat.le_trans hsz ((Below.refl _ _).alloc (Nat.le_refl _) _ : Below wr.heap.size wr _).size) ?_; intro v' w9 ho' hg'; obtain ⟨A', cap', ev⟩ : ∃ A' cap', v' = .slice A' (N0.length + 1) cap' := row_form ho'; subst ev; have r9 : Row w9 go 24 #[.slice Au N0.length cu] := (J5.out.l3.l2.box.alloc _).grown hg' (fun e => row_not J5.out.l3.l2.own J5.out.l3.l2.box (by decide) e.symm); have f9 := r9.thaw 0; have c9 := (r9.cell 0).trans rfl; clear r9; have HB := Lib.hid (J5.out.l3.l2.app HR0.out hg' ho'); clear ho' hg' HRW HC5 hsz q0 x0 x1 x2 x3 x4 J5)
                            go_roundw
                            case rel => exact ⟨mo + 1, _, by omega, by go_num, by rw [HNN.out, HE1.out]; exact HB⟩
                            case measure => simp [intOf]; omega
                · have km : ¬ (mo : Int) + 1 ≤ 12 := by omega
                  obtain rfl : mo = 12 := by omega
                  go_wp2_with fail
                  go_roundw
                  case rel => exact ⟨f + 1, u, by omega, by go_num, Lib.hid (J.out.cast (by rw [show c * 240 + (f + 1) * 12 = c * 240 + f * 12 + 12 by omega]))⟩
                  case measure => simp [intOf]; omega
            · have kf : ¬ (f : Int) < 20 := by omega
              obtain rfl : f = 20 := by omega
              go_wp2_with fail
              go_roundw
              case rel => exact ⟨c + 1, u, by omega, by go_num, Lib.hid (J.out.cast (by rw [show (c + 1) * 240 = c * 240 + 20 * 12 by omega]))⟩
              case measure => simp [intOf]; omega
        · have kc : ¬ (c : Int) + 1 ≤ 11 := by omega
          obtain rfl : c = 11 := by omega
          have e24 : outC R (11 * 240) = outC R 2640 := rfl
          have hJ := J.out
          rw [e24] at hJ
          have hLn := outC_len R 2640
          have HLr : Hid (lr = if 200 < (outC R 2640).length then ([], 2) else (outC R 2640, 0)) := Lib.hid (by rw [← HLR.out]; unfold lrn; rw [if_pos HE0.out.1])
          clear J e24
          generalize outC R 2640 = N at *
          obtain ⟨Au, cu, rfl⟩ := row_form hJ.own
          have q0 := (hJ.box.cell 0).trans rfl
          have HJ := Lib.hid hJ
          clear hJ
          have f0 := HJ.out.l1.res.thaw 0
          have y0 := (HJ.out.l1.res.cell 0).trans rfl
          by_cases hlong : 200 < N.length
          · have kl : (200 : Int) < (N.length : Int) := by omega
            have HX := Lib.hid (HJ.out.l1.put (.slice none 0 0))
            have HLs : Hid (lr = ([], 2)) := Lib.hid (by rw [HLr.out, if_pos hlong])
            go_wp2_with fail
            exact bodyPost_ret (v := .tuple #[.agg #[.slice none 0 0], .int .i64 2]) (by have z0 := (HX.out.1.cell 0).trans rfl; simp [results, Tryd.results29, z0, go_sem]) rfl ⟨.slice none 0 0, by rw [HLs.out], HX.out.2, by rw [HLs.out]; exact World.ownsRow_nil _ _ _ _⟩
          · have kl : ¬ (200 : Int) < (N.length : Int) := by omega
            have HX := Lib.hid (HJ.out.l1.put (.slice Au N.length cu))
            have HY := Lib.hid (HJ.out.keepOwn (.slice Au N.length cu))
            have HLs : Hid (lr = (N, 0)) := Lib.hid (by rw [HLr.out, if_neg hlong])
            go_wp2_with fail
            exact bodyPost_ret (v := .tuple #[.agg #[.slice Au N.length cu], .int .i64 0]) (by have z0 := (HX.out.1.cell 0).trans rfl; simp [results, Tryd.results29, z0, go_sem]) rfl ⟨.slice Au N.length cu, by rw [HLs.out], HX.out.2, by rw [HLs.out]; exact HY.out⟩
end Go.Proofs.YtlakgkoohdfiaaaDoor
