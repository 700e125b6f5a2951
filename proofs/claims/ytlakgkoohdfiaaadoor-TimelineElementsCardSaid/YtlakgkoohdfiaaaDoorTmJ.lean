/- The walk of TimelineElements. -/
import Derived.Test.YtlakgkoohdfiaaaDoorQar
import Derived.Test.YtlakgkoohdfiaaaDoorQaj
import Derived.Test.YtlakgkoohdfiaaaDoorQat
namespace Go.Proofs.YtlakgkoohdfiaaaDoor.Tm
open Go.RowKit Go.Great

/-- The cells of a flag; a list of flags that is built. -/
def flC (i : Nat) (c : Int) : Array Value := #[.int .i64 (i : Int), .int .i64 c, .int .i64 4]
structure Fo (w : World) (L : List (Nat × Int)) (v : Value) (Y : World) : Prop where
  gro : w.grownBy Y none
  own : Y.ownsRow w.heap.size 77 3 v L.length (rc flE L)
theorem Fo.nil (w : World) : Fo w [] (.slice none 0 0) w := ⟨grown_refl w none, ⟨rfl, .inl ⟨rfl, rfl⟩⟩⟩
theorem Fo.under {w Y Y' : World} {L : List (Nat × Int)} {v : Value} (h : Fo w L v Y) (hb : Below Y.heap.size Y Y') : Fo w L v Y' :=
  ⟨grown_trans h.gro (grown_below hb), own_heap h.own (fun i hi => hb.block i (row_size h.own hi))⟩
theorem Fo.app {w Y w9 : World} {L : List (Nat × Int)} {v v' : Value} {q : Nat × Int} (h : Fo w L v Y) (ho : w9.ownsRow w.heap.size 77 3 v' (L.length + 1) (rc flE L ++ flE q)) (hg : Y.grownBy w9 v.ownBlock) : Fo w (L ++ [q]) v' w9 := by
  refine ⟨?_, by rw [rc_app, List.length_append]; exact ho⟩
  have h1 := h.gro.size
  refine ⟨hg.os.trans h.gro.os, hg.tape.trans h.gro.tape, hg.output.trans h.gro.output, Nat.le_trans h1 hg.size, fun i hi hne => ?_⟩
  exact (hg.block i (by omega) (fun e => by have := row_base h.own e.symm; omega)).trans (h.gro.block i hi hne)
theorem flK_len {Q : List Rp} (S P : Int → Int) (hv : ∀ r ∈ Q, El.Elt.vld r.L = 0) : ∀ k, k ≤ Q.length → (flK Q S P k).length ≤ 11 * k
  | 0, _ => Nat.le_refl _
  | k + 1, hk => by
    have ih := flK_len S P hv k (by omega)
    have h0 : k < Q.length := by omega
    have h1 := le11 (hv _ (List.getElem_mem h0))
    have h2 : (flR Q S P k Q[k]).length ≤ Q[k].L.length := by unfold flR; rw [List.length_map]; exact List.length_filter_le _ _
    unfold flK
    rw [List.getElem?_eq_getElem h0, List.length_append]
    show _ + (flR Q S P k Q[k]).length ≤ _
    omega
theorem take_flag {fl : List (Nat × Int)} {k : Nat} {c : Int} (h : k < fl.length) : (fl.take (k + 1)).filter (fun q => q.2 == c) = (fl.take k).filter (fun q => q.2 == c) ++ (if fl[k].2 = c then [fl[k]] else []) := by
  rw [List.take_add_one, List.getElem?_eq_getElem h, List.filter_append]
  congr 1
  by_cases e : fl[k].2 = c <;> simp [e]
theorem on_vld {c : Int} {L : List El.Elt.R} (h : El.Elt.vld L = 0) : El.Elt.vld (onL c L) = 0 := by
  unfold onL
  cases hf : fnd L c with
  | none => exact vld_of (fun _ h => (by cases h)) List.Pairwise.nil
  | some v => exact vld_of (fun x hx => by rw [List.mem_singleton.1 hx]; exact vals0 h _ ((fnd_mem (vld_asc h)).2 hf)) (List.pairwise_singleton _ _)
theorem Onl.nm {Q Q' : List Rp} {c : Int} (h : Onl Q Q' c) (hn : ∀ r ∈ Q, r.nm.size ≤ 40) : ∀ r ∈ Q', r.nm.size ≤ 40 := fun r hr => by
  obtain ⟨j, hj, rfl⟩ := List.getElem_of_mem hr
  have hl := h.len
  rw [(h.at_ j (by omega) hj).1]
  exact hn _ (List.getElem_mem _)
theorem Onl.er {Q Q' : List Rp} {c lo m : Int} {cs : Array Value} {S P : Int → Int} (h : Onl Q Q' c) (hs : Ser lo m Q) (hc : CtB cs S P) (hl : 0 ≤ lo) (hm : m ≤ 52595999) : erT Q' S P = 0 := by
  have hll := h.len
  refine erT_zero hc.s hc.p (fun r hr => ?_) (fun r hr => ?_) (h.dis (asc_dis hs.asc))
  · obtain ⟨j, hj, rfl⟩ := List.getElem_of_mem hr
    rw [(h.at_ j (by omega) hj).2.2]
    exact on_vld (hs.all _ (List.getElem_mem _)).2.2.2
  · obtain ⟨j, hj, rfl⟩ := List.getElem_of_mem hr
    rw [(h.at_ j (by omega) hj).2.1]
    have := hs.bd _ (List.getElem_mem (by omega : j < Q.length))
    omega
/-- A part of the reports of one element. -/
def OnK (c : Int) (Q Q' : List Rp) : Prop := ∀ j, ∀ h : j < Q.length, ∀ h' : j < Q'.length, Q'[j].nm = Q[j].nm ∧ Q'[j].t = Q[j].t ∧ Q'[j].L = onL c Q[j].L
theorem OnK.snoc {c : Int} {Q Q' : List Rp} (h : OnK c Q Q') (hl : Q'.length < Q.length) {r : Rp} (hr : Q[Q'.length] = r) (q : Rp) (h1 : q.nm = r.nm) (h2 : q.t = r.t) (h3 : q.L = onL c r.L) : OnK c Q (Q' ++ [q]) := by
  intro j hj hj'
  rw [List.length_append, List.length_singleton] at hj'
  rcases (by omega : j < Q'.length ∨ j = Q'.length) with e | e
  · rw [List.getElem_append_left e]; exact h j hj e
  · subst e
    rw [List.getElem_append_right (Nat.le_refl _)]
    simp only [Nat.sub_self, List.getElem_singleton, hr]
    exact ⟨h1, h2, h3⟩
set_option maxRecDepth 100000 in
set_option maxHeartbeats 8000000 in
set_option linter.unusedVariables false in
theorem timelineElements_any (l : Value) (code : Int) (W : World) (hT : El.Tab W) (hI : ListIn W l) (hc : I64 code) :
    Calls Tryd.prog 10 #[l, .int .i64 code] W fun e w' => e = .returned (.bool true) ∧ Below W.heap.size W w' := by
  obtain ⟨i0, hi0, hz0, hz1, hz2⟩ := info_parts infoReport
  obtain ⟨i1, hj0, hj1, hj2, hj3⟩ := info_parts infoF
  go_enter Tryd.func10, Tryd.ntmps10
  go_wp2_with fail
  refine (new_any W l hI).mono ?_
  rintro e w1 ⟨rfl, hs1, -⟩
  obtain ⟨b, hb⟩ : ∃ b, W.heap.size = b := ⟨_, rfl⟩
  rw [hb] at hs1 ⊢
  have HGB := Lib.hid hb
  clear hb
  go_wp2_with fail
  refine (series_any W b w1 9 14000000 14000000 hs1 (by decide) (by decide) (by decide)).mono ?_
  rintro e w2 ⟨R, v, m, gv, rfl, hRn, hm, hSr⟩
  have HSr := Lib.hid hSr
  clear hSr hs1
  go_wp2_with fail
  refine (control_any W b w2 HSr.out.src).mono ?_
  rintro e w3 ⟨cs, S, P, rfl, hct, hs3, hg3⟩
  have H4 := Lib.hid (Ti.new hT HSr.out hs3 hg3 cs)
  have HSe := Lib.hid HSr.out.ser
  have HC := Lib.hid hct
  clear HSr hs3 hg3
  have hall : cs.all (·.oneCell') = true := by
    rw [Array.all_eq_true]
    intro i hi
    exact hct.one i _ (Array.getElem?_eq_getElem hi)
  have hcs : (Tryd.prog.info? 67).map (·.size) = some cs.size := by rw [hct.ct.size]; kernel_rfl
  have hsz : cs0.size = cs.size := by rw [hct.ct.size]; rfl
  have hz41 : cs.size = 41 := hct.ct.size
  have hsc := run_storeCells_new (P := Tryd.prog) w3 67 cs0 cs hcs hsz hall
  have hsv := run_storeVar_new (P := Tryd.prog) w3 67 cs0 cs hcs hsz hall
  unfold cs0 at hsc hsv
  clear hct
  go_upto_region 4 with fail
  clear hsc hsv hz41 hsz hall hcs
  refine forget (fun Y => Hid (Ti W w3.heap.size cs v R Y)) H4 ?_
  clear H4
  generalize w3.heap.size = gc at *
  rintro Y0 H4
  go_wp2_with fail
  refine (mod_any code 11 Y0 hc (by decide) (by decide)).mono ?_
  rintro e _ ⟨rfl, rfl⟩
  obtain ⟨c, hc0⟩ : ∃ c, 1 + code % 11 = c := ⟨_, rfl⟩
  have hc1 : 1 ≤ c ∧ c ≤ 11 := by omega
  have hcw : IntKind.i64.wrap (1 + code % 11) = c := by rw [hc0]; exact IntWalk.i64_in _ (by omega)
  obtain ⟨Ax, cx, hvx, -⟩ := id H4.out.ins
  subst hvx
  go_wp2_with fail
  go_loopw [9, 32] (fun v9 ti wr => ∃ (R' : List Rp) (k : Nat), k ≤ R.length ∧ ti = .int .i64 (k : Int) ∧ R'.length = k ∧ Hid (Ho Y0 none R' v9 wr) ∧ Hid (OnK c R R')) (fun _ ti _ => R.length - (intOf ti).toNat)
  case atStart => exact ⟨[], 0, Nat.zero_le _, rfl, rfl, Lib.hid (Ho.nil Y0 none (fun _ h => (by cases h))), Lib.hid (fun j h h' => absurd h' (Nat.not_lt_zero j))⟩
  case round =>
    obtain ⟨R', k, hk, rfl, hRl, HO, HOn⟩ := hrel
    by_cases hlt : k < R.length
    · have HTi := Lib.hid (H4.out.under (below_new HO.out.gro))
      obtain ⟨A', cap', e, -, -, hat⟩ := HTi.out.ins
      injection e with e1 e2 e3
      subst e1
      obtain ⟨g, off, hAq, hgl, ⟨c0, c1, c2, c3, c4, c5, c6, c7⟩, hrd⟩ := hat k hlt
      subst hAq
      have k1 : (k : Int) < (R.length : Int) := by omega
      have k2 : (0 : Int) ≤ (k : Int) := by omega
      have hlt' : R'.length < R.length := by omega
      clear hat e3 hgl e2
      obtain ⟨r, hr⟩ : ∃ r, R[k] = r := ⟨_, rfl⟩
      have hrr : R[R'.length] = r := by rw [← hr]; congr 1
      rw [hr] at c0 c1 c2 c3 c4 c5 c6 c7 hrd
      clear hr
      obtain ⟨rk, rn, rt, rF, rA, rB, rC, ru, rL⟩ := r
      simp only at c0 c1 c2 c3 c4 c5 c6 c7 hrd
      obtain ⟨Au, cu, eu, -⟩ := id hrd
      have eu' : ru = .slice Au rL.length cu := eu
      subst eu'
      clear eu
      have b1 := (Below.refl wr.heap.size wr).alloc (Nat.le_refl _) (.cells (repC rk rn rt rF rA rB rC (.slice Au rL.length cu)) 38)
      have H2 : Hid ((Below wr.heap.size wr (wr.alloc (.cells (repC rk rn rt rF rA rB rC (.slice Au rL.length cu)) 38)) ∧ Row (wr.alloc (.cells (repC rk rn rt rF rA rB rC (.slice Au rL.length cu)) 38)) wr.heap.size 38 (repC rk rn rt rF rA rB rC (.slice Au rL.length cu))) ∧ El.RdIn (wr.alloc (.cells (repC rk rn rt rF rA rB rC (.slice Au rL.length cu)) 38)) (.slice Au rL.length cu) rL) := Lib.hid ⟨⟨b1, Row.new _ _ _⟩, hrd.under b1⟩
      clear b1 hrd HTi
      go_upto_region 9 with fail
      refine forget (fun Y => Hid ((Below wr.heap.size wr Y ∧ Row Y wr.heap.size 38 (repC rk rn rt rF rA rB rC (.slice Au rL.length cu))) ∧ El.RdIn Y (.slice Au rL.length cu) rL)) H2 ?_
      clear H2 c0 c1 c2 c3 c4 c5 c6 c7
      obtain ⟨gr, hgr⟩ : ∃ g, wr.heap.size = g := ⟨_, rfl⟩
      have HGR := Lib.hid hgr
      have hgr2 : wr.heap.size ≤ gr := Nat.le_of_eq hgr
      rw [hgr]
      clear hgr
      rintro Y2 H2
      obtain ⟨q0, q1, q2, q3, q4, q5, q6, q7⟩ := row8 H2.out.1.2
      have HFi := El.refFind_any _ rL c Y2 H2.out.2
      unfold El.FndR at HFi
      have HFi := Lib.hid HFi
      go_wp2_with fail
      cases hfd : El.Elt.fnd rL c with
      | none =>
        rw [hfd] at HFi
        refine HFi.out.mono ?_
        rintro e Y3 ⟨rfl, g3⟩
        have f3 := HGR.out ▸ H2.out.1.1
        have hr3 := H2.out.1.2.under g3
        have HLe : Hid (([] : List El.Elt.R) = onL c rL) := Lib.hid (by unfold onL fnd; rw [hfd])
        have H3 : Hid (Below wr.heap.size wr (Y3.setCell ⟨gr, 7, none⟩ (.slice none 0 0)) ∧ Row (Y3.setCell ⟨gr, 7, none⟩ (.slice none 0 0)) gr 38 (repC rk rn rt rF rA rB rC (.slice none 0 0))) := Lib.hid ⟨set1_below (f3.trans (g3.mono f3.size)) hgr2, hr3.put 7 _⟩
        have y7 := (row8 hr3).2.2.2.2.2.2.2
        have t7 := hr3.thaw 7
        clear f3 hr3 g3 H2 q0 q1 q2 q3 q4 q5 q6 q7
        go_upto_region 13 with fail
        refine forget (fun Y => Hid (Below wr.heap.size wr Y ∧ Row Y gr 38 (repC rk rn rt rF rA rB rC (.slice none 0 0)))) H3 ?_
        clear H3 y7 t7
        rintro Y4 H3
        have HU := Lib.hid (show Y4.ownsRow Y0.heap.size 81 2 (.slice none 0 0) 0 [] from ⟨rfl, .inl ⟨rfl, rfl⟩⟩)
        obtain ⟨q, hq⟩ : ∃ q : Rp, (⟨rk, rn, rt, rF, rA, rB, rC, (.slice none 0 0), []⟩ : Rp) = q := ⟨_, rfl⟩
        have b6 := H3.out.1.alloc H3.out.1.size (.cells (repC rk rn rt rF rA rB rC (.slice none 0 0)) 38)
        have HC8 := Lib.hid (eight_at (r := (⟨rk, rn, rt, rF, rA, rB, rC, (.slice none 0 0), []⟩ : Rp)) (Row.new Y4 (repC rk rn rt rF rA rB rC (.slice none 0 0)) 38))
        have HO6 := Lib.hid (HO.out.under b6)
        have HU6 := Lib.hid (El.own_under HU.out ((Below.refl Y4.heap.size Y4).alloc (Nat.le_refl _) (.cells (repC rk rn rt rF rA rB rC (.slice none 0 0)) 38)))
        have hsY : Y0.heap.size ≤ Y4.heap.size := Nat.le_trans HO.out.gro.size H3.out.1.size
        have z := row8 H3.out.2
        obtain ⟨z0, z1, z2, z3, z4, z5, z6, z7⟩ := z
        clear b6 hq q H3 HU HO
        go_wp2_with (at_builtin; go_loud (refine wpList_append_own' rfl (.tmp 50) (.tmp 52) 25 rfl Y0.heap.size 38 i0 (repV 0 ⟨#[]⟩ 0 0 0 0 0 (.slice none 0 0)) 8 88 Tryd.underlying25 hi0 hz0 hz1 hz2 rfl (by decide) u9 R'.length (rpc R') rfl HO6.out.own ⟨Y4.heap.size, 0, none⟩ 1 1 (rpCells (⟨rk, rn, rt, rF, rA, rB, rC, (.slice none 0 0), []⟩ : Rp)) rfl rfl HC8.out (fun z hz => by simp only [rpCells, List.mem_cons, List.not_mem_nil, or_false] at hz; rcases hz with rfl | rfl | rfl | rfl | rfl | rfl | rfl | rfl <;> rfl) (by unfold maxLen; omega) (by omega) HO6.out.gro.size ?_); intro v9 w9 ho9 hg9; have HW9 := Lib.hid (And.intro ho9 hg9); clear ho9 hg9)
        have H9 := Lib.hid (HO6.out.app (q := (⟨rk, rn, rt, rF, rA, rB, rC, (.slice none 0 0), []⟩ : Rp)) HU6.out HW9.out.1 HW9.out.2)
        have HN9 := Lib.hid (HOn.out.snoc hlt' hrr (⟨rk, rn, rt, rF, rA, rB, rC, (.slice none 0 0), []⟩ : Rp) rfl rfl HLe.out)
        clear HW9 HO6 HU6 HC8
        exact ⟨⟨_, k + 1, by omega, by go_num, by rw [List.length_append, hRl]; rfl, H9, HN9⟩, by simp [intOf]; omega⟩
      | some x =>
        rw [hfd] at HFi
        refine HFi.out.mono ?_
        rintro e Y3 ⟨rfl, g3⟩
        have f3 := HGR.out ▸ H2.out.1.1
        have hr3 := H2.out.1.2.under g3
        have HLe : Hid (([(c, x)] : List El.Elt.R) = onL c rL) := Lib.hid (by unfold onL fnd; rw [hfd])
        have H3 : Hid (Below wr.heap.size wr (Y3.setCell ⟨gr, 7, none⟩ (.slice none 0 0)) ∧ Row (Y3.setCell ⟨gr, 7, none⟩ (.slice none 0 0)) gr 38 (repC rk rn rt rF rA rB rC (.slice none 0 0))) := Lib.hid ⟨set1_below (f3.trans (g3.mono f3.size)) hgr2, hr3.put 7 _⟩
        have y7 := (row8 hr3).2.2.2.2.2.2.2
        have t7 := hr3.thaw 7
        clear f3 hr3 g3 H2 q0 q1 q2 q3 q4 q5 q6 q7
        go_upto_region 12 with fail
        refine forget (fun Y => Hid (Below wr.heap.size wr Y ∧ Row Y gr 38 (repC rk rn rt rF rA rB rC (.slice none 0 0)))) H3 ?_
        clear H3 y7 t7
        rintro Y3' H3
        have b5 := H3.out.1.alloc H3.out.1.size (.cells #[.int .i64 c, .int .i64 x] 81)
        have hr5 := H3.out.2.alloc (.cells #[.int .i64 c, .int .i64 x] 81)
        have hu5 := rd_new Y3' [(c, x)] (by simp) (by simp) #[.int .i64 c, .int .i64 x] rfl
        have hgl5 := H3.out.2.lt
        have hsz5 : Y0.heap.size ≤ Y3'.heap.size := Nat.le_trans HO.out.gro.size H3.out.1.size
        have H5 : Hid ((Below wr.heap.size wr ((Y3'.alloc (.cells #[.int .i64 c, .int .i64 x] 81)).setCell ⟨gr, 7, none⟩ (.slice (some ⟨Y3'.heap.size, 0, none⟩) 1 1)) ∧ Row ((Y3'.alloc (.cells #[.int .i64 c, .int .i64 x] 81)).setCell ⟨gr, 7, none⟩ (.slice (some ⟨Y3'.heap.size, 0, none⟩) 1 1)) gr 38 (repC rk rn rt rF rA rB rC (.slice (some ⟨Y3'.heap.size, 0, none⟩) 1 1))) ∧ ((Y3'.alloc (.cells #[.int .i64 c, .int .i64 x] 81)).setCell ⟨gr, 7, none⟩ (.slice (some ⟨Y3'.heap.size, 0, none⟩) 1 1)).ownsRow Y0.heap.size 81 2 (.slice (some ⟨Y3'.heap.size, 0, none⟩) 1 1) 1 (El.rdc [(c, x)])) :=
          Lib.hid ⟨⟨set1_below b5 hgr2, hr5.put 7 _⟩, own_heap (own_base hu5 hsz5) (fun i hi => Below.heap_setCell _ _ _ _ (by have hi' : some Y3'.heap.size = some i := hi; injection hi' with hi'; show i ≠ gr; omega))⟩
        have y7 := (row8 hr5).2.2.2.2.2.2.2
        have t7 := hr5.thaw 7
        clear b5 hr5 hu5 hgl5 hsz5 H3
        go_upto_region 13 with fail
        obtain ⟨gu, hgu⟩ : ∃ g, Y3'.heap.size = g := ⟨_, rfl⟩
        refine forget (fun Y => Hid ((Below wr.heap.size wr Y ∧ Row Y gr 38 (repC rk rn rt rF rA rB rC (.slice (some ⟨Y3'.heap.size, 0, none⟩) 1 1))) ∧ Y.ownsRow Y0.heap.size 81 2 (.slice (some ⟨Y3'.heap.size, 0, none⟩) 1 1) 1 (El.rdc [(c, x)]))) H5 ?_
        clear H5 y7 t7
        rw [hgu]
        clear hgu
        rintro Y4 H35
        have H3 := Lib.hid H35.out.1
        have HU := Lib.hid H35.out.2
        clear H35
        obtain ⟨q, hq⟩ : ∃ q : Rp, (⟨rk, rn, rt, rF, rA, rB, rC, (.slice (some ⟨gu, 0, none⟩) 1 1), [(c, x)]⟩ : Rp) = q := ⟨_, rfl⟩
        have b6 := H3.out.1.alloc H3.out.1.size (.cells (repC rk rn rt rF rA rB rC (.slice (some ⟨gu, 0, none⟩) 1 1)) 38)
        have HC8 := Lib.hid (eight_at (r := (⟨rk, rn, rt, rF, rA, rB, rC, (.slice (some ⟨gu, 0, none⟩) 1 1), [(c, x)]⟩ : Rp)) (Row.new Y4 (repC rk rn rt rF rA rB rC (.slice (some ⟨gu, 0, none⟩) 1 1)) 38))
        have HO6 := Lib.hid (HO.out.under b6)
        have HU6 := Lib.hid (El.own_under HU.out ((Below.refl Y4.heap.size Y4).alloc (Nat.le_refl _) (.cells (repC rk rn rt rF rA rB rC (.slice (some ⟨gu, 0, none⟩) 1 1)) 38)))
        have hsY : Y0.heap.size ≤ Y4.heap.size := Nat.le_trans HO.out.gro.size H3.out.1.size
        have z := row8 H3.out.2
        obtain ⟨z0, z1, z2, z3, z4, z5, z6, z7⟩ := z
        clear b6 hq q H3 HU HO
        go_wp2_with (at_builtin; go_loud (refine wpList_append_own' rfl (.tmp 50) (.tmp 52) 25 rfl Y0.heap.size 38 i0 (repV 0 ⟨#[]⟩ 0 0 0 0 0 (.slice none 0 0)) 8 88 Tryd.underlying25 hi0 hz0 hz1 hz2 rfl (by decide) u9 R'.length (rpc R') rfl HO6.out.own ⟨Y4.heap.size, 0, none⟩ 1 1 (rpCells (⟨rk, rn, rt, rF, rA, rB, rC, (.slice (some ⟨gu, 0, none⟩) 1 1), [(c, x)]⟩ : Rp)) rfl rfl HC8.out (fun z hz => by simp only [rpCells, List.mem_cons, List.not_mem_nil, or_false] at hz; rcases hz with rfl | rfl | rfl | rfl | rfl | rfl | rfl | rfl <;> rfl) (by unfold maxLen; omega) (by omega) HO6.out.gro.size ?_); intro v9 w9 ho9 hg9; have HW9 := Lib.hid (And.intro ho9 hg9); clear ho9 hg9)
        have H9 := Lib.hid (HO6.out.app (q := (⟨rk, rn, rt, rF, rA, rB, rC, (.slice (some ⟨gu, 0, none⟩) 1 1), [(c, x)]⟩ : Rp)) HU6.out HW9.out.1 HW9.out.2)
        have HN9 := Lib.hid (HOn.out.snoc hlt' hrr (⟨rk, rn, rt, rF, rA, rB, rC, (.slice (some ⟨gu, 0, none⟩) 1 1), [(c, x)]⟩ : Rp) rfl rfl HLe.out)
        clear HW9 HO6 HU6 HC8
        exact ⟨⟨_, k + 1, by omega, by go_num, by rw [List.length_append, hRl]; rfl, H9, HN9⟩, by simp [intOf]; omega⟩
    · obtain rfl : k = R.length := by omega
      have HTi := Lib.hid (H4.out.under (below_new HO.out.gro))
      have HIn' := Lib.hid HO.out.ins
      have HOl := Lib.hid (show Onl R R' c from ⟨hRl, HOn.out⟩)
      clear HO HOn H4
      have hcs : (Tryd.prog.info? 67).map (·.size) = some cs.size := by rw [HC.out.ct.size]; kernel_rfl
      have hbox : wr.heap[gc]? = some (.cells cs 67 (0, 0)) := HTi.out.box
      have HE1 := Lib.hid (HSe.out.er (by decide) (by omega) HC.out)
      have HNm := Lib.hid HSe.out.nm
      have HE2 := Lib.hid (HOl.out.er HSe.out HC.out (by omega) (by omega))
      have HNm2 := Lib.hid (HOl.out.nm HNm.out)
      have HFl := Lib.hid (HOl.out.flg (asc_dis HSe.out.asc) (fun r hr => vld_asc (HSe.out.all r hr).2.2.2) S P)
      go_wp2_with (refine wpList_load_row rfl 67 (.tmp 7) rfl gc rfl 67 cs (0, 0) _ hbox Tryd.underlying67 rfl hcs ?_)
      refine (check_any _ R cs S P wr HTi.out.ins HC.out.ct HTi.out.tab (by omega) HNm.out).mono ?_
      rintro e Y5 ⟨va, rfl, hb5, -, hz5⟩
      rw [HE1.out] at *
      have H5 := Lib.hid (HTi.out.under hb5)
      have HI5 := Lib.hid (HIn'.out.under hb5)
      have HFa := Lib.hid (In3.own flE_len (hz5 rfl))
      clear hb5 hz5 HIn' HTi hbox
      have hbox : Y5.heap[gc]? = some (.cells cs 67 (0, 0)) := H5.out.box
      go_wp2_with (refine wpList_load_row rfl 67 (.tmp 7) rfl gc rfl 67 cs (0, 0) _ hbox Tryd.underlying67 rfl hcs ?_)
      refine (check_any _ R' cs S P Y5 HI5.out HC.out.ct H5.out.tab (by omega) HNm2.out).mono ?_
      rintro e Y6 ⟨vb, rfl, hb6, -, hz6⟩
      rw [HE2.out] at *
      have H6 := Lib.hid (H5.out.under hb6)
      have HFa6 := Lib.hid (HFa.out.under hb6)
      have HFb := Lib.hid (In3.own flE_len (hz6 rfl))
      rw [HFl.out] at HFb
      clear hb6 hz6 HI5 H5 HFa hbox HFl HE1 HE2 HNm HNm2 HOl hRl hcs
      have hfl9 : (flg R S P).length ≤ 99 := Nat.le_trans (flK_len S P (fun r hr => (HSe.out.all r hr).2.2.2) R.length (Nat.le_refl _)) (by omega)
      generalize flg R S P = fl at *
      have HBt := Lib.hid H6.out.below
      have HTb := Lib.hid H6.out.tab
      clear H6
      obtain ⟨Af, cf, hvf, hfl⟩ := HFa6.out.form'
      subst hvf
      have F0 := Lib.hid (Fo.nil Y6)
      go_wp2_with fail
      go_loopw [18, 69] (fun vw ti wr => ∃ (L : List (Nat × Int)) (k : Nat), k ≤ fl.length ∧ ti = .int .i64 (k : Int) ∧ L.length ≤ k ∧ Hid (L = (fl.take k).filter fun q => q.2 == c) ∧ Hid (Fo Y6 L vw wr)) (fun _ ti _ => fl.length - (intOf ti).toNat)
      case atStart => exact ⟨[], 0, Nat.zero_le _, rfl, Nat.le_refl _, Lib.hid rfl, F0⟩
      case round =>
        clear F0
        obtain ⟨L, k, hk, rfl, hLk, HL, HFo⟩ := hrel
        by_cases hlt : k < fl.length
        · have HIw := Lib.hid (HFa6.out.under (below_new HFo.out.gro))
          obtain ⟨g, off, hAq, hgl, c0, c1, c2⟩ := HIw.out.cellsF hlt
          subst hAq
          have k1 : (k : Int) < (fl.length : Int) := by omega
          have k2 : (0 : Int) ≤ (k : Int) := by omega
          have HTk := Lib.hid (take_flag (c := c) hlt)
          obtain ⟨q, hq⟩ : ∃ q, fl[k] = q := ⟨_, rfl⟩
          rw [hq] at c0 c1 HTk
          clear hq hgl HIw
          have b1 := (Below.refl wr.heap.size wr).alloc (Nat.le_refl _) (.cells (flC q.1 q.2) 77)
          have H2 : Hid (Fo Y6 L u18 (wr.alloc (.cells (flC q.1 q.2) 77)) ∧ Row (wr.alloc (.cells (flC q.1 q.2) 77)) wr.heap.size 77 (flC q.1 q.2)) := Lib.hid ⟨HFo.out.under b1, Row.new _ _ _⟩
          clear b1 HFo
          go_upto_region 21 with fail
          refine forget (fun Y => Hid (Fo Y6 L u18 Y ∧ Row Y wr.heap.size 77 (flC q.1 q.2))) H2 ?_
          clear H2 c0 c1 c2
          generalize wr.heap.size = gq at *
          rintro Y7 H2
          obtain ⟨q0, q1, q2⟩ := row3 (show Row Y7 gq 77 #[.int .i64 (q.1 : Int), .int .i64 q.2, .int .i64 4] from H2.out.2)
          by_cases hqc : q.2 = c
          · have kx : (q.2 == c) = true := beq_iff_eq.2 hqc
            have HL2 : Hid (L ++ [q] = (fl.take (k + 1)).filter fun q => q.2 == c) := Lib.hid (by rw [HTk.out, if_pos hqc, ← HL.out])
            clear HTk HL
            clear hqc
            go_upto_region 22 with fail
            have HR8 := Lib.hid (Row.new Y7 #[.int .i64 (q.1 : Int), .int .i64 q.2, .int .i64 4] 77)
            have H8 := Lib.hid (H2.out.1.under ((Below.refl Y7.heap.size Y7).alloc (Nat.le_refl _) (.cells (flC q.1 q.2) 77)))
            have hs8 : Y6.heap.size ≤ Y7.heap.size := H2.out.1.gro.size
            clear H2
            go_wp2_with (at_builtin; go_loud (refine wpList_append_own' rfl (.tmp 77) (.tmp 79) 70 rfl Y6.heap.size 77 i1 (.agg #[.int .i64 0, .int .i64 0, .int .i64 0]) 3 24 Tryd.underlying70 hj0 hj1 hj2 hj3 rfl (by decide) u18 L.length (rc flE L) rfl H8.out.own ⟨Y7.heap.size, 0, none⟩ 1 1 (flE q) rfl rfl (fun p v hv => by rw [Addr.add_lit, Nat.zero_add, HR8.out.cell, ← hv]; simp [flE]) (fun v hv => by simp [flE] at hv; rcases hv with rfl | rfl | rfl <;> rfl) (by unfold maxLen; omega) (by omega) H8.out.gro.size ?_); intro v9 w9 ho9 hg9; have HW9 := Lib.hid (And.intro ho9 hg9); clear ho9 hg9)
            have H9 := Lib.hid (H8.out.app HW9.out.1 HW9.out.2)
            clear HW9 H8 HR8 q0 q1 q2
            exact ⟨⟨_, k + 1, by omega, by go_num, by rw [List.length_append]; simp; omega, HL2, H9⟩, by simp [intOf]; omega⟩
          · have kx : (q.2 == c) = false := beq_eq_false_iff_ne.2 hqc
            have HL2 : Hid (L = (fl.take (k + 1)).filter fun q => q.2 == c) := Lib.hid (by rw [HTk.out, if_neg hqc, List.append_nil]; exact HL.out)
            have H9 := Lib.hid H2.out.1
            clear HTk HL H2 hqc
            go_wp2_with fail
            exact ⟨⟨L, k + 1, by omega, by go_num, by omega, HL2, H9⟩, by simp [intOf]; omega⟩
        · obtain rfl : k = fl.length := by omega
          have HL2 : Hid (L = fl.filter fun q => q.2 == c) := Lib.hid (by have h := HL.out; rw [List.take_length] at h; exact h)
          have hbw := below_new HFo.out.gro
          have HA := Lib.hid (HFb.out.under hbw)
          have HB := Lib.hid (In3.own flE_len HFo.out.own)
          have HT8 := Lib.hid (HTb.out.under hbw)
          have HB8 := Lib.hid (HBt.out.trans (hbw.mono HBt.out.size))
          clear hbw HFo HFb HFa6 HTb HBt HL
          rw [← HL2.out] at HA
          go_wp2_with fail
          refine (flags_any _ _ _ _ _ HA.out HB.out).mono ?_
          rintro e X9 ⟨rfl, b9⟩
          have HT9 := Lib.hid (HT8.out.under b9)
          have HB9 := Lib.hid (HB8.out.trans (b9.mono HB8.out.size))
          clear b9 HT8 HB8 HA HB
          rw [show decide (L = L) = true from decide_eq_true rfl]
          go_wp2_with fail
          refine (awake_any X9 HT9.out).mono ?_
          rintro e X10 ⟨rfl, b10⟩
          have HF := Lib.hid (HB9.out.trans (b10.mono HB9.out.size))
          clear b10 HB9 HT9
          go_wp2_with fail
          go_ret
          exact ⟨rfl, HF.out⟩
end Go.Proofs.YtlakgkoohdfiaaaDoor.Tm
namespace Go.Proofs.YtlakgkoohdfiaaaDoor
open Go.RowKit
theorem timelineElements_any (l : Value) (code : Int) (W : World) (hE : Env W) (hI : ListIn W l) (hc : I64 code) :
    Calls Tryd.prog 10 #[l, .int .i64 code] W fun e w' => e = .returned (.bool true) ∧ Below W.heap.size W w' := Tm.timelineElements_any l code W hE.elt hI hc
end Go.Proofs.YtlakgkoohdfiaaaDoor
