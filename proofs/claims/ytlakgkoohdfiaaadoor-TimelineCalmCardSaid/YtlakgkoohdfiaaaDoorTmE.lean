/- The program's steps: the marks of the step rule. -/
import Derived.Test.YtlakgkoohdfiaaaDoorQab
import Derived.Test.YtlakgkoohdfiaaaDoorQaa
import Derived.OwnWalk
import Derived.Deep.OwnRows
namespace Go.Proofs.YtlakgkoohdfiaaaDoor.Tm
open Go.RowKit

theorem infoB : (Tryd.prog.info? 4).map (fun i => (i.zero, i.size, i.bytes)) = some (some (.bool false), 1, 1) := by kernel_rfl
/-- A row of marks. -/
structure Mk (Z : World) (gB n : Nat) (M : Nat → Bool) (w : World) : Prop where
  below : Below Z.heap.size Z w
  base : Z.heap.size ≤ gB
  row : ∃ cs : Array Value, Row w gB 4 cs ∧ cs.size = n ∧ ∀ j, j < n → cs[j]? = some (.bool (M j))
section
variable {Z w w' : World} {gB n : Nat} {M M' : Nat → Bool}
theorem Mk.under (h : Mk Z gB n M w) (hb : Below w.heap.size w w') : Mk Z gB n M w' := by
  obtain ⟨cs, hr, h2⟩ := h.row
  exact ⟨h.below.trans (hb.mono h.below.size), h.base, cs, hr.under hb, h2⟩
theorem Mk.to (h : Mk Z gB n M w) (hd : ∀ j, j < n → M j = M' j) : Mk Z gB n M' w := by
  obtain ⟨cs, hr, h1, h2⟩ := h.row
  exact ⟨h.below, h.base, cs, hr, h1, fun j hj => by rw [h2 j hj, hd j hj]⟩
theorem Mk.start (Z : World) (n : Nat) (hd : ∀ j, j < n → M j = false) : Mk Z Z.heap.size n M (Z.alloc (.cells (madeCells #[.bool false] n) 4)) := by
  have e := toList_madeCells_one (.bool false) n
  refine ⟨(Below.refl _ _).alloc (Nat.le_refl _) _, Nat.le_refl _, _, Row.new _ _ _, by rw [← Array.length_toList, e, List.length_replicate], fun j hj => ?_⟩
  rw [← Array.getElem?_toList, e, List.getElem?_replicate, if_pos hj, hd j hj]
theorem Mk.facts (h : Mk Z gB n M w) {p : Nat} (hp : p < n) : w.cell? ⟨gB, p, none⟩ = some (.bool (M p)) ∧ w.frozen? ⟨gB, p, none⟩ = false := by
  obtain ⟨cs, hr, h1, h2⟩ := h.row
  exact ⟨(hr.cell p).trans (h2 p hp), hr.thaw p⟩
theorem Mk.put (h : Mk Z gB n M w) {p : Nat} (hp : p < n) : Mk Z gB n (fun j => M j || decide (j = p)) (w.setCell ⟨gB, p, none⟩ (.bool true)) := by
  obtain ⟨cs, hr, h1, h2⟩ := h.row
  refine ⟨h.below.setCell (p := ⟨gB, p, none⟩) h.base _, h.base, _, hr.put p _, by rw [Array.size_setIfInBounds]; exact h1, fun j hj => ?_⟩
  rw [Array.getElem?_setIfInBounds]
  by_cases hjp : p = j
  · subst hjp
    rw [if_pos rfl, if_pos (by omega)]; simp
  · rw [if_neg hjp, h2 j hj]
    have : ¬ j = p := fun e => hjp e.symm
    simp [this]
theorem Mk.lt (h : Mk Z gB n M w) : gB < w.heap.size := by
  obtain ⟨cs, hr, -⟩ := h.row
  exact hr.lt
theorem Mk.far (h : Mk Z gB n M w) {p : Addr} (hp : p.block ≠ gB) (hz : Z.heap.size ≤ p.block) (u : Value) : Mk Z gB n M (w.setCell p u) := by
  obtain ⟨cs, hr, h2⟩ := h.row
  exact ⟨h.below.setCell hz _, h.base, cs, hr.far hp u, h2⟩
theorem Mk.ne {g : Nat} {t : TypeId} {cs : Array Value} (h : Mk Z gB n M w) (hr : Row w g t cs) (ht : t ≠ 4) : g ≠ gB := by
  rintro rfl
  obtain ⟨cs', hr', -⟩ := h.row
  unfold Row at hr hr'
  rw [hr] at hr'
  injection hr' with e
  injection e with _ e
  exact ht e
end
theorem srt_le {L : List Pt} (h : Srt L) {i j : Nat} (hij : i ≤ j) (hj : j < L.length) : (pa L i).t ≤ (pa L j).t := by
  rcases Nat.lt_or_ge i j with h1 | h1
  · rw [pa_get (by omega), pa_get hj]
    exact Int.le_of_lt (List.pairwise_iff_getElem.1 h i j (by omega) hj h1)
  · have : i = j := by omega
    subst this; exact Int.le_refl _
/-- What is known in the loop of steps. -/
structure Ss (w : World) (gB gs gg n : Nat) (M : Nat → Bool) (s : Int) (q : Pt) (Y : World) : Prop where
  mks : Mk w gB n M Y
  sb : Row Y gs 3 #[.int .i64 s]
  gb : Row Y gg 137 #[.int .i64 q.v, .int .i64 q.t, .int .i64 (q.i : Int)]
  hs : w.heap.size ≤ gs
  hg : w.heap.size ≤ gg
section
variable {w Y Y' : World} {gB gs gg n : Nat} {M : Nat → Bool} {s : Int} {q : Pt}
theorem Ss.under (h : Ss w gB gs gg n M s q Y) (hb : Below Y.heap.size Y Y') : Ss w gB gs gg n M s q Y' := ⟨h.mks.under hb, h.sb.under hb, h.gb.under hb, h.hs, h.hg⟩
theorem Ss.good (h : Ss w gB gs gg n M s q Y) (p : Pt) : Ss w gB gs gg n M s p (((Y.setCell ⟨gg, 0, none⟩ (.int .i64 p.v)).setCell ⟨gg, 1, none⟩ (.int .i64 p.t)).setCell ⟨gg, 2, none⟩ (.int .i64 (p.i : Int))) := by
  have hne : gg ≠ gB := h.mks.ne h.gb (by decide)
  have hne2 : gg ≠ gs := by
    rintro rfl
    have e := h.gb.symm.trans h.sb
    injection e with e
    injection e with _ e
    exact absurd e (by decide)
  have r0 : Row (Y.setCell ⟨gg, 0, none⟩ (.int .i64 p.v)) gg 137 #[.int .i64 p.v, .int .i64 q.t, .int .i64 (q.i : Int)] := h.gb.put 0 _
  have r1 : Row ((Y.setCell ⟨gg, 0, none⟩ (.int .i64 p.v)).setCell ⟨gg, 1, none⟩ (.int .i64 p.t)) gg 137 #[.int .i64 p.v, .int .i64 p.t, .int .i64 (q.i : Int)] := r0.put 1 _
  exact ⟨((h.mks.far (p := ⟨gg, 0, none⟩) hne h.hg _).far (p := ⟨gg, 1, none⟩) hne h.hg _).far (p := ⟨gg, 2, none⟩) hne h.hg _, ((h.sb.far (p := ⟨gg, 0, none⟩) hne2 _).far (p := ⟨gg, 1, none⟩) hne2 _).far (p := ⟨gg, 2, none⟩) hne2 _, r1.put 2 _, h.hs, h.hg⟩
theorem Ss.mark (h : Ss w gB gs gg n M s q Y) {p : Nat} (hp : p < n) : Ss w gB gs gg n (fun j => M j || decide (j = p)) s q (Y.setCell ⟨gB, p, none⟩ (.bool true)) := by
  have hne : gg ≠ gB := h.mks.ne h.gb (by decide)
  have hne2 : gs ≠ gB := h.mks.ne h.sb (by decide)
  exact ⟨h.mks.put hp, h.sb.far (p := ⟨gB, p, none⟩) hne2.symm _, h.gb.far (p := ⟨gB, p, none⟩) hne.symm _, h.hs, h.hg⟩
end
theorem gd_next {s : Int} {L : List Pt} {k : Nat} (h : rj s L k = false) : gd s L (k + 1) = k := by
  show (if bad s L (gd s L k) k = true then gd s L k else k) = k
  have : bad s L (gd s L k) k = false := h
  rw [this]; rfl
theorem gd_stay {s : Int} {L : List Pt} {k : Nat} (h : rj s L k = true) : gd s L (k + 1) = gd s L k := by
  show (if bad s L (gd s L k) k = true then gd s L k else k) = gd s L k
  have : bad s L (gd s L k) k = true := h
  rw [this]; rfl
theorem ss_next {w Y : World} {gB gs gg n k : Nat} {s : Int} {L : List Pt} (h : rj s L k = false) (hg : gd s L (k + 1) = k) (hY : Ss w gB gs gg n (fun j => decide (j < k) && rj s L j) s (pa L k) Y) : Ss w gB gs gg n (fun j => decide (j < k + 1) && rj s L j) s (pa L (gd s L (k + 1))) Y := by
  rw [hg]
  refine ⟨hY.mks.to fun j _ => ?_, hY.sb, hY.gb, hY.hs, hY.hg⟩
  by_cases e : j = k
  · subst e; simp [h]
  · have : (j < k) ↔ (j < k + 1) := by omega
    simp [this]
theorem ss_mark {w Y : World} {gB gs gg n k : Nat} {s : Int} {L : List Pt} (h : rj s L k = true) (hg : gd s L (k + 1) = gd s L k) (hY : Ss w gB gs gg n (fun j => (decide (j < k) && rj s L j) || decide (j = k)) s (pa L (gd s L k)) Y) : Ss w gB gs gg n (fun j => decide (j < k + 1) && rj s L j) s (pa L (gd s L (k + 1))) Y := by
  rw [hg]
  refine ⟨hY.mks.to fun j _ => ?_, hY.sb, hY.gb, hY.hs, hY.hg⟩
  by_cases e : j = k
  · subst e; simp [h]
  · have : (j < k) ↔ (j < k + 1) := by omega
    simp [this, e]
/-- What steps leaves. -/
def StO (w : World) (s : Int) (L : List Pt) (e : Ending) (Y : World) : Prop := ∃ gB, e = .returned (.slice (some ⟨gB, 0, none⟩) L.length L.length) ∧ Mk w gB L.length (fun j => decide (0 < s) && rj s L j) Y
set_option maxRecDepth 100000 in
set_option maxHeartbeats 4000000 in
theorem steps_any (v : Value) (L : List Pt) (s : Int) (w : World) (hv : In3 ptE w v L) (hn : 0 < L.length) (hl : L.length ≤ 100000) (hs : Srt L) (hb : ∀ j, j < L.length → Pb (pa L j)) (s0 : 0 ≤ s) (s1 : s ≤ 10000) :
    Calls Tryd.prog 80 #[v, .int .i64 s] w (StO w s L) := by
  obtain ⟨A, cap, rfl, -⟩ := hv.form
  have HV := Lib.hid hv; clear hv
  have HB := Lib.hid hb; clear hb
  have HS := Lib.hid hs; clear hs
  have b1 := (Below.refl w.heap.size w).alloc (Nat.le_refl _) (.cells #[.int .i64 s] 3)
  have m1 := Mk.start (M := fun _ => false) (w.alloc (.cells #[.int .i64 s] 3)) L.length (fun _ _ => rfl)
  have I1 : Hid (Mk w (w.heap.size + 1) L.length (fun _ => false) ((w.alloc (.cells #[.int .i64 s] 3)).alloc (.cells (madeCells #[.bool false] L.length) 4)) ∧ Row ((w.alloc (.cells #[.int .i64 s] 3)).alloc (.cells (madeCells #[.bool false] L.length) 4)) w.heap.size 3 #[.int .i64 s]) := Lib.hid ⟨⟨b1.trans (m1.below.mono b1.size), by omega, by simpa using m1.row⟩, (Row.new _ _ _).alloc _⟩
  clear b1 m1
  have hmk := run_make_row' (P := Tryd.prog) 134 4 (.bool false) 1 Tryd.underlying134 infoB rfl .i64 .i64 L.length (by omega) (by omega)
  go_enter Tryd.func80, Tryd.ntmps80
  go_upto_region 2 with fail
  refine forget (fun Y => Hid (Mk w (w.heap.size + 1) L.length (fun _ => false) Y ∧ Row Y w.heap.size 3 #[.int .i64 s])) I1 ?_
  clear I1 hmk
  obtain ⟨gB, hgB⟩ : ∃ g, w.heap.size + 1 = g := ⟨_, rfl⟩
  obtain ⟨gs, hgs⟩ : ∃ g, w.heap.size = g := ⟨_, rfl⟩
  have HGS := Lib.hid hgs
  rw [hgB, hgs]
  clear hgB hgs
  rintro Y HY
  have c0 := (HY.out.2.cell 0).trans rfl
  by_cases h0 : s = 0
  · subst h0
    have HF := Lib.hid (HY.out.1.to (M' := fun j => decide ((0 : Int) < 0) && rj 0 L j) (fun j _ => rfl))
    clear HY
    go_wp2_with fail
    go_ret
    exact ⟨gB, rfl, HF.out⟩
  · have k0 : (s == 0) = false := beq_eq_false_iff_ne.2 h0
    have j0 : (0 : Int) < (L.length : Int) := by omega
    obtain ⟨g, off, rfl, hg, d0, d1, d2⟩ := (HV.out.under (HGS.out ▸ HY.out.1.below)).cells (W := Y) hn
    simp only [Nat.zero_mul, Nat.add_zero] at d0 d1 d2
    have b3 := (Below.refl Y.heap.size Y).alloc (Nat.le_refl _) (.cells #[.int .i64 (pa L 0).v, .int .i64 (pa L 0).t, .int .i64 ((pa L 0).i : Int)] 137)
    have I2 : Hid (Ss w gB gs Y.heap.size L.length (fun _ => false) s (pa L 0) (Y.alloc (.cells #[.int .i64 (pa L 0).v, .int .i64 (pa L 0).t, .int .i64 ((pa L 0).i : Int)] 137))) := Lib.hid ⟨HY.out.1.under b3, HY.out.2.under b3, Row.new _ _ _, by have := HGS.out; omega, HY.out.1.below.size⟩
    clear b3
    go_upto_region 6 with fail
    refine forget (fun Y' => Hid (Ss w gB gs Y.heap.size L.length (fun _ => false) s (pa L 0) Y')) I2 ?_
    clear I2 d0 d1 d2 c0 HY
    generalize Y.heap.size = gg at *
    rintro Y2 H2
    go_wp2_with fail
    go_loopw [23] (fun t wr => ∃ k : Nat, k ≤ L.length ∧ t = .int .i64 (k : Int) ∧ Hid (Ss w gB gs gg L.length (fun j => decide (j < k) && rj s L j) s (pa L (gd s L k)) wr)) (fun t _ => L.length - (intOf t).toNat)
    case atStart => exact ⟨0, Nat.zero_le _, rfl, Lib.hid ⟨H2.out.mks.to (fun j _ => by simp), H2.out.sb, H2.out.gb, H2.out.hs, H2.out.hg⟩⟩
    case round =>
      clear H2
      obtain ⟨k, hk, rfl, H3⟩ := hrel
      by_cases hlt : k < L.length
      · have k1 : (k : Int) < (L.length : Int) := by omega
        have k2 : (0 : Int) ≤ (k : Int) := by omega
        obtain ⟨g', off', e, -, d0, d1, d2⟩ := (HV.out.under H3.out.mks.below).cells (W := wr) hlt
        injection e with e; injection e with e1 e2
        subst e1 e2
        have b4 := (Below.refl wr.heap.size wr).alloc (Nat.le_refl _) (.cells #[.int .i64 (pa L k).v, .int .i64 (pa L k).t, .int .i64 ((pa L k).i : Int)] 137)
        have H4 : Hid (Ss w gB gs gg L.length (fun j => decide (j < k) && rj s L j) s (pa L (gd s L k)) (wr.alloc (.cells #[.int .i64 (pa L k).v, .int .i64 (pa L k).t, .int .i64 ((pa L k).i : Int)] 137)) ∧ Row (wr.alloc (.cells #[.int .i64 (pa L k).v, .int .i64 (pa L k).t, .int .i64 ((pa L k).i : Int)] 137)) wr.heap.size 137 #[.int .i64 (pa L k).v, .int .i64 (pa L k).t, .int .i64 ((pa L k).i : Int)]) := Lib.hid ⟨H3.out.under b4, Row.new _ _ _⟩
        clear b4 H3
        go_upto_region 9 with fail
        refine forget (fun Y' => Hid (Ss w gB gs gg L.length (fun j => decide (j < k) && rj s L j) s (pa L (gd s L k)) Y' ∧ Row Y' wr.heap.size 137 #[.int .i64 (pa L k).v, .int .i64 (pa L k).t, .int .i64 ((pa L k).i : Int)])) H4 ?_
        clear H4 d0 d1 d2
        generalize wr.heap.size = gp at *
        rintro Y5 H5
        obtain ⟨ia, hia⟩ : ∃ j : Nat, (k : Int) + 1 = (j : Int) := ⟨k + 1, by omega⟩
        have hwa : IntKind.i64.wrap (ia : Int) = ia := IntWalk.i64_in _ (by omega)
        have HIA : Hid (ia = k + 1) := Lib.hid (by omega)
        have HK1 : Hid (k + 1 = ia) := Lib.hid HIA.out.symm
        by_cases hlt2 : ia < L.length
        · have ja0 : (0 : Int) ≤ (ia : Int) := by omega
          have ja1 : (ia : Int) < (L.length : Int) := by omega
          have HX := Lib.hid (HB.out k hlt)
          have HY1 := Lib.hid (HB.out ia hlt2)
          have HT := Lib.hid (srt_le HS.out (show k ≤ ia by omega) hlt2)
          have HSS := Lib.hid (show ∀ Z, Ss w gB gs gg L.length (fun j => decide (j < k) && rj s L j) s (pa L (gd s L k)) Z ∧ Row Z gp 137 #[.int .i64 (pa L k).v, .int .i64 (pa L k).t, .int .i64 ((pa L k).i : Int)] → ((Z.cell? ⟨gp, 0, none⟩ = some (.int .i64 (pa L k).v) ∧ Z.cell? ⟨gp, 1, none⟩ = some (.int .i64 (pa L k).t) ∧ Z.cell? ⟨gp, 2, none⟩ = some (.int .i64 ((pa L k).i : Int))) ∧ Z.cell? ⟨g, off + ia * 3, none⟩ = some (.int .i64 (pa L ia).v) ∧ Z.cell? ⟨g, off + ia * 3 + 1, none⟩ = some (.int .i64 (pa L ia).t) ∧ Z.cell? ⟨g, off + ia * 3 + 2, none⟩ = some (.int .i64 ((pa L ia).i : Int))) from fun Z hz => ⟨row3 hz.2, by
            obtain ⟨g', off', e, -, d0, d1, d2⟩ := (HV.out.under hz.1.mks.below).cells (W := Z) (i := ia) hlt2
            injection e with e; injection e with e1 e2
            subst e1 e2
            exact ⟨d0, d1, d2⟩⟩)
          have HD := Lib.hid (show ∀ W : World, Below W.heap.size W W.drew from fun _ => ⟨rfl, rfl, rfl, Nat.le_refl _, fun _ _ => rfl⟩)
          have H6 := Lib.hid (And.intro (H5.out.1.under (HD.out Y5)) (H5.out.2.under (HD.out Y5)))
          refine wp_region_held_drew (S := fun Z : World => (Z.cell? ⟨gp, 0, none⟩ = some (.int .i64 (pa L k).v) ∧ Z.cell? ⟨gp, 1, none⟩ = some (.int .i64 (pa L k).t) ∧ Z.cell? ⟨gp, 2, none⟩ = some (.int .i64 ((pa L k).i : Int))) ∧ Z.cell? ⟨g, off + ia * 3, none⟩ = some (.int .i64 (pa L ia).v) ∧ Z.cell? ⟨g, off + ia * 3 + 1, none⟩ = some (.int .i64 (pa L ia).t) ∧ Z.cell? ⟨g, off + ia * 3 + 2, none⟩ = some (.int .i64 ((pa L ia).i : Int))) (by kernel_rfl) (HSS.out _ H6.out) (fun hHeld => ?_)
          clear H5
          generalize Y5.drew = X at *
          refine tk 0 (oi := ⟨some 28, _, _, _, _, none⟩) rfl ?_
          try go_frame
          refine tk 1 (oi := ⟨some 29, _, _, _, _, none⟩) rfl ?_
          try go_frame
          refine tk 2 (oi := ⟨some 30, _, _, _, _, none⟩) rfl ?_
          try go_frame
          refine tk 3 (oi := ⟨some 31, _, _, _, _, none⟩) rfl ?_
          try go_frame
          refine tk 4 (oi := ⟨some 32, _, _, _, _, none⟩) rfl ?_
          try go_frame
          refine tk 5 (oi := ⟨some 33, _, _, _, _, none⟩) rfl ?_
          try go_frame
          refine tk 6 (oi := ⟨some 34, _, _, _, _, some _⟩) rfl ?_
          try go_frame
          refine tk 7 (oi := ⟨some 35, _, _, _, _, some _⟩) rfl ?_
          try go_frame
          refine tk 8 (oi := ⟨some 36, _, _, _, _, some _⟩) rfl ?_
          try go_frame
          refine tk 9 (oi := ⟨some 37, _, _, _, _, some _⟩) rfl ?_
          try go_frame
          refine tk 10 (oi := ⟨some 38, _, _, _, _, some _⟩) rfl ?_
          try go_frame
          refine tk 11 (oi := ⟨some 39, _, _, _, _, some _⟩) rfl ?_
          try go_frame
          refine tk 12 (oi := ⟨some 40, _, _, _, _, some _⟩) rfl ?_
          try go_frame
          refine wpAnyH_ready (rs := [13]) (by kernel_rfl) (by simp) ?_
          refine AllReadyH.cons (o := ⟨some 41, _, _, _, _, some _⟩) rfl (fun K hK => ?_) AllReadyH.nil
          go_simp
          refine (slow_any (pa L k) (pa L ia) s gs _ HX.out HY1.out HT.out s0 s1 H6.out.1.sb.lt ((H6.out.1.sb.cell 0).trans rfl)).mono ?_
          rintro e X2 ⟨rfl, g2⟩
          go_wp2_with fail
          have H7 := Lib.hid (And.intro (H6.out.1.under g2) (H6.out.2.under g2))
          clear g2 H6 hHeld
          refine hK.out _ _ (HSS.out _ H7.out) (fun hHeld => ?_)
          clear hK K
          try simp only [Act.put, List.setIfInBounds_toArray, List.set_cons_zero, List.set_cons_succ]
          refine tk 14 (oi := ⟨some 42, _, _, _, _, none⟩) rfl ?_
          try go_frame
          refine tk 15 (oi := ⟨some 10, _, _, _, _, none⟩) rfl ?_
          try go_frame
          refine wpAnyH_done (by kernel_rfl) ?_ _
          obtain ⟨p0, p1, p2⟩ := row3 H7.out.2
          obtain ⟨g0, g1, g2⟩ := row3 H7.out.1.gb
          go_wp2_with fail
          have HG := Lib.hid (HB.out (gd s L k) (by have := gd_le s L k; omega))
          have HXk := Lib.hid (HB.out k hlt)
          have HTg := Lib.hid (srt_le HS.out (gd_le s L k) hlt)
          refine (slow_any (pa L (gd s L k)) (pa L k) s gs _ HG.out HXk.out HTg.out s0 s1 H7.out.1.sb.lt ((H7.out.1.sb.cell 0).trans rfl)).mono ?_
          rintro e X3 ⟨rfl, g3⟩
          have H8 := Lib.hid (And.intro (H7.out.1.under g3) (H7.out.2.under g3))
          clear g3 H7 p0 p1 p2 g0 g1 g2
          have HRJ : Hid (rj s L k = (!(slw s (pa L (gd s L k)) (pa L k)) && !(slw s (pa L k) (pa L ia)))) := Lib.hid (by
            unfold rj bad
            rw [HK1.out]
            simp [hlt2])
          obtain ⟨z1, hz1⟩ : ∃ z, slw s (pa L (gd s L k)) (pa L k) = z := ⟨_, rfl⟩
          obtain ⟨z2, hz2⟩ : ∃ z, (slw s (pa L k) (pa L ia)) = z := ⟨_, rfl⟩
          rw [hz1] at HRJ ⊢
          try rw [hz2] at HRJ ⊢
          clear hz1 hz2
          cases z1 with
          | true =>
            have HGD := Lib.hid (gd_next (s := s) (L := L) (k := k) (by rw [HRJ.out]; rfl))
            obtain ⟨p0, p1, p2⟩ := row3 H8.out.2
            obtain ⟨g0, g1, g2⟩ := row3 H8.out.1.gb
            have f0 := H8.out.1.gb.thaw 0
            have f1 := H8.out.1.gb.thaw 1
            have f2 := H8.out.1.gb.thaw 2
            have HN := Lib.hid (ss_next (HRJ.out.trans rfl) HGD.out (H8.out.1.good (pa L k)))
            clear H8 HRJ
            go_wp2_with fail
            go_roundw
            case rel => exact ⟨k + 1, by omega, by go_num, HN⟩
            case measure => simp [intOf]; omega
          | false =>
            cases z2 with
            | true =>
              have HGD := Lib.hid (gd_next (s := s) (L := L) (k := k) (by rw [HRJ.out]; rfl))
              obtain ⟨p0, p1, p2⟩ := row3 H8.out.2
              obtain ⟨g0, g1, g2⟩ := row3 H8.out.1.gb
              have f0 := H8.out.1.gb.thaw 0
              have f1 := H8.out.1.gb.thaw 1
              have f2 := H8.out.1.gb.thaw 2
              have HN := Lib.hid (ss_next (HRJ.out.trans rfl) HGD.out (H8.out.1.good (pa L k)))
              clear H8 HRJ
              go_wp2_with fail
              go_roundw
              case rel => exact ⟨k + 1, by omega, by go_num, HN⟩
              case measure => simp [intOf]; omega
            | false =>
              have HGD := Lib.hid (gd_stay (s := s) (L := L) (k := k) (by rw [HRJ.out]; rfl))
              obtain ⟨m0, m1⟩ := H8.out.1.mks.facts hlt
              have HN := Lib.hid (ss_mark (HRJ.out.trans rfl) HGD.out (H8.out.1.mark hlt))
              clear H8 HRJ
              go_wp2_with fail
              go_roundw
              case rel => exact ⟨k + 1, by omega, by go_num, HN⟩
              case measure => simp [intOf]; omega
        · have ja1 : ¬ (ia : Int) < (L.length : Int) := by omega
          have HD := Lib.hid (show ∀ W : World, Below W.heap.size W W.drew from fun _ => ⟨rfl, rfl, rfl, Nat.le_refl _, fun _ _ => rfl⟩)
          refine wp_region_held_drew (S := fun _ : World => True) (by kernel_rfl) trivial (fun hHeld => ?_)
          have H6 := Lib.hid (And.intro (H5.out.1.under (HD.out Y5)) (H5.out.2.under (HD.out Y5)))
          clear H5
          generalize Y5.drew = X at *
          refine tk 0 (oi := ⟨some 28, _, _, _, _, none⟩) rfl ?_
          try go_frame
          refine tk 1 (oi := ⟨some 29, _, _, _, _, none⟩) rfl ?_
          try go_frame
          refine tk 2 (oi := ⟨some 30, _, _, _, _, none⟩) rfl ?_
          try go_frame
          refine tk 3 (oi := ⟨some 31, _, _, _, _, none⟩) rfl ?_
          try go_frame
          refine tk 4 (oi := ⟨some 32, _, _, _, _, none⟩) rfl ?_
          try go_frame
          refine tk 5 (oi := ⟨some 33, _, _, _, _, none⟩) rfl ?_
          try go_frame
          refine sk 6 (oi := ⟨some 34, _, _, _, _, some _⟩) rfl ?_
          try go_frame
          refine sk 7 (oi := ⟨some 35, _, _, _, _, some _⟩) rfl ?_
          try go_frame
          refine sk 8 (oi := ⟨some 36, _, _, _, _, some _⟩) rfl ?_
          try go_frame
          refine sk 9 (oi := ⟨some 37, _, _, _, _, some _⟩) rfl ?_
          try go_frame
          refine sk 10 (oi := ⟨some 38, _, _, _, _, some _⟩) rfl ?_
          try go_frame
          refine sk 11 (oi := ⟨some 39, _, _, _, _, some _⟩) rfl ?_
          try go_frame
          refine sk 12 (oi := ⟨some 40, _, _, _, _, some _⟩) rfl ?_
          try go_frame
          refine sk 13 (oi := ⟨some 41, _, _, _, _, some _⟩) rfl ?_
          try go_frame
          refine tk 14 (oi := ⟨some 42, _, _, _, _, none⟩) rfl ?_
          try go_frame
          refine tk 15 (oi := ⟨some 10, _, _, _, _, none⟩) rfl ?_
          try go_frame
          refine wpAnyH_done (by kernel_rfl) ?_ _
          obtain ⟨p0, p1, p2⟩ := row3 H6.out.2
          obtain ⟨g0, g1, g2⟩ := row3 H6.out.1.gb
          go_wp2_with fail
          have HG := Lib.hid (HB.out (gd s L k) (by have := gd_le s L k; omega))
          have HXk := Lib.hid (HB.out k hlt)
          have HTg := Lib.hid (srt_le HS.out (gd_le s L k) hlt)
          refine (slow_any (pa L (gd s L k)) (pa L k) s gs _ HG.out HXk.out HTg.out s0 s1 H6.out.1.sb.lt ((H6.out.1.sb.cell 0).trans rfl)).mono ?_
          rintro e X3 ⟨rfl, g3⟩
          have H8 := Lib.hid (And.intro (H6.out.1.under g3) (H6.out.2.under g3))
          clear g3 H6 p0 p1 p2 g0 g1 g2
          have HRJ : Hid (rj s L k = (!(slw s (pa L (gd s L k)) (pa L k)) && !false)) := Lib.hid (by
            unfold rj bad
            rw [HK1.out]
            simp [hlt2])
          obtain ⟨z1, hz1⟩ : ∃ z, slw s (pa L (gd s L k)) (pa L k) = z := ⟨_, rfl⟩
          rw [hz1] at HRJ ⊢
          clear hz1
          cases z1 with
          | true =>
            have HGD := Lib.hid (gd_next (s := s) (L := L) (k := k) (by rw [HRJ.out]; rfl))
            obtain ⟨p0, p1, p2⟩ := row3 H8.out.2
            obtain ⟨g0, g1, g2⟩ := row3 H8.out.1.gb
            have f0 := H8.out.1.gb.thaw 0
            have f1 := H8.out.1.gb.thaw 1
            have f2 := H8.out.1.gb.thaw 2
            have HN := Lib.hid (ss_next (HRJ.out.trans rfl) HGD.out (H8.out.1.good (pa L k)))
            clear H8 HRJ
            go_wp2_with fail
            go_roundw
            case rel => exact ⟨k + 1, by omega, by go_num, HN⟩
            case measure => simp [intOf]; omega
          | false =>
            have HGD := Lib.hid (gd_stay (s := s) (L := L) (k := k) (by rw [HRJ.out]; rfl))
            obtain ⟨m0, m1⟩ := H8.out.1.mks.facts hlt
            have HN := Lib.hid (ss_mark (HRJ.out.trans rfl) HGD.out (H8.out.1.mark hlt))
            clear H8 HRJ
            go_wp2_with fail
            go_roundw
            case rel => exact ⟨k + 1, by omega, by go_num, HN⟩
            case measure => simp [intOf]; omega
      · obtain rfl : k = L.length := by omega
        have k1 : ¬ (L.length : Int) < (L.length : Int) := by omega
        have HF := Lib.hid (H3.out.mks.to (M' := fun j => decide (0 < s) && rj s L j) (fun j hj => by
          have e1 : decide (0 < s) = true := decide_eq_true (by omega)
          have e2 : decide (j < L.length) = true := decide_eq_true hj
          rw [e1, e2]))
        clear H3
        go_wp2_with fail
        go_ret
        exact ⟨gB, rfl, HF.out⟩
end Go.Proofs.YtlakgkoohdfiaaaDoor.Tm
