/- The contract of what the statements draw: a report in which one thing is changed. -/
import Derived.Test.YtlakgkoohdfiaaaDoorQaj
import Derived.Test.YtlakgkoohdfiaaaDoorQaa
namespace Go.Proofs.YtlakgkoohdfiaaaDoor
open Go.RowKit
open El (genH)

section
variable {W w0 w w' : World} {b gr gp : Nat} {k : Int} {nm : ByteArray} {t F A B C : Int} {u : Value} {L : List El.Elt.R}
theorem Rs.under (h : Rs W b w0 gr gp k nm t F A B C u L w) (hb : Below w.heap.size w w') : Rs W b w0 gr gp k nm t F A B C u L w' :=
  ⟨h.gl.under hb, h.res.under hb, h.rep.under hb, h.ne, h.nr, h.np, h.br, h.bp, h.w0W⟩
theorem Rs.put1 (h : Rs W b w0 gr gp k nm t F A B C u L w) (j : Nat) (x : Value) {k' : Int} {nm' : ByteArray} {t' F' A' B' C' : Int} (he : (repC k nm t F A B C u).setIfInBounds j x = repC k' nm' t' F' A' B' C' u) :
    Rs W b w0 gr gp k' nm' t' F' A' B' C' u L (w.setCell ⟨gp, j, none⟩ x) := by
  have hne : some gp ≠ u.ownBlock := El.own_ne h.gl.own h.rep (by decide)
  exact ⟨gl_set h.gl gp j x h.w0W h.np h.bp hne, h.res.far (p := ⟨gp, j, none⟩) (Ne.symm h.ne) _, he ▸ h.rep.put j x, h.ne, h.nr, h.np, h.br, h.bp, h.w0W⟩
theorem Rs.list {u0 : Value} (hg : El.Gl W b w0 L u w) (hres : Row w gr 38 (repC 0 ⟨#[]⟩ 0 0 0 0 0 (.slice none 0 0))) (hrep : Row w gp 38 (repC k nm t F A B C u0)) (ne : gr ≠ gp) (nr : w0.heap.size ≤ gr) (np : w0.heap.size ≤ gp) (br : gr ≠ b) (bp : gp ≠ b) (w0W : W.heap.size ≤ w0.heap.size) :
    Rs W b w0 gr gp k nm t F A B C u L (w.setCell ⟨gp, 7, none⟩ u) :=
  ⟨gl_set hg gp 7 u w0W np bp (El.own_ne hg.own hrep (by decide)), hres.far (p := ⟨gp, 7, none⟩) (Ne.symm ne) _, hrep.put 7 u, ne, nr, np, br, bp, w0W⟩
theorem Rs.elem {g n cap : Nat} (h : Rs W b w0 gr gp k nm t F A B C (.slice (some ⟨g, 0, none⟩) n cap) L w) (hn : n = L.length) (j : Nat) (hj : j < L.length * 2) (x : Int) :
    ∃ N : List El.Elt.R, N.length = L.length ∧ Rs W b w0 gr gp k nm t F A B C (.slice (some ⟨g, 0, none⟩) n cap) N (w.setCell ⟨g, j, none⟩ (.int .i64 x)) := by
  obtain ⟨N, hN, hG⟩ := h.gl.put hn h.w0W j hj x
  have n1 : some gp ≠ some g := El.own_ne h.gl.own h.rep (by decide)
  have n2 : some gr ≠ some g := El.own_ne h.gl.own h.res (by decide)
  exact ⟨N, hN, hG, h.res.far (p := ⟨g, j, none⟩) (fun e => n2 (congrArg some e.symm)) _, h.rep.far (p := ⟨g, j, none⟩) (fun e => n1 (congrArg some e.symm)) _, h.ne, h.nr, h.np, h.br, h.bp, h.w0W⟩
end
/-- What Bent leaves. -/
def Bnt (W : World) (b : Nat) (w : World) (e : Ending) (w' : World) : Prop := ∃ (k : Int) (nm : ByteArray) (t F A B C : Int) (u : Value) (L : List El.Elt.R), nm.size ≤ 40 ∧ L.length ≤ 40 ∧ e = .returned (repV k nm t F A B C u) ∧ El.Gl W b w L u w'
def nmb : List ByteArray := [⟨#[]⟩, ⟨#[65, 76, 80, 72]⟩, ⟨#[97, 108, 112, 104, 97]⟩, ⟨#[65, 76, 80, 72, 65, 49]⟩, ⟨#[65, 76, 32, 80, 72]⟩, ⟨#[65, 76, 80, 72, 65]⟩]
theorem nmb_ok : ∀ x ∈ nmb, x.size ≤ 40 := by decide +kernel
set_option maxRecDepth 100000 in
set_option maxHeartbeats 800000000 in
theorem bent_any (W : World) (b : Nat) (w : World) (k : Int) (nm : ByteArray) (t F A B C : Int) (u : Value) (L : List El.Elt.R) (h : Src W b w) (hu : El.RdIn w u L) (hl : L.length ≤ 11) (hs : nm.size ≤ 40) (hC : 0 ≤ C ∧ C ≤ 1000000) :
    Calls Tryd.prog 17 #[.pointer (some ⟨b, 0, none⟩), repV k nm t F A B C u] w (Bnt W b w) := by
  obtain ⟨i0, hi, hz0, hz1, hz2⟩ := info_parts El.infoReading
  obtain ⟨Au, cu, rfl, -, -, hcl⟩ := id hu
  have HCL := Lib.hid hcl; clear hcl
  have hbl := src_lt h
  have hW := h.below.size
  have b0 := (Below.refl w.heap.size w).alloc (Nat.le_refl _) (.cells (repC k nm t F A B C (.slice Au L.length cu)) 38)
  have r0 := Row.new w (repC k nm t F A B C (.slice Au L.length cu)) 38
  have z1 : (w.alloc (.cells (repC k nm t F A B C (.slice Au L.length cu)) 38)).heap.size = w.heap.size + 1 := by simp
  go_enter Tryd.func17, Tryd.ntmps17
  go_upto_region 1 with fail
  generalize w.alloc (.cells (repC k nm t F A B C (.slice Au L.length cu)) 38) = W1 at *
  have b2 := b0.alloc b0.size (.cells (repC 0 ⟨#[]⟩ 0 0 0 0 0 (.slice none 0 0)) 38)
  have r2 := r0.alloc (.cells (repC 0 ⟨#[]⟩ 0 0 0 0 0 (.slice none 0 0)) 38)
  have q2 := Row.new W1 (repC 0 ⟨#[]⟩ 0 0 0 0 0 (.slice none 0 0)) 38
  generalize W1.alloc (.cells (repC 0 ⟨#[]⟩ 0 0 0 0 0 (.slice none 0 0)) 38) = W2 at *
  try rw [z1] at *
  obtain ⟨gp, hgp⟩ : ∃ g, w.heap.size = g := ⟨_, rfl⟩
  have hne : gp + 1 ≠ gp := by omega
  have hbr : gp + 1 ≠ b := by omega
  have hbp : gp ≠ b := by omega
  have hb2 := Lib.hid b2
  have L0 := Lib.hid (show El.Gl W b w [] (.slice (some ⟨W2.heap.size, 0, none⟩) 0 0) (W2.alloc (.cells #[] 81)) from
    ⟨(h.under b2).under ((Below.refl _ _).alloc (Nat.le_refl _) _), grown_below (b2.alloc b2.size _), own_base (World.ownsRow_lit W2 #[] 0 (Nat.le_refl _) (by decide) rfl) b2.size⟩)
  have R3 := Lib.hid (r2.alloc (.cells #[] 81))
  have Q3 := Lib.hid (q2.alloc (.cells #[] 81))
  have HN := Lib.hid (show Au = none → L.length = 0 from fun e => by
    rcases Nat.eq_zero_or_pos L.length with h0 | h0
    · exact h0
    · obtain ⟨g, off, e2, -⟩ := HCL.out 0 h0
      rw [e] at e2; cases e2)
  have HS := Lib.hid (show ∀ ad, Au = some ad → ∀ (j : Nat) v, (El.rdc L)[j]? = some v → (W2.alloc (.cells #[] 81)).cell? (ad.add j) = some v from fun ad e j v hv => by
    have hj : j < (El.rdc L).length := (List.getElem?_eq_some_iff.1 hv).1
    rw [El.rdc_len] at hj
    obtain ⟨g, off, e2, hg, -⟩ := HCL.out 0 (by omega)
    obtain rfl : ad = ⟨g, off, none⟩ := by rw [e] at e2; exact Option.some.inj e2
    have ca : El.CellsAt w g off L := El.CellsAt.of hg (fun i hi => by
      obtain ⟨g', off', e3, -, a, c⟩ := HCL.out i hi
      rw [e] at e3
      obtain ⟨rfl, rfl⟩ : g = g' ∧ off = off' := by injection e3 with e3; injection e3 with e4 e5; exact ⟨e4, e5⟩
      exact ⟨a, c⟩)
    have cb := (ca.under (b2.alloc b2.size (.cells #[] 81)))
    exact cb.adds j v hv)
  have HLN := Lib.hid (show L.length ≤ 40 by omega)
  rw [hgp] at r2 q2
  have hlt := r2.lt
  obtain ⟨c0, c1, c2, c3, c4, c5, c6, c7⟩ := row8 r2
  have GO := Lib.hid (show ∀ (vn : Value) (X : World), X.ownsRow w.heap.size 81 2 vn L.length (El.rdc L) → (W2.alloc (.cells #[] 81)).grownBy X (some W2.heap.size) → El.Gl W b w L vn X ∧ Row X gp 38 (repC k nm t F A B C (.slice Au L.length cu)) ∧ Row X (gp + 1) 38 (repC 0 ⟨#[]⟩ 0 0 0 0 0 (.slice none 0 0)) from fun vn X hown hgr => by
    have R4 := r2.alloc (.cells #[] 81)
    have Q4 := q2.alloc (.cells #[] 81)
    have n1 := El.own_ne L0.out.own R4 (by decide)
    have n2 := El.own_ne L0.out.own Q4 (by decide)
    refine ⟨?_, R4.grown hgr n1, Q4.grown hgr n2⟩
    have := El.Gl.app L0.out hW (N := L) rfl (show X.ownsRow w.heap.size 81 2 vn (([] : List El.Elt.R).length + L.length) (El.rdc [] ++ El.rdc L) by rw [List.length_nil, Nat.zero_add]; exact hown) hgr
    simpa using this)
  have hwp : w.heap.size ≤ gp := by omega
  have hwr : w.heap.size ≤ gp + 1 := by omega
  clear b0 r0 b2 r2 q2 z1 h hu hbl R3 Q3 hb2
  rw [hgp]
  clear hgp
  go_wp2_with (at_builtin; go_loud (refine El.wpList_append_fresh rfl (.tmp 5) (.tmp 7) 36 rfl w.heap.size 81 i0 _ 2 16 Tryd.underlying36 hi hz0 hz1 hz2 rfl (by decide) W2.heap.size rfl L0.out.own Au L.length cu (El.rdc L) rfl (El.rdc_len L) HN.out HS.out (El.rdc_one L) (by unfold maxLen; omega) (by omega) L0.out.gro.size ?_; intro vn X hown hgr; obtain ⟨GX, RX, QX⟩ := GO.out vn X hown hgr; obtain ⟨Ao, co, rfl, -⟩ := id (El.RdIn.own hown); obtain ⟨-, -, -, -, -, -, -, p7⟩ := row8 RX; have f7 := RX.thaw 7; have IX := Lib.hid (Rs.list GX QX RX hne hwr hwp hbr hbp hW); clear GX RX QX hown hgr))
  refine (n_any W b _ _ IX.out.gl.src (by omega) (by omega)).mono ?_
  rintro e Y1 ⟨x, ⟨x1, x2⟩, rfl, s1, g1⟩
  have J := Lib.hid (IX.out.step s1 g1)
  clear s1 g1 p7 f7 hlt IX L0 HS HN GO HCL c0 c1 c2 c3 c4 c5 c6 c7
  generalize gp + 1 = gr at *
  clear hwp hwr hbr hbp hne
  rcases (by omega : x = 0 ∨ x = 1 ∨ x = 2 ∨ x = 3 ∨ x = 4 ∨ x = 5 ∨ x = 6 ∨ x = 7) with rfl | rfl | rfl | rfl | rfl | rfl | rfl | rfl
  · go_wp2_with fail
    refine (range_any W b _ _ _ J.out.gl.src (by omega) (by omega) (by omega) (by omega)).mono ?_
    rintro e Y2 ⟨y, -, rfl, s2, g2⟩
    have J2 := Lib.hid (J.out.step s2 g2)
    clear s2 g2 J
    obtain ⟨p0, p1, p2, p3, p4, p5, p6, p7⟩ := row8 J2.out.rep
    have fz := J2.out.rep.thaw 0
    have J9 := Lib.hid (J2.out.put1 0 (.int .i64 y) (show _ = repC y nm t F A B C (.slice Ao L.length co) from rfl))
    clear J2
    go_upto_region 19 with fail
    clear p0 p1 p2 p3 p4 p5 p6 p7 fz
    refine forget (Rs W b w gr gp y nm t F A B C (.slice Ao L.length co) L) J9.out ?_
    clear J9
    rintro Z I
    obtain ⟨p0, p1, p2, p3, p4, p5, p6, p7⟩ := row8 I.rep
    have f0 := I.res.thaw 0
    have f1 := I.res.thaw 1
    have f2 := I.res.thaw 2
    have f3 := I.res.thaw 3
    have f4 := I.res.thaw 4
    have f5 := I.res.thaw 5
    have f6 := I.res.thaw 6
    have f7 := I.res.thaw 7
    obtain ⟨q0, q1, q2, q3, q4, q5, q6, q7⟩ := row8 I.res
    have HZ := Lib.hid (I.fin (.int .i64 y) (.string nm) (.int .i64 t) (.int .i64 F) (.int .i64 A) (.int .i64 B) (.int .i64 C) (.slice Ao L.length co))
    clear I
    go_wp2_with fail
    clear f0 f1 f2 f3 f4 f5 f6 f7 q0 q1 q2 q3 q4 q5 q6 q7 p0 p1 p2 p3 p4 p5 p6 p7
    exact bodyPost_ret (v := repV y nm t F A B C (.slice Ao L.length co)) (results_cell_row Tryd.results17 _ _ gr 38 _ (0, 0) _ rfl HZ.out.2 Tryd.underlying38 rfl (by kernel_rfl)) rfl ⟨y, nm, t, F, A, B, C, _, L, hs, HLN.out, rfl, HZ.out.1⟩
  · have JB := (Below.refl Y1.heap.size Y1).alloc (Nat.le_refl _) (.cells (nmb.map Value.string).toArray 9)
    have rr := Row.new Y1 (nmb.map Value.string).toArray 9
    have JNE : Y1.heap.size ≠ b := Nat.ne_of_gt (src_lt J.out.gl.src)
    simp only [nmb, List.map_cons, List.map_nil] at JB rr
    obtain ⟨d0, d1, d2, d3, d4, d5⟩ := row6 rr
    have JLT := rr.lt
    go_wp2_with fail
    refine (text_any (fun x => x.size ≤ 40) W b _ _ _ _ (J.out.gl.src.under JB) (by omega) (by omega) JNE JLT (fun i hi => by
      rcases (by omega : i = 0 ∨ i = 1 ∨ i = 2 ∨ i = 3 ∨ i = 4 ∨ i = 5) with rfl | rfl | rfl | rfl | rfl | rfl
      · exact ⟨_, d0, by decide⟩
      · exact ⟨_, d1, by decide⟩
      · exact ⟨_, d2, by decide⟩
      · exact ⟨_, d3, by decide⟩
      · exact ⟨_, d4, by decide⟩
      · exact ⟨_, d5, by decide⟩)).mono ?_
    rintro e Y2 ⟨y, hy, rfl, s2, g2⟩
    have J2 := Lib.hid ((J.out.under JB).step s2 g2)
    clear s2 g2 J
    obtain ⟨p0, p1, p2, p3, p4, p5, p6, p7⟩ := row8 J2.out.rep
    have fz := J2.out.rep.thaw 1
    have J9 := Lib.hid (J2.out.put1 1 (.string y) (show _ = repC k y t F A B C (.slice Ao L.length co) from rfl))
    clear J2
    go_upto_region 19 with fail
    clear p0 p1 p2 p3 p4 p5 p6 p7 fz
    refine forget (Rs W b w gr gp k y t F A B C (.slice Ao L.length co) L) J9.out ?_
    clear J9
    rintro Z I
    obtain ⟨p0, p1, p2, p3, p4, p5, p6, p7⟩ := row8 I.rep
    have f0 := I.res.thaw 0
    have f1 := I.res.thaw 1
    have f2 := I.res.thaw 2
    have f3 := I.res.thaw 3
    have f4 := I.res.thaw 4
    have f5 := I.res.thaw 5
    have f6 := I.res.thaw 6
    have f7 := I.res.thaw 7
    obtain ⟨q0, q1, q2, q3, q4, q5, q6, q7⟩ := row8 I.res
    have HZ := Lib.hid (I.fin (.int .i64 k) (.string y) (.int .i64 t) (.int .i64 F) (.int .i64 A) (.int .i64 B) (.int .i64 C) (.slice Ao L.length co))
    clear I
    go_wp2_with fail
    clear f0 f1 f2 f3 f4 f5 f6 f7 q0 q1 q2 q3 q4 q5 q6 q7 p0 p1 p2 p3 p4 p5 p6 p7
    exact bodyPost_ret (v := repV k y t F A B C (.slice Ao L.length co)) (results_cell_row Tryd.results17 _ _ gr 38 _ (0, 0) _ rfl HZ.out.2 Tryd.underlying38 rfl (by kernel_rfl)) rfl ⟨k, y, t, F, A, B, C, _, L, hy, HLN.out, rfl, HZ.out.1⟩
  · have JB := (Below.refl Y1.heap.size Y1).alloc (Nat.le_refl _) (.cells #[.int .i64 (-1), .int .i64 52596000, .int .i64 0] 3)
    have rr := Row.new Y1 #[.int .i64 (-1), .int .i64 52596000, .int .i64 0] 3
    have JNE : Y1.heap.size ≠ b := Nat.ne_of_gt (src_lt J.out.gl.src)
    obtain ⟨d0, d1, d2⟩ := row3 rr
    have JLT := rr.lt
    go_wp2_with fail
    refine (pick_any (fun _ => True) W b _ _ _ _ (J.out.gl.src.under JB) (by omega) (by omega) JNE JLT (fun i hi => by
      rcases (by omega : i = 0 ∨ i = 1 ∨ i = 2) with rfl | rfl | rfl
      · exact ⟨_, d0, trivial⟩
      · exact ⟨_, d1, trivial⟩
      · exact ⟨_, d2, trivial⟩)).mono ?_
    rintro e Y2 ⟨y, -, rfl, s2, g2⟩
    have J2 := Lib.hid ((J.out.under JB).step s2 g2)
    clear s2 g2 J
    obtain ⟨p0, p1, p2, p3, p4, p5, p6, p7⟩ := row8 J2.out.rep
    have fz := J2.out.rep.thaw 2
    have J9 := Lib.hid (J2.out.put1 2 (.int .i64 y) (show _ = repC k nm y F A B C (.slice Ao L.length co) from rfl))
    clear J2
    go_upto_region 19 with fail
    clear p0 p1 p2 p3 p4 p5 p6 p7 fz
    refine forget (Rs W b w gr gp k nm y F A B C (.slice Ao L.length co) L) J9.out ?_
    clear J9
    rintro Z I
    obtain ⟨p0, p1, p2, p3, p4, p5, p6, p7⟩ := row8 I.rep
    have f0 := I.res.thaw 0
    have f1 := I.res.thaw 1
    have f2 := I.res.thaw 2
    have f3 := I.res.thaw 3
    have f4 := I.res.thaw 4
    have f5 := I.res.thaw 5
    have f6 := I.res.thaw 6
    have f7 := I.res.thaw 7
    obtain ⟨q0, q1, q2, q3, q4, q5, q6, q7⟩ := row8 I.res
    have HZ := Lib.hid (I.fin (.int .i64 k) (.string nm) (.int .i64 y) (.int .i64 F) (.int .i64 A) (.int .i64 B) (.int .i64 C) (.slice Ao L.length co))
    clear I
    go_wp2_with fail
    clear f0 f1 f2 f3 f4 f5 f6 f7 q0 q1 q2 q3 q4 q5 q6 q7 p0 p1 p2 p3 p4 p5 p6 p7
    exact bodyPost_ret (v := repV k nm y F A B C (.slice Ao L.length co)) (results_cell_row Tryd.results17 _ _ gr 38 _ (0, 0) _ rfl HZ.out.2 Tryd.underlying38 rfl (by kernel_rfl)) rfl ⟨k, nm, y, F, A, B, C, _, L, hs, HLN.out, rfl, HZ.out.1⟩
  · go_wp2_with fail
    refine (place_any W b _ J.out.gl.src).mono ?_
    rintro e Y2 ⟨F', A', B', C', -, rfl, s2, g2⟩
    have J2 := Lib.hid (J.out.step s2 g2)
    clear s2 g2 J
    obtain ⟨p0, p1, p2, p3, p4, p5, p6, p7⟩ := row8 J2.out.rep
    have e3 := J2.out.rep.thaw 3
    have e4 := J2.out.rep.thaw 4
    have e5 := J2.out.rep.thaw 5
    have e6 := J2.out.rep.thaw 6
    have J9 := Lib.hid (J2.out.put F' A' B' C')
    clear J2
    go_upto_region 19 with fail
    clear p0 p1 p2 p3 p4 p5 p6 p7 e3 e4 e5 e6
    refine forget (Rs W b w gr gp k nm t F' A' B' C' (.slice Ao L.length co) L) J9.out ?_
    clear J9
    rintro Z I
    obtain ⟨p0, p1, p2, p3, p4, p5, p6, p7⟩ := row8 I.rep
    have f0 := I.res.thaw 0
    have f1 := I.res.thaw 1
    have f2 := I.res.thaw 2
    have f3 := I.res.thaw 3
    have f4 := I.res.thaw 4
    have f5 := I.res.thaw 5
    have f6 := I.res.thaw 6
    have f7 := I.res.thaw 7
    obtain ⟨q0, q1, q2, q3, q4, q5, q6, q7⟩ := row8 I.res
    have HZ := Lib.hid (I.fin (.int .i64 k) (.string nm) (.int .i64 t) (.int .i64 F') (.int .i64 A') (.int .i64 B') (.int .i64 C') (.slice Ao L.length co))
    clear I
    go_wp2_with fail
    clear f0 f1 f2 f3 f4 f5 f6 f7 q0 q1 q2 q3 q4 q5 q6 q7 p0 p1 p2 p3 p4 p5 p6 p7
    exact bodyPost_ret (v := repV k nm t F' A' B' C' (.slice Ao L.length co)) (results_cell_row Tryd.results17 _ _ gr 38 _ (0, 0) _ rfl HZ.out.2 Tryd.underlying38 rfl (by kernel_rfl)) rfl ⟨k, nm, t, F', A', B', C', _, L, hs, HLN.out, rfl, HZ.out.1⟩
  · go_wp2_with fail
    refine (range_any W b _ _ _ J.out.gl.src (by omega) (by omega) (by omega) (by omega)).mono ?_
    rintro e Y2 ⟨F', -, rfl, s2, g2⟩
    have J2 := Lib.hid (J.out.step s2 g2)
    clear s2 g2 J
    go_wp2_with fail
    refine (n_any W b _ _ J2.out.gl.src (by omega) (by omega)).mono ?_
    rintro e Y3 ⟨A', -, rfl, s2, g2⟩
    have J3 := Lib.hid (J2.out.step s2 g2)
    clear s2 g2 J2
    go_wp2_with fail
    refine (n_any W b _ _ J3.out.gl.src (by omega) (by omega)).mono ?_
    rintro e Y4 ⟨B', -, rfl, s2, g2⟩
    have J2 := Lib.hid (J3.out.step s2 g2)
    clear s2 g2 J3
    obtain ⟨p0, p1, p2, p3, p4, p5, p6, p7⟩ := row8 J2.out.rep
    have e3 := J2.out.rep.thaw 3
    have e4 := J2.out.rep.thaw 4
    have e5 := J2.out.rep.thaw 5
    have e6 := J2.out.rep.thaw 6
    have J9 := Lib.hid (J2.out.put F' A' B' 0)
    clear J2
    go_upto_region 19 with fail
    clear p0 p1 p2 p3 p4 p5 p6 p7 e3 e4 e5 e6
    refine forget (Rs W b w gr gp k nm t F' A' B' 0 (.slice Ao L.length co) L) J9.out ?_
    clear J9
    rintro Z I
    obtain ⟨p0, p1, p2, p3, p4, p5, p6, p7⟩ := row8 I.rep
    have f0 := I.res.thaw 0
    have f1 := I.res.thaw 1
    have f2 := I.res.thaw 2
    have f3 := I.res.thaw 3
    have f4 := I.res.thaw 4
    have f5 := I.res.thaw 5
    have f6 := I.res.thaw 6
    have f7 := I.res.thaw 7
    obtain ⟨q0, q1, q2, q3, q4, q5, q6, q7⟩ := row8 I.res
    have HZ := Lib.hid (I.fin (.int .i64 k) (.string nm) (.int .i64 t) (.int .i64 F') (.int .i64 A') (.int .i64 B') (.int .i64 0) (.slice Ao L.length co))
    clear I
    go_wp2_with fail
    clear f0 f1 f2 f3 f4 f5 f6 f7 q0 q1 q2 q3 q4 q5 q6 q7 p0 p1 p2 p3 p4 p5 p6 p7
    exact bodyPost_ret (v := repV k nm t F' A' B' 0 (.slice Ao L.length co)) (results_cell_row Tryd.results17 _ _ gr 38 _ (0, 0) _ rfl HZ.out.2 Tryd.underlying38 rfl (by kernel_rfl)) rfl ⟨k, nm, t, F', A', B', 0, _, L, hs, HLN.out, rfl, HZ.out.1⟩
  · go_upto_region 15 with fail
    refine wp_region_held_drew (S := fun _ : World => True) (by kernel_rfl) trivial (fun hHeld => ?_)
    refine tk 0 (oi := ⟨some 52, _, _, _, _, none⟩) rfl ?_
    try go_frame
    refine tk 2 (oi := ⟨some 54, _, _, _, _, none⟩) rfl ?_
    try go_frame
    refine tk 4 (oi := ⟨some 56, _, _, _, _, none⟩) rfl ?_
    try go_frame
    have J1 := Lib.hid (J.out.under (show Below Y1.heap.size Y1 Y1.drew from ⟨rfl, rfl, rfl, Nat.le_refl _, fun _ _ => rfl⟩))
    clear J
    refine genH (fun X => Rs W b w gr gp k nm t F A B C (.slice Ao L.length co) L X) J1.out ?_
    clear J1
    intro X I
    have I := Lib.hid I
    refine wpAnyH_ready (rs := [1, 3]) (by kernel_rfl) (by simp) ?_
    refine AllReadyH.cons (o := ⟨some 53, _, _, _, _, none⟩) rfl (fun K hK => ?_) (AllReadyH.cons (o := ⟨some 55, _, _, _, _, none⟩) rfl (fun K hK => ?_) AllReadyH.nil)
    · obtain ⟨-, -, -, -, -, -, -, p7⟩ := row8 I.out.rep
      go_simp
      refine hK.out _ _ trivial (fun _ => ?_)
      clear hK K p7
      try simp only [Act.put, List.setIfInBounds_toArray, List.set_cons_zero, List.set_cons_succ]
      refine wpAnyH_ready (rs := [3]) (by kernel_rfl) (by simp) ?_
      refine AllReadyH.cons (o := ⟨some 55, _, _, _, _, none⟩) rfl (fun K hK => ?_) AllReadyH.nil
      go_simp
      refine (range_any W b _ _ _ I.out.gl.src (by omega) (by omega) (by omega) (by omega)).mono ?_
      rintro e X1 ⟨xr, -, rfl, s1, g1⟩
      have J1 := Lib.hid (I.out.step s1 g1)
      clear s1 g1 I
      go_wp2_with fail
      refine hK.out _ _ trivial (fun _ => ?_)
      clear hK K
      try simp only [Act.put, List.setIfInBounds_toArray, List.set_cons_zero, List.set_cons_succ]
      refine genH (fun X => Rs W b w gr gp k nm t F A B C (.slice Ao L.length co) L X) J1.out ?_
      clear J1
      intro X I
      have I := Lib.hid I
      refine wpAnyH_ready (rs := [5]) (by kernel_rfl) (by simp) ?_
      refine AllReadyH.cons (o := ⟨some 57, _, _, _, _, none⟩) rfl (fun K hK => ?_) AllReadyH.nil
      go_simp
      refine (n_any W b _ _ I.out.gl.src (by omega) (by omega)).mono ?_
      rintro e X1 ⟨yr, -, rfl, s1, g1⟩
      have J1 := Lib.hid (I.out.step s1 g1)
      clear s1 g1 I
      go_wp2_with fail
      refine hK.out _ _ trivial (fun _ => ?_)
      clear hK K
      try simp only [Act.put, List.setIfInBounds_toArray, List.set_cons_zero, List.set_cons_succ]
      refine genH (fun X => Rs W b w gr gp k nm t F A B C (.slice Ao L.length co) L X) J1.out ?_
      clear J1
      intro X I
      have I := Lib.hid I
      refine tk 6 (oi := ⟨some 58, _, _, _, _, none⟩) rfl ?_
      try go_frame
      refine wpAnyH_ready (rs := [7]) (by kernel_rfl) (by simp) ?_
      refine AllReadyH.cons (o := ⟨some 59, _, _, _, _, none⟩) rfl (fun K hK => ?_) AllReadyH.nil
      have J1 := Lib.hid (I.out.under ((Below.refl X.heap.size X).alloc (Nat.le_refl _) (.cells #[.int .i64 xr, .int .i64 yr] 81)))
      have NB := Lib.hid (El.CellsAt.new X (xr, yr))
      go_simp
      refine hK.out _ _ trivial (fun _ => ?_)
      clear hK K
      try simp only [Act.put, List.setIfInBounds_toArray, List.set_cons_zero, List.set_cons_succ]
      refine genH (fun Z => Rs W b w gr gp k nm t F A B C (.slice Ao L.length co) L Z ∧ El.CellsAt Z X.heap.size 0 [(xr, yr)]) ⟨J1.out, NB.out⟩ ?_
      clear J1 NB I
      generalize X.heap.size = gn at *
      rintro X ⟨I, NB⟩
      have I := Lib.hid I
      have NB := Lib.hid NB
      refine wpAnyH_ready (rs := [8]) (by kernel_rfl) (by simp) ?_
      refine AllReadyH.cons (o := ⟨some 60, _, _, _, _, none⟩) rfl (fun K hK => ?_) AllReadyH.nil
      refine El.step_append_own rfl (.tmp 53) (.tmp 59) 36 rfl w.heap.size 81 i0 _ 2 16 Tryd.underlying36 hi hz0 hz1 hz2 rfl (by decide) _ L.length (El.rdc L) rfl I.out.gl.own ⟨gn, 0, none⟩ 1 1 (El.rdc [(xr, yr)]) rfl rfl NB.out.adds (El.rdc_one _) (by unfold maxLen; omega) (by omega) I.out.gl.gro.size ?_
      intro vn X3 hown hgr
      have hne := El.own_ne I.out.gl.own I.out.rep (by decide)
      have hnr := El.own_ne I.out.gl.own I.out.res (by decide)
      have G3 := I.out.gl.app I.out.w0W (N := [(xr, yr)]) rfl hown hgr
      have R3 := I.out.rep.grown hgr hne
      have Q3 := I.out.res.grown hgr hnr
      have hl3 : (L ++ [(xr, yr)]).length ≤ 40 := by rw [List.length_append]; simp; omega
      obtain ⟨A3, c3, rfl, -⟩ := id (El.RdIn.own G3.own)
      generalize L ++ [(xr, yr)] = L3 at *
      have HL3 := Lib.hid hl3
      have p7 := (row8 R3).2.2.2.2.2.2.2
      have f7 := R3.thaw 7
      have J1 := Lib.hid (Rs.list G3 Q3 R3 I.out.ne I.out.nr I.out.np I.out.br I.out.bp I.out.w0W)
      clear hne hnr G3 R3 Q3 hl3 hown hgr I NB
      refine hK.out _ _ trivial (fun _ => ?_)
      clear hK K
      try simp only [Act.put, List.setIfInBounds_toArray, List.set_cons_zero, List.set_cons_succ]
      refine tk 9 (oi := ⟨some 61, _, _, _, _, none⟩) rfl ?_
      try go_frame
      refine wpAnyH_ready (rs := [10]) (by kernel_rfl) (by simp) ?_
      refine AllReadyH.cons (o := ⟨none, _, _, _, _, none⟩) rfl (fun K hK => ?_) AllReadyH.nil
      go_simp
      refine hK.out _ _ trivial (fun _ => ?_)
      clear hK K p7 f7
      try simp only [Act.put, List.setIfInBounds_toArray, List.set_cons_zero, List.set_cons_succ]
      refine genH (fun X => Rs W b w gr gp k nm t F A B C (.slice A3 L3.length c3) L3 X) (J1.out.under ⟨rfl, rfl, rfl, Nat.le_refl _, fun _ _ => rfl⟩) ?_
      clear J1
      intro X J9
      have J9 := Lib.hid J9
      refine wpAnyH_done (by kernel_rfl) ?_ _
      go_upto_region 19 with fail
      refine forget (Rs W b w gr gp k nm t F A B C (.slice A3 L3.length c3) L3) J9.out ?_
      clear J9
      rintro Z I
      obtain ⟨p0, p1, p2, p3, p4, p5, p6, p7⟩ := row8 I.rep
      have f0 := I.res.thaw 0
      have f1 := I.res.thaw 1
      have f2 := I.res.thaw 2
      have f3 := I.res.thaw 3
      have f4 := I.res.thaw 4
      have f5 := I.res.thaw 5
      have f6 := I.res.thaw 6
      have f7 := I.res.thaw 7
      obtain ⟨q0, q1, q2, q3, q4, q5, q6, q7⟩ := row8 I.res
      have HZ := Lib.hid (I.fin (.int .i64 k) (.string nm) (.int .i64 t) (.int .i64 F) (.int .i64 A) (.int .i64 B) (.int .i64 C) (.slice A3 L3.length c3))
      clear I
      go_wp2_with fail
      clear f0 f1 f2 f3 f4 f5 f6 f7 q0 q1 q2 q3 q4 q5 q6 q7 p0 p1 p2 p3 p4 p5 p6 p7
      exact bodyPost_ret (v := repV k nm t F A B C (.slice A3 L3.length c3)) (results_cell_row Tryd.results17 _ _ gr 38 _ (0, 0) _ rfl HZ.out.2 Tryd.underlying38 rfl (by kernel_rfl)) rfl ⟨k, nm, t, F, A, B, C, _, L3, hs, HL3.out, rfl, HZ.out.1⟩
    · go_simp
      refine (range_any W b _ _ _ I.out.gl.src (by omega) (by omega) (by omega) (by omega)).mono ?_
      rintro e X1 ⟨xr, -, rfl, s1, g1⟩
      have J1 := Lib.hid (I.out.step s1 g1)
      clear s1 g1 I
      go_wp2_with fail
      refine hK.out _ _ trivial (fun _ => ?_)
      clear hK K
      try simp only [Act.put, List.setIfInBounds_toArray, List.set_cons_zero, List.set_cons_succ]
      refine genH (fun X => Rs W b w gr gp k nm t F A B C (.slice Ao L.length co) L X) J1.out ?_
      clear J1
      intro X I
      have I := Lib.hid I
      refine wpAnyH_ready (rs := [1, 5]) (by kernel_rfl) (by simp) ?_
      refine AllReadyH.cons (o := ⟨some 53, _, _, _, _, none⟩) rfl (fun K hK => ?_) (AllReadyH.cons (o := ⟨some 57, _, _, _, _, none⟩) rfl (fun K hK => ?_) AllReadyH.nil)
      · obtain ⟨-, -, -, -, -, -, -, p7⟩ := row8 I.out.rep
        go_simp
        refine hK.out _ _ trivial (fun _ => ?_)
        clear hK K p7
        try simp only [Act.put, List.setIfInBounds_toArray, List.set_cons_zero, List.set_cons_succ]
        refine wpAnyH_ready (rs := [5]) (by kernel_rfl) (by simp) ?_
        refine AllReadyH.cons (o := ⟨some 57, _, _, _, _, none⟩) rfl (fun K hK => ?_) AllReadyH.nil
        go_simp
        refine (n_any W b _ _ I.out.gl.src (by omega) (by omega)).mono ?_
        rintro e X1 ⟨yr, -, rfl, s1, g1⟩
        have J1 := Lib.hid (I.out.step s1 g1)
        clear s1 g1 I
        go_wp2_with fail
        refine hK.out _ _ trivial (fun _ => ?_)
        clear hK K
        try simp only [Act.put, List.setIfInBounds_toArray, List.set_cons_zero, List.set_cons_succ]
        refine genH (fun X => Rs W b w gr gp k nm t F A B C (.slice Ao L.length co) L X) J1.out ?_
        clear J1
        intro X I
        have I := Lib.hid I
        refine tk 6 (oi := ⟨some 58, _, _, _, _, none⟩) rfl ?_
        try go_frame
        refine wpAnyH_ready (rs := [7]) (by kernel_rfl) (by simp) ?_
        refine AllReadyH.cons (o := ⟨some 59, _, _, _, _, none⟩) rfl (fun K hK => ?_) AllReadyH.nil
        have J1 := Lib.hid (I.out.under ((Below.refl X.heap.size X).alloc (Nat.le_refl _) (.cells #[.int .i64 xr, .int .i64 yr] 81)))
        have NB := Lib.hid (El.CellsAt.new X (xr, yr))
        go_simp
        refine hK.out _ _ trivial (fun _ => ?_)
        clear hK K
        try simp only [Act.put, List.setIfInBounds_toArray, List.set_cons_zero, List.set_cons_succ]
        refine genH (fun Z => Rs W b w gr gp k nm t F A B C (.slice Ao L.length co) L Z ∧ El.CellsAt Z X.heap.size 0 [(xr, yr)]) ⟨J1.out, NB.out⟩ ?_
        clear J1 NB I
        generalize X.heap.size = gn at *
        rintro X ⟨I, NB⟩
        have I := Lib.hid I
        have NB := Lib.hid NB
        refine wpAnyH_ready (rs := [8]) (by kernel_rfl) (by simp) ?_
        refine AllReadyH.cons (o := ⟨some 60, _, _, _, _, none⟩) rfl (fun K hK => ?_) AllReadyH.nil
        refine El.step_append_own rfl (.tmp 53) (.tmp 59) 36 rfl w.heap.size 81 i0 _ 2 16 Tryd.underlying36 hi hz0 hz1 hz2 rfl (by decide) _ L.length (El.rdc L) rfl I.out.gl.own ⟨gn, 0, none⟩ 1 1 (El.rdc [(xr, yr)]) rfl rfl NB.out.adds (El.rdc_one _) (by unfold maxLen; omega) (by omega) I.out.gl.gro.size ?_
        intro vn X3 hown hgr
        have hne := El.own_ne I.out.gl.own I.out.rep (by decide)
        have hnr := El.own_ne I.out.gl.own I.out.res (by decide)
        have G3 := I.out.gl.app I.out.w0W (N := [(xr, yr)]) rfl hown hgr
        have R3 := I.out.rep.grown hgr hne
        have Q3 := I.out.res.grown hgr hnr
        have hl3 : (L ++ [(xr, yr)]).length ≤ 40 := by rw [List.length_append]; simp; omega
        obtain ⟨A3, c3, rfl, -⟩ := id (El.RdIn.own G3.own)
        generalize L ++ [(xr, yr)] = L3 at *
        have HL3 := Lib.hid hl3
        have p7 := (row8 R3).2.2.2.2.2.2.2
        have f7 := R3.thaw 7
        have J1 := Lib.hid (Rs.list G3 Q3 R3 I.out.ne I.out.nr I.out.np I.out.br I.out.bp I.out.w0W)
        clear hne hnr G3 R3 Q3 hl3 hown hgr I NB
        refine hK.out _ _ trivial (fun _ => ?_)
        clear hK K
        try simp only [Act.put, List.setIfInBounds_toArray, List.set_cons_zero, List.set_cons_succ]
        refine tk 9 (oi := ⟨some 61, _, _, _, _, none⟩) rfl ?_
        try go_frame
        refine wpAnyH_ready (rs := [10]) (by kernel_rfl) (by simp) ?_
        refine AllReadyH.cons (o := ⟨none, _, _, _, _, none⟩) rfl (fun K hK => ?_) AllReadyH.nil
        go_simp
        refine hK.out _ _ trivial (fun _ => ?_)
        clear hK K p7 f7
        try simp only [Act.put, List.setIfInBounds_toArray, List.set_cons_zero, List.set_cons_succ]
        refine genH (fun X => Rs W b w gr gp k nm t F A B C (.slice A3 L3.length c3) L3 X) (J1.out.under ⟨rfl, rfl, rfl, Nat.le_refl _, fun _ _ => rfl⟩) ?_
        clear J1
        intro X J9
        have J9 := Lib.hid J9
        refine wpAnyH_done (by kernel_rfl) ?_ _
        go_upto_region 19 with fail
        refine forget (Rs W b w gr gp k nm t F A B C (.slice A3 L3.length c3) L3) J9.out ?_
        clear J9
        rintro Z I
        obtain ⟨p0, p1, p2, p3, p4, p5, p6, p7⟩ := row8 I.rep
        have f0 := I.res.thaw 0
        have f1 := I.res.thaw 1
        have f2 := I.res.thaw 2
        have f3 := I.res.thaw 3
        have f4 := I.res.thaw 4
        have f5 := I.res.thaw 5
        have f6 := I.res.thaw 6
        have f7 := I.res.thaw 7
        obtain ⟨q0, q1, q2, q3, q4, q5, q6, q7⟩ := row8 I.res
        have HZ := Lib.hid (I.fin (.int .i64 k) (.string nm) (.int .i64 t) (.int .i64 F) (.int .i64 A) (.int .i64 B) (.int .i64 C) (.slice A3 L3.length c3))
        clear I
        go_wp2_with fail
        clear f0 f1 f2 f3 f4 f5 f6 f7 q0 q1 q2 q3 q4 q5 q6 q7 p0 p1 p2 p3 p4 p5 p6 p7
        exact bodyPost_ret (v := repV k nm t F A B C (.slice A3 L3.length c3)) (results_cell_row Tryd.results17 _ _ gr 38 _ (0, 0) _ rfl HZ.out.2 Tryd.underlying38 rfl (by kernel_rfl)) rfl ⟨k, nm, t, F, A, B, C, _, L3, hs, HL3.out, rfl, HZ.out.1⟩
      · go_simp
        refine (n_any W b _ _ I.out.gl.src (by omega) (by omega)).mono ?_
        rintro e X1 ⟨yr, -, rfl, s1, g1⟩
        have J1 := Lib.hid (I.out.step s1 g1)
        clear s1 g1 I
        go_wp2_with fail
        refine hK.out _ _ trivial (fun _ => ?_)
        clear hK K
        try simp only [Act.put, List.setIfInBounds_toArray, List.set_cons_zero, List.set_cons_succ]
        refine genH (fun X => Rs W b w gr gp k nm t F A B C (.slice Ao L.length co) L X) J1.out ?_
        clear J1
        intro X I
        have I := Lib.hid I
        refine tk 6 (oi := ⟨some 58, _, _, _, _, none⟩) rfl ?_
        try go_frame
        refine wpAnyH_ready (rs := [1, 7]) (by kernel_rfl) (by simp) ?_
        refine AllReadyH.cons (o := ⟨some 53, _, _, _, _, none⟩) rfl (fun K hK => ?_) (AllReadyH.cons (o := ⟨some 59, _, _, _, _, none⟩) rfl (fun K hK => ?_) AllReadyH.nil)
        · obtain ⟨-, -, -, -, -, -, -, p7⟩ := row8 I.out.rep
          go_simp
          refine hK.out _ _ trivial (fun _ => ?_)
          clear hK K p7
          try simp only [Act.put, List.setIfInBounds_toArray, List.set_cons_zero, List.set_cons_succ]
          refine wpAnyH_ready (rs := [7]) (by kernel_rfl) (by simp) ?_
          refine AllReadyH.cons (o := ⟨some 59, _, _, _, _, none⟩) rfl (fun K hK => ?_) AllReadyH.nil
          have J1 := Lib.hid (I.out.under ((Below.refl X.heap.size X).alloc (Nat.le_refl _) (.cells #[.int .i64 xr, .int .i64 yr] 81)))
          have NB := Lib.hid (El.CellsAt.new X (xr, yr))
          go_simp
          refine hK.out _ _ trivial (fun _ => ?_)
          clear hK K
          try simp only [Act.put, List.setIfInBounds_toArray, List.set_cons_zero, List.set_cons_succ]
          refine genH (fun Z => Rs W b w gr gp k nm t F A B C (.slice Ao L.length co) L Z ∧ El.CellsAt Z X.heap.size 0 [(xr, yr)]) ⟨J1.out, NB.out⟩ ?_
          clear J1 NB I
          generalize X.heap.size = gn at *
          rintro X ⟨I, NB⟩
          have I := Lib.hid I
          have NB := Lib.hid NB
          refine wpAnyH_ready (rs := [8]) (by kernel_rfl) (by simp) ?_
          refine AllReadyH.cons (o := ⟨some 60, _, _, _, _, none⟩) rfl (fun K hK => ?_) AllReadyH.nil
          refine El.step_append_own rfl (.tmp 53) (.tmp 59) 36 rfl w.heap.size 81 i0 _ 2 16 Tryd.underlying36 hi hz0 hz1 hz2 rfl (by decide) _ L.length (El.rdc L) rfl I.out.gl.own ⟨gn, 0, none⟩ 1 1 (El.rdc [(xr, yr)]) rfl rfl NB.out.adds (El.rdc_one _) (by unfold maxLen; omega) (by omega) I.out.gl.gro.size ?_
          intro vn X3 hown hgr
          have hne := El.own_ne I.out.gl.own I.out.rep (by decide)
          have hnr := El.own_ne I.out.gl.own I.out.res (by decide)
          have G3 := I.out.gl.app I.out.w0W (N := [(xr, yr)]) rfl hown hgr
          have R3 := I.out.rep.grown hgr hne
          have Q3 := I.out.res.grown hgr hnr
          have hl3 : (L ++ [(xr, yr)]).length ≤ 40 := by rw [List.length_append]; simp; omega
          obtain ⟨A3, c3, rfl, -⟩ := id (El.RdIn.own G3.own)
          generalize L ++ [(xr, yr)] = L3 at *
          have HL3 := Lib.hid hl3
          have p7 := (row8 R3).2.2.2.2.2.2.2
          have f7 := R3.thaw 7
          have J1 := Lib.hid (Rs.list G3 Q3 R3 I.out.ne I.out.nr I.out.np I.out.br I.out.bp I.out.w0W)
          clear hne hnr G3 R3 Q3 hl3 hown hgr I NB
          refine hK.out _ _ trivial (fun _ => ?_)
          clear hK K
          try simp only [Act.put, List.setIfInBounds_toArray, List.set_cons_zero, List.set_cons_succ]
          refine tk 9 (oi := ⟨some 61, _, _, _, _, none⟩) rfl ?_
          try go_frame
          refine wpAnyH_ready (rs := [10]) (by kernel_rfl) (by simp) ?_
          refine AllReadyH.cons (o := ⟨none, _, _, _, _, none⟩) rfl (fun K hK => ?_) AllReadyH.nil
          go_simp
          refine hK.out _ _ trivial (fun _ => ?_)
          clear hK K p7 f7
          try simp only [Act.put, List.setIfInBounds_toArray, List.set_cons_zero, List.set_cons_succ]
          refine genH (fun X => Rs W b w gr gp k nm t F A B C (.slice A3 L3.length c3) L3 X) (J1.out.under ⟨rfl, rfl, rfl, Nat.le_refl _, fun _ _ => rfl⟩) ?_
          clear J1
          intro X J9
          have J9 := Lib.hid J9
          refine wpAnyH_done (by kernel_rfl) ?_ _
          go_upto_region 19 with fail
          refine forget (Rs W b w gr gp k nm t F A B C (.slice A3 L3.length c3) L3) J9.out ?_
          clear J9
          rintro Z I
          obtain ⟨p0, p1, p2, p3, p4, p5, p6, p7⟩ := row8 I.rep
          have f0 := I.res.thaw 0
          have f1 := I.res.thaw 1
          have f2 := I.res.thaw 2
          have f3 := I.res.thaw 3
          have f4 := I.res.thaw 4
          have f5 := I.res.thaw 5
          have f6 := I.res.thaw 6
          have f7 := I.res.thaw 7
          obtain ⟨q0, q1, q2, q3, q4, q5, q6, q7⟩ := row8 I.res
          have HZ := Lib.hid (I.fin (.int .i64 k) (.string nm) (.int .i64 t) (.int .i64 F) (.int .i64 A) (.int .i64 B) (.int .i64 C) (.slice A3 L3.length c3))
          clear I
          go_wp2_with fail
          clear f0 f1 f2 f3 f4 f5 f6 f7 q0 q1 q2 q3 q4 q5 q6 q7 p0 p1 p2 p3 p4 p5 p6 p7
          exact bodyPost_ret (v := repV k nm t F A B C (.slice A3 L3.length c3)) (results_cell_row Tryd.results17 _ _ gr 38 _ (0, 0) _ rfl HZ.out.2 Tryd.underlying38 rfl (by kernel_rfl)) rfl ⟨k, nm, t, F, A, B, C, _, L3, hs, HL3.out, rfl, HZ.out.1⟩
        · have J1 := Lib.hid (I.out.under ((Below.refl X.heap.size X).alloc (Nat.le_refl _) (.cells #[.int .i64 xr, .int .i64 yr] 81)))
          have NB := Lib.hid (El.CellsAt.new X (xr, yr))
          go_simp
          refine hK.out _ _ trivial (fun _ => ?_)
          clear hK K
          try simp only [Act.put, List.setIfInBounds_toArray, List.set_cons_zero, List.set_cons_succ]
          refine genH (fun Z => Rs W b w gr gp k nm t F A B C (.slice Ao L.length co) L Z ∧ El.CellsAt Z X.heap.size 0 [(xr, yr)]) ⟨J1.out, NB.out⟩ ?_
          clear J1 NB I
          generalize X.heap.size = gn at *
          rintro X ⟨I, NB⟩
          have I := Lib.hid I
          have NB := Lib.hid NB
          refine wpAnyH_ready (rs := [1]) (by kernel_rfl) (by simp) ?_
          refine AllReadyH.cons (o := ⟨some 53, _, _, _, _, none⟩) rfl (fun K hK => ?_) AllReadyH.nil
          obtain ⟨-, -, -, -, -, -, -, p7⟩ := row8 I.out.rep
          go_simp
          refine hK.out _ _ trivial (fun _ => ?_)
          clear hK K p7
          try simp only [Act.put, List.setIfInBounds_toArray, List.set_cons_zero, List.set_cons_succ]
          refine wpAnyH_ready (rs := [8]) (by kernel_rfl) (by simp) ?_
          refine AllReadyH.cons (o := ⟨some 60, _, _, _, _, none⟩) rfl (fun K hK => ?_) AllReadyH.nil
          refine El.step_append_own rfl (.tmp 53) (.tmp 59) 36 rfl w.heap.size 81 i0 _ 2 16 Tryd.underlying36 hi hz0 hz1 hz2 rfl (by decide) _ L.length (El.rdc L) rfl I.out.gl.own ⟨gn, 0, none⟩ 1 1 (El.rdc [(xr, yr)]) rfl rfl NB.out.adds (El.rdc_one _) (by unfold maxLen; omega) (by omega) I.out.gl.gro.size ?_
          intro vn X3 hown hgr
          have hne := El.own_ne I.out.gl.own I.out.rep (by decide)
          have hnr := El.own_ne I.out.gl.own I.out.res (by decide)
          have G3 := I.out.gl.app I.out.w0W (N := [(xr, yr)]) rfl hown hgr
          have R3 := I.out.rep.grown hgr hne
          have Q3 := I.out.res.grown hgr hnr
          have hl3 : (L ++ [(xr, yr)]).length ≤ 40 := by rw [List.length_append]; simp; omega
          obtain ⟨A3, c3, rfl, -⟩ := id (El.RdIn.own G3.own)
          generalize L ++ [(xr, yr)] = L3 at *
          have HL3 := Lib.hid hl3
          have p7 := (row8 R3).2.2.2.2.2.2.2
          have f7 := R3.thaw 7
          have J1 := Lib.hid (Rs.list G3 Q3 R3 I.out.ne I.out.nr I.out.np I.out.br I.out.bp I.out.w0W)
          clear hne hnr G3 R3 Q3 hl3 hown hgr I NB
          refine hK.out _ _ trivial (fun _ => ?_)
          clear hK K
          try simp only [Act.put, List.setIfInBounds_toArray, List.set_cons_zero, List.set_cons_succ]
          refine tk 9 (oi := ⟨some 61, _, _, _, _, none⟩) rfl ?_
          try go_frame
          refine wpAnyH_ready (rs := [10]) (by kernel_rfl) (by simp) ?_
          refine AllReadyH.cons (o := ⟨none, _, _, _, _, none⟩) rfl (fun K hK => ?_) AllReadyH.nil
          go_simp
          refine hK.out _ _ trivial (fun _ => ?_)
          clear hK K p7 f7
          try simp only [Act.put, List.setIfInBounds_toArray, List.set_cons_zero, List.set_cons_succ]
          refine genH (fun X => Rs W b w gr gp k nm t F A B C (.slice A3 L3.length c3) L3 X) (J1.out.under ⟨rfl, rfl, rfl, Nat.le_refl _, fun _ _ => rfl⟩) ?_
          clear J1
          intro X J9
          have J9 := Lib.hid J9
          refine wpAnyH_done (by kernel_rfl) ?_ _
          go_upto_region 19 with fail
          refine forget (Rs W b w gr gp k nm t F A B C (.slice A3 L3.length c3) L3) J9.out ?_
          clear J9
          rintro Z I
          obtain ⟨p0, p1, p2, p3, p4, p5, p6, p7⟩ := row8 I.rep
          have f0 := I.res.thaw 0
          have f1 := I.res.thaw 1
          have f2 := I.res.thaw 2
          have f3 := I.res.thaw 3
          have f4 := I.res.thaw 4
          have f5 := I.res.thaw 5
          have f6 := I.res.thaw 6
          have f7 := I.res.thaw 7
          obtain ⟨q0, q1, q2, q3, q4, q5, q6, q7⟩ := row8 I.res
          have HZ := Lib.hid (I.fin (.int .i64 k) (.string nm) (.int .i64 t) (.int .i64 F) (.int .i64 A) (.int .i64 B) (.int .i64 C) (.slice A3 L3.length c3))
          clear I
          go_wp2_with fail
          clear f0 f1 f2 f3 f4 f5 f6 f7 q0 q1 q2 q3 q4 q5 q6 q7 p0 p1 p2 p3 p4 p5 p6 p7
          exact bodyPost_ret (v := repV k nm t F A B C (.slice A3 L3.length c3)) (results_cell_row Tryd.results17 _ _ gr 38 _ (0, 0) _ rfl HZ.out.2 Tryd.underlying38 rfl (by kernel_rfl)) rfl ⟨k, nm, t, F, A, B, C, _, L3, hs, HL3.out, rfl, HZ.out.1⟩
  · by_cases hL0 : L.length = 0
    · rw [hL0] at J ⊢
      clear hL0
      have HZL := HLN
      obtain ⟨p0, p1, p2, p3, p4, p5, p6, p7⟩ := row8 J.out.rep
      have J9 := Lib.hid J.out
      go_upto_region 19 with fail
      clear p0 p1 p2 p3 p4 p5 p6 p7
      refine forget (Rs W b w gr gp k nm t F A B C (.slice Ao 0 co) L) J9.out ?_
      clear J9
      rintro Z I
      obtain ⟨p0, p1, p2, p3, p4, p5, p6, p7⟩ := row8 I.rep
      have f0 := I.res.thaw 0
      have f1 := I.res.thaw 1
      have f2 := I.res.thaw 2
      have f3 := I.res.thaw 3
      have f4 := I.res.thaw 4
      have f5 := I.res.thaw 5
      have f6 := I.res.thaw 6
      have f7 := I.res.thaw 7
      obtain ⟨q0, q1, q2, q3, q4, q5, q6, q7⟩ := row8 I.res
      have HZ := Lib.hid (I.fin (.int .i64 k) (.string nm) (.int .i64 t) (.int .i64 F) (.int .i64 A) (.int .i64 B) (.int .i64 C) (.slice Ao 0 co))
      clear I
      go_wp2_with fail
      clear f0 f1 f2 f3 f4 f5 f6 f7 q0 q1 q2 q3 q4 q5 q6 q7 p0 p1 p2 p3 p4 p5 p6 p7
      exact bodyPost_ret (v := repV k nm t F A B C (.slice Ao 0 co)) (results_cell_row Tryd.results17 _ _ gr 38 _ (0, 0) _ rfl HZ.out.2 Tryd.underlying38 rfl (by kernel_rfl)) rfl ⟨k, nm, t, F, A, B, C, _, L, hs, HLN.out, rfl, HZ.out.1⟩
    · have q0 : (0 : Int) < (L.length : Int) := by omega
      obtain ⟨g, rfl⟩ : ∃ g, Ao = some ⟨g, 0, none⟩ := by
        rcases J.out.gl.own.2 with ⟨-, h0⟩ | ⟨g, cap, cur, e, -⟩
        · exact absurd h0 hL0
        · injection e with e _ _; exact ⟨g, e⟩
      clear hL0
      obtain ⟨p0, p1, p2, p3, p4, p5, p6, p7⟩ := row8 J.out.rep
      go_upto_region 18 with fail
      refine wp_region_held_drew (S := fun w' : World => w'.cell? ⟨gp, 7, none⟩ = some (.slice (some ⟨g, 0, none⟩) L.length co)) (by kernel_rfl) p7 (fun hHeld => ?_)
      clear p0 p1 p2 p3 p4 p5 p6 p7
      have q1 : (1 : Int) ≤ (L.length : Int) := by omega
      have q2 : (L.length : Int) ≤ 40 := by omega
      refine tk 0 rfl ?_
      try go_frame
      refine tk 1 rfl ?_
      try go_frame
      refine tk 2 (oi := ⟨some 70, _, _, _, _, none⟩) rfl ?_
      try go_frame
      refine tk 3 rfl ?_
      try go_frame
      refine tk 4 rfl ?_
      try go_frame
      refine tk 5 rfl ?_
      try go_frame
      refine tk 7 (oi := ⟨some 75, _, _, _, _, none⟩) rfl ?_
      try go_frame
      have J1 := Lib.hid (J.out.under (show Below Y1.heap.size Y1 Y1.drew from ⟨rfl, rfl, rfl, Nat.le_refl _, fun _ _ => rfl⟩))
      clear J hHeld
      refine genH (fun X => Rs W b w gr gp k nm t F A B C (.slice (some ⟨g, 0, none⟩) L.length co) L X) J1.out ?_
      clear J1
      intro X I
      have I := Lib.hid I
      refine wpAnyH_ready (rs := [6, 8]) (by kernel_rfl) (by simp) ?_
      refine AllReadyH.cons (o := ⟨some 74, _, _, _, _, none⟩) rfl (fun K hK => ?_) (AllReadyH.cons (o := ⟨some 76, _, _, _, _, none⟩) rfl (fun K hK => ?_) AllReadyH.nil)
      · go_simp
        refine (n_any W b _ _ I.out.gl.src (by omega) (by omega)).mono ?_
        rintro e X1 ⟨i, ⟨i1, i2⟩, rfl, s1, g1⟩
        obtain ⟨i, rfl⟩ := Int.eq_ofNat_of_zero_le i1
        have J1 := Lib.hid (I.out.step s1 g1)
        clear s1 g1 I
        go_wp2_with fail
        refine hK.out _ _ (row8 J1.out.rep).2.2.2.2.2.2.2 (fun _ => ?_)
        clear hK K
        try simp only [Act.put, List.setIfInBounds_toArray, List.set_cons_zero, List.set_cons_succ]
        refine genH (fun X => Rs W b w gr gp k nm t F A B C (.slice (some ⟨g, 0, none⟩) L.length co) L X) J1.out ?_
        clear J1
        intro X I
        have I := Lib.hid I
        refine wpAnyH_ready (rs := [8]) (by kernel_rfl) (by simp) ?_
        refine AllReadyH.cons (o := ⟨some 76, _, _, _, _, none⟩) rfl (fun K hK => ?_) AllReadyH.nil
        have J1 := Lib.hid (I.out.under ((Below.refl X.heap.size X).alloc (Nat.le_refl _) (.cells #[.int .i64 (-1001), .int .i64 0, .int .i64 99999] 3)))
        have D1 := Lib.hid (Row.new X #[.int .i64 (-1001), .int .i64 0, .int .i64 99999] 3)
        have dn : X.heap.size ≠ b := Nat.ne_of_gt (src_lt I.out.gl.src)
        go_simp
        refine hK.out _ _ (row8 J1.out.rep).2.2.2.2.2.2.2 (fun _ => ?_)
        clear hK K
        try simp only [Act.put, List.setIfInBounds_toArray, List.set_cons_zero, List.set_cons_succ]
        refine genH (fun Z => Rs W b w gr gp k nm t F A B C (.slice (some ⟨g, 0, none⟩) L.length co) L Z ∧ Row Z X.heap.size 3 #[.int .i64 (-1001), .int .i64 0, .int .i64 99999]) ⟨J1.out, D1.out⟩ ?_
        clear J1 D1 I
        generalize X.heap.size = gq at *
        rintro X ⟨I, D⟩
        have I := Lib.hid I
        have D := Lib.hid D
        refine wpAnyH_ready (rs := [9]) (by kernel_rfl) (by simp) ?_
        refine AllReadyH.cons (o := ⟨some 77, _, _, _, _, none⟩) rfl (fun K hK => ?_) AllReadyH.nil
        obtain ⟨d0, d1, d2⟩ := row3 D.out
        have dl := D.out.lt
        go_simp
        refine (pick_any (fun _ => True) W b _ _ _ _ I.out.gl.src (by omega) (by omega) dn dl (fun i hi => by
          rcases (by omega : i = 0 ∨ i = 1 ∨ i = 2) with rfl | rfl | rfl
          · exact ⟨_, d0, trivial⟩
          · exact ⟨_, d1, trivial⟩
          · exact ⟨_, d2, trivial⟩)).mono ?_
        rintro e X1 ⟨y, -, rfl, s1, g1⟩
        have J1 := Lib.hid (I.out.step s1 g1)
        clear s1 g1 I D d0 d1 d2 dl
        go_wp2_with fail
        refine hK.out _ _ (row8 J1.out.rep).2.2.2.2.2.2.2 (fun _ => ?_)
        clear hK K
        try simp only [Act.put, List.setIfInBounds_toArray, List.set_cons_zero, List.set_cons_succ]
        refine genH (fun X => Rs W b w gr gp k nm t F A B C (.slice (some ⟨g, 0, none⟩) L.length co) L X) J1.out ?_
        clear J1
        intro X I
        have I := Lib.hid I
        have iL : i < L.length := by omega
        have j1 : (i : Int) < (L.length : Int) := by omega
        have hS7 := (row8 I.out.rep).2.2.2.2.2.2.2
        refine tk 10 rfl ?_
        try go_frame
        refine tk 11 rfl ?_
        try go_frame
        refine wpAnyH_ready (rs := [12]) (by kernel_rfl) (by simp) ?_
        refine AllReadyH.cons (o := ⟨none, _, _, _, _, none⟩) rfl (fun K hK => ?_) AllReadyH.nil
        have a1 := (I.out.gl.own.cellAt (i * 2 + 1) (by omega)).trans (El.rdc_at L i iL).2
        have a2 := I.out.gl.own.frozenAt (i * 2 + 1)
        obtain ⟨N, n1, IE⟩ := I.out.elem rfl (i * 2 + 1) (by omega) y
        have J1 := Lib.hid IE
        have HLM := Lib.hid (show N.length ≤ 40 by omega)
        clear IE I
        go_simp
        refine hK.out _ _ (row8 J1.out.rep).2.2.2.2.2.2.2 (fun _ => ?_)
        clear hK K a1 a2
        try simp only [Act.put, List.setIfInBounds_toArray, List.set_cons_zero, List.set_cons_succ]
        refine genH (fun X => Rs W b w gr gp k nm t F A B C (.slice (some ⟨g, 0, none⟩) L.length co) N X) (J1.out.under ⟨rfl, rfl, rfl, Nat.le_refl _, fun _ _ => rfl⟩) ?_
        clear J1
        intro X J9
        have J9 := Lib.hid J9
        refine wpAnyH_done (by kernel_rfl) ?_ _
        go_upto_region 19 with fail
        refine forget (Rs W b w gr gp k nm t F A B C (.slice (some ⟨g, 0, none⟩) L.length co) N) J9.out ?_
        clear J9
        rintro Z I
        obtain ⟨p0, p1, p2, p3, p4, p5, p6, p7⟩ := row8 I.rep
        have f0 := I.res.thaw 0
        have f1 := I.res.thaw 1
        have f2 := I.res.thaw 2
        have f3 := I.res.thaw 3
        have f4 := I.res.thaw 4
        have f5 := I.res.thaw 5
        have f6 := I.res.thaw 6
        have f7 := I.res.thaw 7
        obtain ⟨q0, q1, q2, q3, q4, q5, q6, q7⟩ := row8 I.res
        have HZ := Lib.hid (I.fin (.int .i64 k) (.string nm) (.int .i64 t) (.int .i64 F) (.int .i64 A) (.int .i64 B) (.int .i64 C) (.slice (some ⟨g, 0, none⟩) L.length co))
        clear I
        go_wp2_with fail
        clear f0 f1 f2 f3 f4 f5 f6 f7 q0 q1 q2 q3 q4 q5 q6 q7 p0 p1 p2 p3 p4 p5 p6 p7
        exact bodyPost_ret (v := repV k nm t F A B C (.slice (some ⟨g, 0, none⟩) L.length co)) (results_cell_row Tryd.results17 _ _ gr 38 _ (0, 0) _ rfl HZ.out.2 Tryd.underlying38 rfl (by kernel_rfl)) rfl ⟨k, nm, t, F, A, B, C, _, N, hs, HLM.out, rfl, HZ.out.1⟩
      · have J1 := Lib.hid (I.out.under ((Below.refl X.heap.size X).alloc (Nat.le_refl _) (.cells #[.int .i64 (-1001), .int .i64 0, .int .i64 99999] 3)))
        have D1 := Lib.hid (Row.new X #[.int .i64 (-1001), .int .i64 0, .int .i64 99999] 3)
        have dn : X.heap.size ≠ b := Nat.ne_of_gt (src_lt I.out.gl.src)
        go_simp
        refine hK.out _ _ (row8 J1.out.rep).2.2.2.2.2.2.2 (fun _ => ?_)
        clear hK K
        try simp only [Act.put, List.setIfInBounds_toArray, List.set_cons_zero, List.set_cons_succ]
        refine genH (fun Z => Rs W b w gr gp k nm t F A B C (.slice (some ⟨g, 0, none⟩) L.length co) L Z ∧ Row Z X.heap.size 3 #[.int .i64 (-1001), .int .i64 0, .int .i64 99999]) ⟨J1.out, D1.out⟩ ?_
        clear J1 D1 I
        generalize X.heap.size = gq at *
        rintro X ⟨I, D⟩
        have I := Lib.hid I
        have D := Lib.hid D
        refine wpAnyH_ready (rs := [6]) (by kernel_rfl) (by simp) ?_
        refine AllReadyH.cons (o := ⟨some 74, _, _, _, _, none⟩) rfl (fun K hK => ?_) AllReadyH.nil
        go_simp
        refine (n_any W b _ _ I.out.gl.src (by omega) (by omega)).mono ?_
        rintro e X1 ⟨i, ⟨i1, i2⟩, rfl, s1, g1⟩
        obtain ⟨i, rfl⟩ := Int.eq_ofNat_of_zero_le i1
        have J1 := Lib.hid (I.out.step s1 g1)
        have D1 := Lib.hid (D.out.grown g1 (fun e => dn (by injection e)))
        clear s1 g1 I D
        go_wp2_with fail
        refine hK.out _ _ (row8 J1.out.rep).2.2.2.2.2.2.2 (fun _ => ?_)
        clear hK K
        try simp only [Act.put, List.setIfInBounds_toArray, List.set_cons_zero, List.set_cons_succ]
        refine genH (fun X => Rs W b w gr gp k nm t F A B C (.slice (some ⟨g, 0, none⟩) L.length co) L X ∧ Row X gq 3 #[.int .i64 (-1001), .int .i64 0, .int .i64 99999]) ⟨J1.out, D1.out⟩ ?_
        clear J1 D1
        rintro X ⟨I, D⟩
        have I := Lib.hid I
        have D := Lib.hid D
        refine wpAnyH_ready (rs := [9]) (by kernel_rfl) (by simp) ?_
        refine AllReadyH.cons (o := ⟨some 77, _, _, _, _, none⟩) rfl (fun K hK => ?_) AllReadyH.nil
        obtain ⟨d0, d1, d2⟩ := row3 D.out
        have dl := D.out.lt
        go_simp
        refine (pick_any (fun _ => True) W b _ _ _ _ I.out.gl.src (by omega) (by omega) dn dl (fun i hi => by
          rcases (by omega : i = 0 ∨ i = 1 ∨ i = 2) with rfl | rfl | rfl
          · exact ⟨_, d0, trivial⟩
          · exact ⟨_, d1, trivial⟩
          · exact ⟨_, d2, trivial⟩)).mono ?_
        rintro e X1 ⟨y, -, rfl, s1, g1⟩
        have J1 := Lib.hid (I.out.step s1 g1)
        clear s1 g1 I D d0 d1 d2 dl
        go_wp2_with fail
        refine hK.out _ _ (row8 J1.out.rep).2.2.2.2.2.2.2 (fun _ => ?_)
        clear hK K
        try simp only [Act.put, List.setIfInBounds_toArray, List.set_cons_zero, List.set_cons_succ]
        refine genH (fun X => Rs W b w gr gp k nm t F A B C (.slice (some ⟨g, 0, none⟩) L.length co) L X) J1.out ?_
        clear J1
        intro X I
        have I := Lib.hid I
        have iL : i < L.length := by omega
        have j1 : (i : Int) < (L.length : Int) := by omega
        have hS7 := (row8 I.out.rep).2.2.2.2.2.2.2
        refine tk 10 rfl ?_
        try go_frame
        refine tk 11 rfl ?_
        try go_frame
        refine wpAnyH_ready (rs := [12]) (by kernel_rfl) (by simp) ?_
        refine AllReadyH.cons (o := ⟨none, _, _, _, _, none⟩) rfl (fun K hK => ?_) AllReadyH.nil
        have a1 := (I.out.gl.own.cellAt (i * 2 + 1) (by omega)).trans (El.rdc_at L i iL).2
        have a2 := I.out.gl.own.frozenAt (i * 2 + 1)
        obtain ⟨N, n1, IE⟩ := I.out.elem rfl (i * 2 + 1) (by omega) y
        have J1 := Lib.hid IE
        have HLM := Lib.hid (show N.length ≤ 40 by omega)
        clear IE I
        go_simp
        refine hK.out _ _ (row8 J1.out.rep).2.2.2.2.2.2.2 (fun _ => ?_)
        clear hK K a1 a2
        try simp only [Act.put, List.setIfInBounds_toArray, List.set_cons_zero, List.set_cons_succ]
        refine genH (fun X => Rs W b w gr gp k nm t F A B C (.slice (some ⟨g, 0, none⟩) L.length co) N X) (J1.out.under ⟨rfl, rfl, rfl, Nat.le_refl _, fun _ _ => rfl⟩) ?_
        clear J1
        intro X J9
        have J9 := Lib.hid J9
        refine wpAnyH_done (by kernel_rfl) ?_ _
        go_upto_region 19 with fail
        refine forget (Rs W b w gr gp k nm t F A B C (.slice (some ⟨g, 0, none⟩) L.length co) N) J9.out ?_
        clear J9
        rintro Z I
        obtain ⟨p0, p1, p2, p3, p4, p5, p6, p7⟩ := row8 I.rep
        have f0 := I.res.thaw 0
        have f1 := I.res.thaw 1
        have f2 := I.res.thaw 2
        have f3 := I.res.thaw 3
        have f4 := I.res.thaw 4
        have f5 := I.res.thaw 5
        have f6 := I.res.thaw 6
        have f7 := I.res.thaw 7
        obtain ⟨q0, q1, q2, q3, q4, q5, q6, q7⟩ := row8 I.res
        have HZ := Lib.hid (I.fin (.int .i64 k) (.string nm) (.int .i64 t) (.int .i64 F) (.int .i64 A) (.int .i64 B) (.int .i64 C) (.slice (some ⟨g, 0, none⟩) L.length co))
        clear I
        go_wp2_with fail
        clear f0 f1 f2 f3 f4 f5 f6 f7 q0 q1 q2 q3 q4 q5 q6 q7 p0 p1 p2 p3 p4 p5 p6 p7
        exact bodyPost_ret (v := repV k nm t F A B C (.slice (some ⟨g, 0, none⟩) L.length co)) (results_cell_row Tryd.results17 _ _ gr 38 _ (0, 0) _ rfl HZ.out.2 Tryd.underlying38 rfl (by kernel_rfl)) rfl ⟨k, nm, t, F, A, B, C, _, N, hs, HLM.out, rfl, HZ.out.1⟩
  · obtain ⟨hC1, hC2⟩ := hC
    have hw : IntKind.i64.wrap (C + 1) = C + 1 := IntWalk.i64_in _ (by omega)
    obtain ⟨p0, p1, p2, p3, p4, p5, p6, p7⟩ := row8 J.out.rep
    have fz := J.out.rep.thaw 6
    have J9 := Lib.hid (J.out.put1 6 (.int .i64 (C + 1)) (show _ = repC k nm t F A B (C + 1) (.slice Ao L.length co) from rfl))
    clear J
    go_upto_region 19 with fail
    clear p0 p1 p2 p3 p4 p5 p6 p7 fz
    refine forget (Rs W b w gr gp k nm t F A B (C + 1) (.slice Ao L.length co) L) J9.out ?_
    clear J9
    rintro Z I
    obtain ⟨p0, p1, p2, p3, p4, p5, p6, p7⟩ := row8 I.rep
    have f0 := I.res.thaw 0
    have f1 := I.res.thaw 1
    have f2 := I.res.thaw 2
    have f3 := I.res.thaw 3
    have f4 := I.res.thaw 4
    have f5 := I.res.thaw 5
    have f6 := I.res.thaw 6
    have f7 := I.res.thaw 7
    obtain ⟨q0, q1, q2, q3, q4, q5, q6, q7⟩ := row8 I.res
    have HZ := Lib.hid (I.fin (.int .i64 k) (.string nm) (.int .i64 t) (.int .i64 F) (.int .i64 A) (.int .i64 B) (.int .i64 (C + 1)) (.slice Ao L.length co))
    clear I
    go_wp2_with fail
    clear f0 f1 f2 f3 f4 f5 f6 f7 q0 q1 q2 q3 q4 q5 q6 q7 p0 p1 p2 p3 p4 p5 p6 p7
    exact bodyPost_ret (v := repV k nm t F A B (C + 1) (.slice Ao L.length co)) (results_cell_row Tryd.results17 _ _ gr 38 _ (0, 0) _ rfl HZ.out.2 Tryd.underlying38 rfl (by kernel_rfl)) rfl ⟨k, nm, t, F, A, B, (C + 1), _, L, hs, HLN.out, rfl, HZ.out.1⟩
end Go.Proofs.YtlakgkoohdfiaaaDoor
