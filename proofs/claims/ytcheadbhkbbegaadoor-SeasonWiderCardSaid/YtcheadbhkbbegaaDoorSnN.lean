/- The walk of SeasonNone. -/
import Derived.Test.YtcheadbhkbbegaaDoorQap
import Derived.Test.YtcheadbhkbbegaaDoorQas
namespace Go.Proofs.YtcheadbhkbbegaaDoor
open Go.RowKit

/-- What is known while a law of season draws: the reader, a climate, a report. -/
structure Sn (W : World) (b base : Nat) (N : List Cm.N5) (v : Value) (gc gp bu : Nat) (cs : Array Value) (u : Value) (L : List El.Elt.R) (Y : World) : Prop where
  q : Pq W b base N v gc Y
  rp : Row Y gp 38 cs
  rd : Y.ownsRow bu 60 2 u L.length (El.rdc L)
  hp : b < gp
  hu : b < bu
section
variable {W Y Y' : World} {b base gc gp bu : Nat} {N : List Cm.N5} {v u : Value} {cs : Array Value} {L : List El.Elt.R}
theorem Sn.step (h : Sn W b base N v gc gp bu cs u L Y) (hs : Src W b Y') (hg : Y.grownBy Y' (some b)) : Sn W b base N v gc gp bu cs u L Y' :=
  ⟨h.q.step hs hg, h.rp.grown hg (fun e => by injection e with e; have := h.hp; omega), own_heap h.rd (fun i hi => hg.block i (row_size h.rd hi) (fun e => by injection e with e; have := row_base h.rd hi; have := h.hu; omega)), h.hp, h.hu⟩
theorem Sn.under (h : Sn W b base N v gc gp bu cs u L Y) (hb : Below Y.heap.size Y Y') : Sn W b base N v gc gp bu cs u L Y' := h.step (h.q.src.under hb) (grown_below hb)
theorem Sn.put (h : Sn W b base N v gc gp bu cs u L Y) (j : Nat) (x : Value) : Sn W b base N v gc gp bu (cs.setIfInBounds j x) u L (Y.setCell ⟨gp, j, none⟩ x) := by
  have h1 := h.hp
  have h2 := h.q.src.base
  exact ⟨⟨Pl.src_set h.q.src gp j x (by omega) (by omega), own_heap h.q.own (fun i hi => Below.heap_setCell Y ⟨gp, j, none⟩ x i (fun e => row_not h.q.own h.rp (by decide) (by have e' : i = gp := e; rw [← e']; exact hi))), h.q.box.far (row_ne h.rp h.q.box (by decide)) x, h.q.hb, h.q.hc⟩, h.rp.put j x, own_heap h.rd (fun i hi => Below.heap_setCell Y ⟨gp, j, none⟩ x i (fun e => row_not h.rd h.rp (by decide) (by have e' : i = gp := e; rw [← e']; exact hi))), h.hp, h.hu⟩
theorem Sn.place {k t F A B C : Int} {nm : ByteArray} (h : Sn W b base N v gc gp bu (repC k nm t F A B C u) u L Y) (F' A' B' C' : Int) : Sn W b base N v gc gp bu (repC k nm t F' A' B' C' u) u L ((((Y.setCell ⟨gp, 3, none⟩ (.int .i64 F')).setCell ⟨gp, 4, none⟩ (.int .i64 A')).setCell ⟨gp, 5, none⟩ (.int .i64 B')).setCell ⟨gp, 6, none⟩ (.int .i64 C')) := (((h.put 3 (.int .i64 F')).put 4 (.int .i64 A')).put 5 (.int .i64 B')).put 6 (.int .i64 C')
end
/-- .. and gathers the normals of the other faces. -/
structure So (W : World) (b base : Nat) (N : List Cm.N5) (A : Option Addr) (nn cap : Nat) (gc gp bu : Nat) (cs : Array Value) (u : Value) (L : List El.Elt.R) (go bm : Nat) (M : List Cm.N5) (x : Value) (Y : World) : Prop where
  sn : Sn W b base N (.slice A nn cap) gc gp bu cs u L Y
  bx : Row Y go 24 #[x]
  own : Y.ownsRow bm 50 5 x M.length (nrc M)
  ne : gc ≠ go
  lo : ∀ i, (Value.slice A nn cap).ownBlock = some i → i < bm
  hm : b < bm
  hg : b < go
  hs : bm ≤ Y.heap.size
section
variable {W Y Y' w9 : World} {b base gc gp bu go bm nn cap : Nat} {N M : List Cm.N5} {A : Option Addr} {u x x' : Value} {cs : Array Value} {L : List El.Elt.R}
theorem So.under (h : So W b base N A nn cap gc gp bu cs u L go bm M x Y) (hb : Below Y.heap.size Y Y') : So W b base N A nn cap gc gp bu cs u L go bm M x Y' :=
  ⟨h.sn.under hb, h.bx.under hb, El.own_under h.own hb, h.ne, h.lo, h.hm, h.hg, Nat.le_trans h.hs hb.size⟩
theorem So.app {tmp : Obj} {n : Cm.N5} (h : So W b base N A nn cap gc gp bu cs u L go bm M x Y) (hg : (Y.alloc tmp).grownBy w9 x.ownBlock) (ho : w9.ownsRow bm 50 5 x' (M.length + 1) (nrc M ++ encN n)) :
    So W b base N A nn cap gc gp bu cs u L go bm (M ++ [n]) x' (w9.setCell ⟨go, 0, none⟩ x') := by
  have b1 := (Below.refl Y.heap.size Y).alloc (Nat.le_refl _) tmp
  have h1 := h.under b1
  have hnb : ∀ i, x.ownBlock = some i → bm ≤ i := fun i e => row_base h.own e
  have hbx : Row w9 go 24 #[x] := h1.bx.grown hg (fun e => row_not h.own h.bx (by decide) e.symm)
  obtain ⟨cs0, hr0⟩ := El.src_row h1.sn.q.src
  have hsrc : Src W b w9 := El.src_kept h1.sn.q.src hg (fun e => by have := hnb b e; have := h.hm; omega) (fun i e => by have := hnb i e; have := h.hm; have := h1.sn.q.src.base; omega)
  have hq : Pq W b base N (.slice A nn cap) gc w9 := ⟨hsrc, own_heap h1.sn.q.own (fun i hi => hg.block i (row_size h1.sn.q.own hi) (fun e => by have h8 := hnb i e.symm; have h9 := h.lo i hi; omega)), h1.sn.q.box.grown hg (fun e => row_not h1.own h1.sn.q.box (by decide) e.symm), h.sn.q.hb, h.sn.q.hc⟩
  have hrp : Row w9 gp 38 cs := h1.sn.rp.grown hg (fun e => row_not h1.own h1.sn.rp (by decide) e.symm)
  have hrd : w9.ownsRow bu 60 2 u L.length (El.rdc L) := own_heap h1.sn.rd (fun i hi => hg.block i (row_size h1.sn.rd hi) (fun e => by
    obtain ⟨c1, h1', -⟩ := row_own h1.own e.symm
    obtain ⟨c2, h2', -⟩ := row_own h1.sn.rd hi
    rw [h1'] at h2'; injection h2' with h2'; injection h2' with _ h2'; exact absurd h2' (by decide)))
  have key : ∀ i, i ≠ go → (w9.setCell ⟨go, 0, none⟩ x').heap[i]? = w9.heap[i]? := fun i hi => Below.heap_setCell w9 ⟨go, 0, none⟩ x' i hi
  refine ⟨⟨⟨Pl.src_set hsrc go 0 x' (by have := h.hg; have := hsrc.base; omega) (by have := h.hg; omega), own_heap hq.own (fun i hi => key i (fun e => row_not hq.own hbx (by decide) (e ▸ hi))), hq.box.far (p := ⟨go, 0, none⟩) h.ne.symm x', hq.hb, hq.hc⟩, hrp.far (p := ⟨go, 0, none⟩) (row_ne hbx hrp (by decide)) x', own_heap hrd (fun i hi => key i (fun e => row_not hrd hbx (by decide) (e ▸ hi))), h.sn.hp, h.sn.hu⟩, hbx.put 0 x', ?_, h.ne, h.lo, h.hm, h.hg, ?_⟩
  · rw [nrc_app, List.length_append]
    exact own_heap ho (fun i hi => key i (fun e => row_not ho hbx (by decide) (e ▸ hi)))
  · have := hg.size
    have := b1.size
    have := h.hs
    show bm ≤ (w9.setCell ⟨go, 0, none⟩ x').heap.size
    simp [World.setCell]
    omega
end
/-- The normals of other faces. -/
def oth (N : List Cm.N5) (f : Int) : List Cm.N5 := N.filter fun n => n.2.1 != f
theorem oth_vld {N : List Cm.N5} (f : Int) (h : Cm.vldN N = 0) : Cm.vldN (oth N f) = 0 := by
  obtain ⟨h1, h2, h3⟩ := Cm.vldN_ok h
  refine vldN_zero (Nat.le_trans (List.length_filter_le _ _) h1) (fun n hn => h2 n (List.mem_filter.1 hn).1) (ascN_of ?_)
  exact (ascN_pw h3).sublist List.filter_sublist
theorem oth_none (N : List Cm.N5) (c f mo : Int) : Cm.fndN (oth N f) (c, f, mo) = none := by
  refine List.find?_eq_none.2 fun n hn => ?_
  have h1 := (List.mem_filter.1 hn).2
  simp only [bne_iff_ne, ne_eq] at h1
  simp only [beq_iff_eq]
  intro e
  unfold Cm.key at e
  simp only [Prod.mk.injEq] at e
  exact h1 e.2.1
theorem oth_rej (N : List Cm.N5) (f mo : Int) (L : List El.Elt.R) : rejL (oth N f) f mo L = [] := by
  unfold rejL
  rw [List.filter_eq_nil_iff.2 (fun x _ => by unfold rej1; rw [oth_none]; simp)]
  rfl
theorem oth_snoc (N : List Cm.N5) (f : Int) (i : Nat) (h : i < N.length) : oth (N.take (i + 1)) f = oth (N.take i) f ++ (if N[i].2.1 != f then [N[i]] else []) := by
  unfold oth
  rw [List.take_add_one, List.getElem?_eq_getElem h, Option.toList_some, List.filter_append]
  congr 1
  simp only [List.filter_cons, List.filter_nil]
theorem rejL_mem {N : List Cm.N5} {f mo : Int} {L : List El.Elt.R} {c : Int} (h : c ∈ rejL N f mo L) : ∃ j, ∃ hj : j < L.length, L[j].1 = c := by
  unfold rejL at h
  obtain ⟨x, hx, e⟩ := List.mem_map.1 h
  obtain ⟨j, hj, rfl⟩ := List.getElem_of_mem (List.mem_filter.1 hx).1
  exact ⟨j, hj, e⟩
theorem rejL_asc {N : List Cm.N5} {f mo : Int} {L : List El.Elt.R} (h : El.Elt.Asc L) : ∀ i, ∀ hi : i < (rejL N f mo L).length, 0 < i → (rejL N f mo L)[i - 1]'(by omega) < (rejL N f mo L)[i] := by
  have hp : (rejL N f mo L).Pairwise (· < ·) := by
    unfold rejL
    rw [List.pairwise_map]
    exact (El.asc_pw h).sublist List.filter_sublist
  intro i hi h0
  exact List.pairwise_iff_getElem.1 hp (i - 1) i (by omega) hi (by omega)
set_option maxRecDepth 100000 in
set_option maxHeartbeats 8000000 in
theorem seasonNone_any (l : Value) (w : World) (hE : Env w) (hI : ListIn w l) :
    Calls Tryd.prog 10 #[l] w fun e w' => e = .returned (.bool true) ∧ Below w.heap.size w w' := by
  have HE := Lib.hid hE
  obtain ⟨i0, hi0, hz0, hz1, hz2⟩ := info_parts infoNormal
  clear hE
  go_enter Tryd.func10, Tryd.ntmps10
  go_wp2_with fail
  refine (new_any w l hI).mono ?_
  rintro e w1 ⟨rfl, s1, b1⟩
  obtain ⟨b, hb⟩ : ∃ b, w.heap.size = b := ⟨_, rfl⟩
  rw [hb] at s1 ⊢
  have HB := Lib.hid hb
  clear b1 hb hI
  go_wp2_with fail
  refine (minute_any w b _ s1).mono ?_
  rintro e w2 ⟨m, ⟨m1, m2⟩, rfl, s2, -⟩
  clear s1
  go_wp2_with fail
  refine (climate_any w b w2 m s2 m1 m2).mono ?_
  rintro e w3 ⟨N, v, rfl, s3, g3, o3, hl, -, hv, -⟩
  obtain ⟨base, hbase⟩ : ∃ b, w2.heap.size = b := ⟨_, rfl⟩
  have hbb : b < base := by rw [← hbase]; exact src_lt s2
  have hb3 : b < w3.heap.size := src_lt s3
  rw [hbase] at o3
  obtain ⟨A, cap, rfl⟩ := row_form o3
  have b4 := (Below.refl w3.heap.size w3).alloc (Nat.le_refl _) (.cells #[.slice A N.length cap] 24)
  have H4 : Hid (Pq w b base N (.slice A N.length cap) w3.heap.size (w3.alloc (.cells #[.slice A N.length cap] 24))) := Lib.hid ⟨s3.under b4, El.own_under o3 b4, Row.new _ _ _, hbb, hb3⟩
  have HV := Lib.hid hv
  clear o3 s3 g3 s2 hbase b4 hb3 hv
  go_upto_region 4 with fail
  refine forget (fun Y => Hid (Pq w b base N (.slice A N.length cap) w3.heap.size Y)) H4 ?_
  clear H4
  generalize w3.heap.size = gc at *
  rintro Y4 H4
  go_wp2_with fail
  refine (report_any w b _ m H4.out.src m1 m2).mono ?_
  rintro e w5 ⟨k, nm, t, F0, A0, B0, C0, u, L, hvd, -, rfl, hgl⟩
  have hb4 := src_lt H4.out.src
  have H5 := H4.out.step hgl.src hgl.gro
  have ho5 := hgl.own
  have hs5 := hgl.src
  obtain ⟨bu, hbu⟩ : ∃ g, Y4.heap.size = g := ⟨_, rfl⟩
  rw [hbu] at ho5 hb4
  have b6 := (Below.refl w5.heap.size w5).alloc (Nat.le_refl _) (.cells (repC k nm t F0 A0 B0 C0 u) 38)
  have H6 : Hid (Sn w b base N (.slice A N.length cap) gc w5.heap.size bu (repC k nm t F0 A0 B0 C0 u) u L (w5.alloc (.cells (repC k nm t F0 A0 B0 C0 u) 38))) := Lib.hid ⟨H5.under b6, Row.new _ _ _, El.own_under ho5 b6, src_lt hs5, hb4⟩
  have HL0 := Lib.hid hvd.list
  have HT0 := Lib.hid hvd.time
  obtain ⟨U, cu, rfl⟩ := row_form ho5
  clear hgl H4 H5 ho5 hs5 b6 hvd hbu hb4
  go_upto_region 5 with fail
  refine forget (fun Y => Hid (Sn w b base N (.slice A N.length cap) gc w5.heap.size bu (repC k nm t F0 A0 B0 C0 (.slice U L.length cu)) (.slice U L.length cu) L Y)) H6 ?_
  clear H6
  generalize w5.heap.size = gp at *
  rintro Y5 H6
  go_wp2_with fail
  refine (place_any w b _ H6.out.q.src).mono ?_
  rintro e w7 ⟨F, P, Q, R, hn, rfl, s7, g7⟩
  obtain ⟨f, rfl, hvl⟩ := nrm_vld hn
  have H7 := H6.out.step s7 g7
  have f3 := H7.rp.thaw 3
  have f4 := H7.rp.thaw 4
  have f5 := H7.rp.thaw 5
  have f6 := H7.rp.thaw 6
  obtain ⟨q0, q1, q2, q3, q4, q5, q6, q7⟩ := row8 H7.rp
  have H8 := Lib.hid (H7.place (f : Int) P Q R)
  have HNF := Lib.hid ((nrm_iff hvl).1 hn)
  have HVL := Lib.hid hvl
  clear H6 s7 g7 hn hvl H7
  go_upto_region 6 with fail
  refine forget (fun Y => Hid (Sn w b base N (.slice A N.length cap) gc gp bu (repC k nm t f P Q R (.slice U L.length cu)) (.slice U L.length cu) L Y)) H8 ?_
  clear H8 f3 f4 f5 f6 q0 q1 q2 q3 q4 q5 q6 q7
  rintro Y7 H8
  have HFM : Hid (fam (f : Int) P Q R t = ((f : Int), mth t, 0)) := Lib.hid (by rw [fam_at HVL.out (by unfold Ck.Cal.rng; simpa using HT0.out) rfl, HNF.out])
  have HEc := Lib.hid (HE.out.under H8.out.q.src.below)
  have HCk := checkS_any _ N k nm t f P Q R _ L Y7 (NrIn.own H8.out.q.own) (El.RdIn.own H8.out.rd) HEc.out
  have hz : valS N L ((f : Int), mth t, 0) = 0 := by unfold valS; rw [if_pos HV.out, if_pos HL0.out]
  have hj : chkJ N L ((f : Int), mth t, 0) = rejL N f (mth t) L := by unfold chkJ; rw [if_pos hz]
  rw [HFM.out, hz, hj] at HCk
  have HCC := Lib.hid HCk
  clear HCk hz hj
  have q8 := (H8.out.q.box.cell 0).trans rfl
  obtain ⟨q0, q1, q2, q3, q4, q5, q6, q7⟩ := row8 H8.out.rp
  go_wp2_with fail
  refine HCC.out.mono ?_
  rintro e w9 ⟨o, rfl, g9, ho⟩
  have HJm := Lib.hid (fun c (h : c ∈ rejL N f (mth t) L) => rejL_mem h)
  have hL11 := asc_le HL0.out (vld_asc HL0.out)
  have hJl := Nat.le_trans (rejL_len N f (mth t) L) (asc_le HL0.out (vld_asc HL0.out))
  have HJa := Lib.hid (rejL_asc (N := N) (f := f) (mo := mth t) (vld_asc HL0.out))
  have H9 := Lib.hid (And.intro (H8.out.under g9) ho)
  clear H8 g9 ho HCC HEc q0 q1 q2 q3 q4 q5 q6 q7 q8
  obtain ⟨J, hJ⟩ : ∃ J, rejL N f (mth t) L = J := ⟨_, rfl⟩
  rw [hJ] at H9 HJm hJl
  have HJa2 : Hid (∀ i, ∀ hi : i < J.length, 0 < i → J[i - 1]'(by omega) < J[i]) := Lib.hid (by subst hJ; exact HJa.out)
  clear HJa hJ
  obtain ⟨Ao, co, rfl⟩ := row_form H9.out.2
  obtain ⟨bj, hbj⟩ : ∃ g, Y7.heap.size = g := ⟨_, rfl⟩
  rw [hbj] at H9
  clear hbj
  go_wp2_with fail
  go_loopw [48] (fun t' wr => ∃ i : Nat, i ≤ J.length ∧ t' = .int .i64 (i : Int) ∧ Hid (Sn w b base N (.slice A N.length cap) gc gp bu (repC k nm t f P Q R (.slice U L.length cu)) (.slice U L.length cu) L wr ∧ wr.ownsRow bj 3 1 (.slice Ao J.length co) J.length (nmc J))) (fun t' _ => J.length - (intOf t').toNat)
  case atStart => exact ⟨0, Nat.zero_le _, rfl, H9⟩
  case round =>
    clear H9
    obtain ⟨i, hi, rfl, H9⟩ := hrel
    by_cases hlt : i < J.length
    · obtain ⟨gj, rfl, c0⟩ := own_num H9.out.2 hlt
      have k0 : (0 : Int) ≤ (i : Int) := by omega
      have k1 : (i : Int) < (J.length : Int) := by omega
      have HJx := Lib.hid (HJm.out _ (List.getElem_mem hlt))
      have HP : Hid (0 < i → ∃ y, wr.cell? ⟨gj, i - 1, none⟩ = some (.int .i64 y) ∧ y < J[i]) := Lib.hid (fun h0 => by
        obtain ⟨g2, e, c1⟩ := own_num H9.out.2 (show i - 1 < J.length by omega)
        injection e with e; injection e with e
        subst e
        exact ⟨_, c1, HJa2.out i hlt h0⟩)
      generalize J[i] = jx at *
      obtain ⟨q0, q1, q2, q3, q4, q5, q6, q7⟩ := row8 H9.out.1.rp
      go_wp2_with fail
      obtain ⟨wo, hwo⟩ : ∃ wo, wr = wo := ⟨_, rfl⟩
      rw [hwo] at H9 HP q0 q1 q2 q3 q4 q5 q6 q7 c0 ⊢
      clear hwo
      go_loopw [11, 56] (fun fb t' wr => ∃ (j : Nat) (bb : Bool), j ≤ L.length ∧ t' = .int .i64 (j : Int) ∧ fb = .bool bb ∧ Hid (bb = true ∨ ∀ q, ∀ hq : q < L.length, q < j → L[q].1 ≠ jx) ∧ Hid ((Sn w b base N (.slice A N.length cap) gc gp bu (repC k nm t f P Q R (.slice U L.length cu)) (.slice U L.length cu) L wr ∧ wr.ownsRow bj 3 1 (.slice (some ⟨gj, 0, none⟩) J.length co) J.length (nmc J)) ∧ Below wo.heap.size wo wr)) (fun _ t' _ => L.length - (intOf t').toNat)
      case atStart => exact ⟨0, false, Nat.zero_le _, rfl, rfl, Lib.hid (.inr fun q hq h => by omega), Lib.hid ⟨H9.out, Below.refl _ _⟩⟩
      case round =>
        clear q0 q1 q2 q3 q4 q5 q6 q7
        obtain ⟨j, bb, hj, rfl, rfl, HF, HQ⟩ := hrel
        by_cases hjl : j < L.length
        · obtain ⟨U', cu', e, -, -, hat⟩ := El.RdIn.own HQ.out.1.1.rd
          injection e with e1 e2 e3
          subst e1
          obtain ⟨gu, off, rfl, hgl, x0, x1⟩ := hat j hjl
          have j0 : (0 : Int) ≤ (j : Int) := by omega
          have j1 : (j : Int) < (L.length : Int) := by omega
          have HF2 := Lib.hid (show L[j].1 ≠ jx → (bb = true ∨ ∀ q, ∀ hq : q < L.length, q < j + 1 → L[q].1 ≠ jx) from fun h => HF.out.imp id fun h2 q hq hqj => by
            rcases (by omega : q < j ∨ q = j) with hh | rfl
            · exact h2 q hq hh
            · exact h)
          clear hat e3 HF
          generalize L[j] = x at *
          obtain ⟨xc, xv⟩ := x
          simp only at x0 x1
          have b1 := (Below.refl wr.heap.size wr).alloc (Nat.le_refl _) (.cells #[.int .i64 xc, .int .i64 xv] 60)
          have HQ2 := Lib.hid (And.intro (And.intro (HQ.out.1.1.under b1) (El.own_under HQ.out.1.2 b1)) (HQ.out.2.trans (b1.mono HQ.out.2.size)))
          clear HQ b1
          cases bb with
          | true =>
            go_wp2_with fail
            exact ⟨⟨j + 1, true, by omega, by go_num, rfl, Lib.hid (.inl rfl), HQ2⟩, by simp [intOf]; omega⟩
          | false =>
            by_cases hx : xc = jx
            · subst hx
              go_wp2_with fail
              exact ⟨⟨j + 1, true, by omega, by go_num, by simp, Lib.hid (.inl rfl), HQ2⟩, by simp [intOf]; omega⟩
            · have kx : (xc == jx) = false := beq_eq_false_iff_ne.2 hx
              have HF3 := Lib.hid (HF2.out hx)
              go_wp2_with fail
              exact ⟨⟨j + 1, false, by omega, by go_num, by simp, HF3, HQ2⟩, by simp [intOf]; omega⟩
        · obtain rfl : j = L.length := by omega
          have j1 : ¬ (L.length : Int) < (L.length : Int) := by omega
          obtain rfl : bb = true := by
            rcases HF.out with h | h
            · exact h
            · obtain ⟨q, hq, e⟩ := HJx.out
              exact absurd e (h q hq hq)
          clear HF
          by_cases hi0 : i = 0
          · subst hi0
            go_wp2_with fail
            go_roundw
            case rel => exact ⟨0 + 1, by omega, by go_num, Lib.hid HQ.out.1⟩
            case measure => simp [intOf]; omega
          · obtain ⟨y, hy, hyx⟩ := HP.out (by omega)
            have hy2 := (HQ.out.2.cell (p := ⟨gj, i - 1, none⟩) (by have := row_size H9.out.2 rfl; exact this)).trans hy
            obtain ⟨i', rfl⟩ : ∃ i', i = i' + 1 := ⟨i - 1, by omega⟩
            rw [Nat.add_sub_cancel] at hy2
            have y1 : IntKind.i64.wrap ((i' : Int) + 1 - 1) = (i' : Int) := by rw [Int.add_sub_cancel]; exact IntWalk.i64_in _ (by omega)
            have y2 : (0 : Int) < (i' : Int) + 1 := by omega
            have y3 : (0 : Int) ≤ (i' : Int) := by omega
            have y4 : (i' : Int) < (J.length : Int) := by omega
            have y5 : ¬ jx ≤ y := by omega
            have y6 : IntKind.i64.wrap (i' : Int) = (i' : Int) := IntWalk.i64_in _ (by omega)
            clear hy hyx hi0
            go_wp2_with fail
            exact ⟨⟨i' + 1 + 1, by omega, by go_num, Lib.hid HQ.out.1⟩, by simp [intOf]; omega⟩
    · obtain rfl : i = J.length := by omega
      have k1 : ¬ (J.length : Int) < (J.length : Int) := by omega
      have H10 := Lib.hid H9.out.1
      clear H9 HJa2 HJm
      have b11 := (Below.refl wr.heap.size wr).alloc (Nat.le_refl _) (.cells #[.slice none 0 0] 24)
      obtain ⟨go, hgo⟩ : ∃ g, wr.heap.size = g := ⟨_, rfl⟩
      obtain ⟨bm, hbm⟩ : ∃ g, wr.heap.size = g := ⟨_, rfl⟩
      have hcl : gc < wr.heap.size := H10.out.q.box.lt
      have hbl : b < wr.heap.size := src_lt H10.out.q.src
      have hrl : ∀ i, (Value.slice A N.length cap).ownBlock = some i → i < wr.heap.size := fun i hi => row_size H10.out.q.own hi
      have r11 := Row.new wr #[.slice none 0 0] 24
      have hsz : wr.heap.size ≤ (wr.alloc (.cells #[.slice none 0 0] 24)).heap.size := b11.size
      have H11 : Hid (So w b base N A N.length cap gc gp bu (repC k nm t f P Q R (.slice U L.length cu)) (.slice U L.length cu) L go bm (oth (N.take 0) f) (.slice none 0 0) (wr.alloc (.cells #[.slice none 0 0] 24))) := Lib.hid (by
        have hs := H10.out.under b11
        rw [hgo] at r11
        exact ⟨hs, r11, ⟨rfl, .inl ⟨rfl, rfl⟩⟩, by omega, fun i hi => by have := hrl i hi; omega, by omega, by omega, by omega⟩)
      clear b11 hcl hbl hrl r11 hsz H10 hbm
      go_upto_region 22 with fail
      refine forget (fun Y => Hid (So w b base N A N.length cap gc gp bu (repC k nm t f P Q R (.slice U L.length cu)) (.slice U L.length cu) L go bm (oth (N.take 0) f) (.slice none 0 0) Y)) H11 ?_
      clear H11 hgo
      rintro Y11 H11
      have q8 := (H11.out.sn.q.box.cell 0).trans rfl
      go_wp2_with fail
      go_loopw [87] (fun t' wr => ∃ (i : Nat) (x : Value), i ≤ N.length ∧ t' = .int .i64 (i : Int) ∧ Hid (So w b base N A N.length cap gc gp bu (repC k nm t f P Q R (.slice U L.length cu)) (.slice U L.length cu) L go bm (oth (N.take i) f) x wr)) (fun t' _ => N.length - (intOf t').toNat)
      case atStart => exact ⟨0, _, Nat.zero_le _, rfl, H11⟩
      case round =>
        clear H11 q8
        obtain ⟨i, x, hi, rfl, H12⟩ := hrel
        by_cases hlt : i < N.length
        · obtain ⟨A', cap', e, -, -, hat⟩ := NrIn.own H12.out.sn.q.own
          injection e with e1 e2 e3
          subst e1
          obtain ⟨g, off, rfl, hgl, x0, x1, x2, x3, x4⟩ := hat i hlt
          have k0 : (0 : Int) ≤ (i : Int) := by omega
          have k1 : (i : Int) < (N.length : Int) := by omega
          have HSn := Lib.hid (oth_snoc N f i hlt)
          have hMl : (oth (N.take i) f).length ≤ 200 := Nat.le_trans (List.length_filter_le _ _) (by rw [List.length_take]; omega)
          clear hat e3
          obtain ⟨M2, hM2⟩ : ∃ q, oth (N.take (i + 1)) f = q := ⟨_, rfl⟩
          rw [hM2] at HSn
          have HM2 := Lib.hid hM2
          clear hM2
          generalize oth (N.take i) f = M at *
          generalize N[i] = n at *
          obtain ⟨n1, n2, n3, n4, n5⟩ := n
          simp only at x0 x1 x2 x3 x4
          obtain ⟨Ax, cx, rfl⟩ := row_form H12.out.own
          have b13 := (Below.refl wr.heap.size wr).alloc (Nat.le_refl _) (.cells #[.int .i64 n1, .int .i64 n2, .int .i64 n3, .int .i64 n4, .int .i64 n5] 50)
          have H13 : Hid (So w b base N (some ⟨g, off, none⟩) N.length cap gc gp bu (repC k nm t f P Q R (.slice U L.length cu)) (.slice U L.length cu) L go bm M (.slice Ax M.length cx) (wr.alloc (.cells #[.int .i64 n1, .int .i64 n2, .int .i64 n3, .int .i64 n4, .int .i64 n5] 50)) ∧ Row (wr.alloc (.cells #[.int .i64 n1, .int .i64 n2, .int .i64 n3, .int .i64 n4, .int .i64 n5] 50)) wr.heap.size 50 #[.int .i64 n1, .int .i64 n2, .int .i64 n3, .int .i64 n4, .int .i64 n5]) := Lib.hid ⟨H12.out.under b13, Row.new _ _ _⟩
          clear b13 H12
          go_upto_region 25 with fail
          refine forget (fun Y => Hid (So w b base N (some ⟨g, off, none⟩) N.length cap gc gp bu (repC k nm t f P Q R (.slice U L.length cu)) (.slice U L.length cu) L go bm M (.slice Ax M.length cx) Y ∧ Row Y wr.heap.size 50 #[.int .i64 n1, .int .i64 n2, .int .i64 n3, .int .i64 n4, .int .i64 n5])) H13 ?_
          clear H13 x0 x1 x2 x3 x4
          generalize wr.heap.size = gn at *
          rintro Y13 H13
          obtain ⟨x0, x1, x2, x3, x4⟩ := row5 H13.out.2
          obtain ⟨q0, q1, q2, q3, q4, q5, q6, q7⟩ := row8 H13.out.1.sn.rp
          by_cases hf : n2 = (f : Int)
          · have HR2 : Hid (M2 = M) := Lib.hid (by rw [HSn.out]; simp [hf])
            have kf : (n2 != (f : Int)) = false := by simp [hf]
            clear HSn hf
            go_wp2_with fail
            go_roundw
            case rel => exact ⟨i + 1, _, by omega, by go_num, by rw [HM2.out, HR2.out]; exact Lib.hid H13.out.1⟩
            case measure => simp [intOf]; omega
          · have HR2 : Hid (M2 = M ++ [(n1, n2, n3, n4, n5)]) := Lib.hid (by rw [HSn.out]; simp [hf])
            have kf : (n2 != (f : Int)) = true := by simp [hf]
            clear HSn hf
            have z0 := (H13.out.1.bx.cell 0).trans rfl
            have HRW := Lib.hid (El.own_under H13.out.1.own ((Below.refl Y13.heap.size Y13).alloc (Nat.le_refl _) (.cells #[.int .i64 n1, .int .i64 n2, .int .i64 n3, .int .i64 n4, .int .i64 n5] 50)))
            have HC5 := Lib.hid (five_at Y13 (n1, n2, n3, n4, n5))
            have hsz := H13.out.1.hs
            go_wp2_with (at_builtin; refine wpList_append_own' rfl (.tmp 98) (.tmp 100) 22 rfl bm 50 i0 (nV (0, 0, 0, 0, 0)) 5 40 Tryd.underlying22 hi0 hz0 hz1 hz2 rfl (by decide) (.slice Ax M.length cx) M.length (nrc M) rfl HRW.out ⟨Y13.heap.size, 0, none⟩ 1 1 (encN (n1, n2, n3, n4, n5)) rfl rfl HC5.out (fun u hu => by simp only [encN, List.mem_cons, List.not_mem_nil, or_false] at hu; rcases hu with rfl | rfl | rfl | rfl | rfl <;> rfl) (by unfold maxLen; omega) (by omega) (Nat.le_trans hsz ((Below.refl _ _).alloc (Nat.le_refl _) _ : Below Y13.heap.size Y13 _).size) ?_; intro v' w9 ho' hg'; obtain ⟨A', cap', ev⟩ : ∃ A' cap', v' = .slice A' (M.length + 1) cap' := row_form ho'; subst ev; have r9 : Row w9 go 24 #[.slice Ax M.length cx] := (H13.out.1.bx.alloc _).grown hg' (fun e => row_not H13.out.1.own H13.out.1.bx (by decide) e.symm); have f9 := r9.thaw 0; have c9 := (r9.cell 0).trans rfl; clear r9; have HB := Lib.hid (H13.out.1.app hg' ho'); clear ho' hg' HRW HC5 hsz x0 x1 x2 x3 x4 q0 q1 q2 q3 q4 q5 q6 q7 z0 H13)
            go_roundw
            case rel => exact ⟨i + 1, _, by omega, by go_num, by rw [HM2.out, HR2.out]; exact HB⟩
            case measure => simp [intOf]; omega
        · obtain rfl : i = N.length := by omega
          have k1 : ¬ (N.length : Int) < (N.length : Int) := by omega
          rw [List.take_length] at H12
          obtain ⟨Ax, cx, rfl⟩ := row_form H12.out.own
          have z0 := (H12.out.bx.cell 0).trans rfl
          obtain ⟨q0, q1, q2, q3, q4, q5, q6, q7⟩ := row8 H12.out.sn.rp
          have HEc := Lib.hid (HE.out.under H12.out.sn.q.src.below)
          have HCk := checkS_any _ (oth N f) k nm t f P Q R _ L wr (NrIn.own H12.out.own) (El.RdIn.own H12.out.sn.rd) HEc.out
          have hz : valS (oth N f) L ((f : Int), mth t, 0) = 0 := by unfold valS; rw [if_pos (oth_vld f HV.out), if_pos HL0.out]
          have hj : chkJ (oth N f) L ((f : Int), mth t, 0) = [] := by unfold chkJ; rw [if_pos hz]; exact oth_rej N f (mth t) L
          rw [HFM.out, hz, hj] at HCk
          have HCC := Lib.hid HCk
          clear HCk hz hj
          go_wp2_with fail
          refine HCC.out.mono ?_
          rintro e w9 ⟨o, rfl, g9, ho⟩
          obtain ⟨Ao, co, rfl⟩ := row_form ho
          have HBl := Lib.hid (H12.out.sn.q.src.below.trans (g9.mono H12.out.sn.q.src.below.size))
          clear H12 g9 ho HCC HEc q0 q1 q2 q3 q4 q5 q6 q7 z0
          go_wp2_with fail
          refine (awake15 w9 (HE.out.under HBl.out)).mono ?_
          rintro e w10 ⟨rfl, g10⟩
          have HB2 := Lib.hid (HBl.out.trans (g10.mono HBl.out.size))
          clear g10
          go_wp2_with fail
          go_ret
          exact ⟨rfl, HB2.out⟩
end Go.Proofs.YtcheadbhkbbegaaDoor
