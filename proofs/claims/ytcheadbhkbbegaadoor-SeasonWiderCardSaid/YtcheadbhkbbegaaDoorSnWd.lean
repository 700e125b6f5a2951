/- The walk of SeasonWider. -/
import Derived.Test.YtcheadbhkbbegaaDoorSnL
import Derived.Test.YtcheadbhkbbegaaDoorSnN
namespace Go.Proofs.YtcheadbhkbbegaaDoor
open Go.RowKit

/-- M has the normals of N with spreads that are at most greater by 100, from the i-th on the same ones. -/
def Wr (i : Nat) (N M : List Cm.N5) : Prop := ∀ j, ∀ h1 : j < N.length, ∀ h2 : j < M.length, Cm.key M[j] = Cm.key N[j] ∧ M[j].2.2.2.1 = N[j].2.2.2.1 ∧ N[j].2.2.2.2 ≤ M[j].2.2.2.2 ∧ M[j].2.2.2.2 ≤ N[j].2.2.2.2 + 100 ∧ (i ≤ j → M[j].2.2.2.2 = N[j].2.2.2.2)
theorem Wr.start (N : List Cm.N5) : Wr 0 N N := fun j h1 h2 => ⟨rfl, rfl, Int.le_refl _, by omega, fun _ => rfl⟩
theorem Wr.step {i : Nat} {N M : List Cm.N5} (h : Wr i N M) (_h1 : i < N.length) (h2 : i < M.length) {y : Int} (y1 : 0 ≤ y) (y2 : y < 100) : Wr (i + 1) N (M.set i (M[i].1, M[i].2.1, M[i].2.2.1, M[i].2.2.2.1, M[i].2.2.2.2 + y)) := by
  intro j g1 g2
  rw [List.length_set] at g2
  obtain ⟨a1, a2, a3, a4, a5⟩ := h j g1 g2
  rw [List.getElem_set]
  by_cases e : i = j
  · subst e
    rw [if_pos rfl]
    have := a5 (Nat.le_refl _)
    exact ⟨a1, a2, by show _ ≤ M[i].2.2.2.2 + y; omega, by show M[i].2.2.2.2 + y ≤ _; omega, fun q => by omega⟩
  · rw [if_neg e]
    exact ⟨a1, a2, a3, a4, fun q => a5 (by omega)⟩
theorem Wr.vld {i : Nat} {N M : List Cm.N5} (h : Wr i N M) (hl : M.length = N.length) (hv : Cm.vldN N = 0) (hs : ∀ n ∈ N, 0 ≤ n.2.2.2.2 ∧ n.2.2.2.2 ≤ 12000) : Cm.vldN M = 0 := by
  obtain ⟨v1, v2, v3⟩ := Cm.vldN_ok hv
  refine vldN_zero (by omega) (fun n hn => ?_) (fun j hj => ?_)
  · obtain ⟨j, hj, rfl⟩ := List.getElem_of_mem hn
    have hjN : j < N.length := by omega
    obtain ⟨a1, a2, a3, a4, -⟩ := h j hjN hj
    have hc := v2 _ (List.getElem_mem hjN)
    have hsj := hs _ (List.getElem_mem hjN)
    generalize M[j] = n at *
    generalize N[j] = n' at *
    obtain ⟨b1, b2, b3, b4, b5⟩ := n
    obtain ⟨c1, c2, c3, c4, c5⟩ := n'
    unfold Cm.key at a1
    simp only [Prod.mk.injEq] at a1
    dsimp only at a2 a3 a4 hsj
    obtain ⟨rfl, rfl, rfl⟩ := a1
    subst a2
    unfold Cm.chkN at hc ⊢
    dsimp only at hc ⊢
    by_cases q : El.Elt.Ex b1
    · rw [if_pos q] at hc ⊢
      by_cases q2 : 0 ≤ b2 ∧ b2 ≤ 19 ∧ 1 ≤ b3 ∧ b3 ≤ 12 ∧ -10000 ≤ b4 ∧ b4 ≤ 20000 ∧ 0 ≤ c5 ∧ c5 ≤ 20000
      · rw [if_pos (by omega)]
      · rw [if_neg q2] at hc; omega
    · rw [if_neg q] at hc; omega
  · have e1 := (h j (by omega) (by omega)).1
    have e2 := (h (j + 1) (by omega) hj).1
    rw [e1, e2]
    exact v3 j (by omega)
theorem Wr.rej {i : Nat} {N M : List Cm.N5} (h : Wr i N M) (hl : M.length = N.length) (hv : Cm.vldN N = 0) {f mo : Int} {x : El.Elt.R} (hr : rej1 M f mo x = true) : rej1 N f mo x = true := by
  unfold rej1 at hr ⊢
  cases hf : Cm.fndN M (x.1, f, mo) with
  | none => rw [hf] at hr; cases hr
  | some n' =>
    rw [hf] at hr
    have hm : n' ∈ M := List.mem_of_find?_eq_some hf
    have hk : Cm.key n' = (x.1, f, mo) := by
      have := List.find?_some hf
      simpa using this
    obtain ⟨j, hj, rfl⟩ := List.getElem_of_mem hm
    have hjN : j < N.length := by omega
    obtain ⟨a1, a2, a3, -, -⟩ := h j hjN hj
    rw [Cm.fndN_at (Cm.vldN_ok hv).2.2 hjN (by rw [← a1]; exact hk)]
    have hr' : farN M[j] x.2 = true := hr
    show farN N[j] x.2 = true
    unfold farN at hr' ⊢
    rw [a2] at hr'
    simp only [Bool.or_eq_true, decide_eq_true_eq] at hr' ⊢
    omega
theorem Wr.sub {i : Nat} {N M : List Cm.N5} (h : Wr i N M) (hl : M.length = N.length) (hv : Cm.vldN N = 0) {f mo : Int} {L : List El.Elt.R} {c : Int} (hc : c ∈ rejL M f mo L) : (rejL N f mo L).contains c = true := by
  rw [List.contains_iff_mem]
  unfold rejL at hc ⊢
  obtain ⟨x, hx, e⟩ := List.mem_map.1 hc
  obtain ⟨h1, h2⟩ := List.mem_filter.1 hx
  exact List.mem_map.2 ⟨x, List.mem_filter.2 ⟨h1, h.rej hl hv h2⟩, e⟩
/-- The reader and both climates. -/
structure Wd (W : World) (b base : Nat) (N : List Cm.N5) (A : Option Addr) (cap gc bd : Nat) (M : List Cm.N5) (Ad : Option Addr) (capd gd : Nat) (Y : World) : Prop where
  q : Pq W b base N (.slice A N.length cap) gc Y
  own : Y.ownsRow bd 50 5 (.slice Ad N.length capd) N.length (nrc M)
  len : M.length = N.length
  box : Row Y gd 24 #[.slice Ad N.length capd]
  lo : ∀ i, (Value.slice A N.length cap).ownBlock = some i → i < bd
  hb : b < bd
  hg : b < gd
  ne : gc ≠ gd
section
variable {W Y Y' : World} {b base gc bd gd cap capd : Nat} {N M : List Cm.N5} {A Ad : Option Addr}
theorem Wd.step (h : Wd W b base N A cap gc bd M Ad capd gd Y) (hs : Src W b Y') (hg : Y.grownBy Y' (some b)) : Wd W b base N A cap gc bd M Ad capd gd Y' :=
  ⟨h.q.step hs hg, own_heap h.own (fun i hi => hg.block i (row_size h.own hi) (fun e => by injection e with e; have := row_base h.own hi; have := h.hb; omega)), h.len, h.box.grown hg (fun e => by injection e with e; have := h.hg; omega), h.lo, h.hb, h.hg, h.ne⟩
theorem Wd.under (h : Wd W b base N A cap gc bd M Ad capd gd Y) (hb : Below Y.heap.size Y Y') : Wd W b base N A cap gc bd M Ad capd gd Y' := h.step (h.q.src.under hb) (grown_below hb)
/-- A cell elsewhere is written. -/
theorem Wd.far (h : Wd W b base N A cap gc bd M Ad capd gd Y) {g : Nat} (n1 : (Value.slice A N.length cap).ownBlock ≠ some g) (n2 : (Value.slice Ad N.length capd).ownBlock ≠ some g) (n3 : g ≠ gc) (n4 : g ≠ gd) (hg : b < g) (j : Nat) (x : Value) : Wd W b base N A cap gc bd M Ad capd gd (Y.setCell ⟨g, j, none⟩ x) := by
  have key : ∀ i, i ≠ g → (Y.setCell ⟨g, j, none⟩ x).heap[i]? = Y.heap[i]? := fun i hi => Below.heap_setCell Y ⟨g, j, none⟩ x i hi
  have h2 := h.q.src.base
  exact ⟨⟨Pl.src_set h.q.src g j x (by omega) (by omega), own_heap h.q.own (fun i hi => key i (fun e => n1 (e ▸ hi))), h.q.box.far (p := ⟨g, j, none⟩) n3 x, h.q.hb, h.q.hc⟩, own_heap h.own (fun i hi => key i (fun e => n2 (e ▸ hi))), h.len, h.box.far (p := ⟨g, j, none⟩) n4 x, h.lo, h.hb, h.hg, h.ne⟩
theorem Wd.put {g i : Nat} (h : Wd W b base N A cap gc bd M (some ⟨g, 0, none⟩) capd gd Y) (hi : i < M.length) (x : Int) :
    Wd W b base N A cap gc bd (M.set i (M[i].1, M[i].2.1, M[i].2.2.1, M[i].2.2.2.1, x)) (some ⟨g, 0, none⟩) capd gd (Y.setCell ⟨g, i * 5 + 4, none⟩ (.int .i64 x)) := by
  have hbd : bd ≤ g := row_base h.own rfl
  have hb := h.hb
  have key : ∀ k, k ≠ g → (Y.setCell ⟨g, i * 5 + 4, none⟩ (.int .i64 x)).heap[k]? = Y.heap[k]? := fun k hk => Below.heap_setCell Y ⟨g, i * 5 + 4, none⟩ (.int .i64 x) k hk
  have h2 := h.q.src.base
  refine ⟨⟨Pl.src_set h.q.src g _ _ (by omega) (by omega), own_heap h.q.own (fun k hk => key k (fun e => by have := h.lo k hk; omega)), h.q.box.far (p := ⟨g, i * 5 + 4, none⟩) (fun e => row_not h.own h.q.box (by decide) (by rw [← e]; rfl)) _, h.q.hb, h.q.hc⟩, ?_, by rw [List.length_set]; exact h.len, h.box.far (p := ⟨g, i * 5 + 4, none⟩) (fun e => row_not h.own h.box (by decide) (by rw [← e]; rfl)) _, h.lo, h.hb, h.hg, h.ne⟩
  have := own_setN h.own (i * 5 + 4) (.int .i64 x)
  rw [nrc_set4 M i hi x] at this
  exact this
theorem Wd.facts {g i : Nat} (h : Wd W b base N A cap gc bd M (some ⟨g, 0, none⟩) capd gd Y) (hi : i < M.length) : Y.cell? ⟨g, i * 5 + 4, none⟩ = some (.int .i64 M[i].2.2.2.2) ∧ Y.frozen? ⟨g, i * 5 + 4, none⟩ = false := by
  have hl := h.len
  refine ⟨by rw [h.own.cellAt _ (by omega), nrc_at M i hi 4 (by omega)]; rfl, ?_⟩
  rcases h.own.2 with ⟨h0, _⟩ | ⟨g', cap', cur, h0, hb, hh, -⟩
  · cases h0
  · injection h0 with h0
    injection h0 with h0
    injection h0 with h0
    subst h0
    simp [World.frozen?, hh]
theorem Wd.nr (h : Wd W b base N A cap gc bd M Ad capd gd Y) : NrIn Y (.slice Ad N.length capd) M := by
  have ho := h.own
  rw [← h.len] at ho ⊢
  exact NrIn.own ho
/-- .. and a report. -/
structure Wn (W : World) (b base : Nat) (N : List Cm.N5) (A : Option Addr) (cap gc bd : Nat) (M : List Cm.N5) (Ad : Option Addr) (capd gd gp bu : Nat) (cs : Array Value) (u : Value) (L : List El.Elt.R) (Y : World) : Prop where
  wd : Wd W b base N A cap gc bd M Ad capd gd Y
  rp : Row Y gp 38 cs
  rd : Y.ownsRow bu 60 2 u L.length (El.rdc L)
  hp : b < gp
  hu : b < bu
variable {gp bu : Nat} {cs : Array Value} {u : Value} {L : List El.Elt.R}
theorem Wn.step (h : Wn W b base N A cap gc bd M Ad capd gd gp bu cs u L Y) (hs : Src W b Y') (hg : Y.grownBy Y' (some b)) : Wn W b base N A cap gc bd M Ad capd gd gp bu cs u L Y' :=
  ⟨h.wd.step hs hg, h.rp.grown hg (fun e => by injection e with e; have := h.hp; omega), own_heap h.rd (fun i hi => hg.block i (row_size h.rd hi) (fun e => by injection e with e; have := row_base h.rd hi; have := h.hu; omega)), h.hp, h.hu⟩
theorem Wn.under (h : Wn W b base N A cap gc bd M Ad capd gd gp bu cs u L Y) (hb : Below Y.heap.size Y Y') : Wn W b base N A cap gc bd M Ad capd gd gp bu cs u L Y' := h.step (h.wd.q.src.under hb) (grown_below hb)
theorem Wn.put (h : Wn W b base N A cap gc bd M Ad capd gd gp bu cs u L Y) (j : Nat) (x : Value) : Wn W b base N A cap gc bd M Ad capd gd gp bu (cs.setIfInBounds j x) u L (Y.setCell ⟨gp, j, none⟩ x) :=
  ⟨h.wd.far (row_not h.wd.q.own h.rp (by decide)) (row_not h.wd.own h.rp (by decide)) (row_ne h.rp h.wd.q.box (by decide)) (row_ne h.rp h.wd.box (by decide)) h.hp j x, h.rp.put j x, own_heap h.rd (fun i hi => Below.heap_setCell Y ⟨gp, j, none⟩ x i (fun e => row_not h.rd h.rp (by decide) (by have e' : i = gp := e; rw [← e']; exact hi))), h.hp, h.hu⟩
theorem Wn.place {k t F B C D : Int} {nm : ByteArray} (h : Wn W b base N A cap gc bd M Ad capd gd gp bu (repC k nm t F B C D u) u L Y) (F' B' C' D' : Int) : Wn W b base N A cap gc bd M Ad capd gd gp bu (repC k nm t F' B' C' D' u) u L ((((Y.setCell ⟨gp, 3, none⟩ (.int .i64 F')).setCell ⟨gp, 4, none⟩ (.int .i64 B')).setCell ⟨gp, 5, none⟩ (.int .i64 C')).setCell ⟨gp, 6, none⟩ (.int .i64 D')) := (((h.put 3 (.int .i64 F')).put 4 (.int .i64 B')).put 5 (.int .i64 C')).put 6 (.int .i64 D')
/-- A cell of another normal is written. -/
theorem Wn.far (h : Wn W b base N A cap gc bd M Ad capd gd gp bu cs u L Y) {g : Nat} {cn : Array Value} (hr : Row Y g 50 cn) (n1 : (Value.slice A N.length cap).ownBlock ≠ some g) (n2 : (Value.slice Ad N.length capd).ownBlock ≠ some g) (hg : b < g) (j : Nat) (x : Value) : Wn W b base N A cap gc bd M Ad capd gd gp bu cs u L (Y.setCell ⟨g, j, none⟩ x) :=
  ⟨h.wd.far n1 n2 (row_ne hr h.wd.q.box (by decide)) (row_ne hr h.wd.box (by decide)) hg j x, h.rp.far (p := ⟨g, j, none⟩) (row_ne hr h.rp (by decide)) x, own_heap h.rd (fun i hi => Below.heap_setCell Y ⟨g, j, none⟩ x i (fun e => row_not h.rd hr (by decide) (by have e' : i = g := e; rw [← e']; exact hi))), h.hp, h.hu⟩
theorem Wn.nrm (h : Wn W b base N A cap gc bd M Ad capd gd gp bu cs u L Y) {g : Nat} {z0 z1 z2 z3 z4 : Value} (hr : Row Y g 50 #[z0, z1, z2, z3, z4]) (n1 : (Value.slice A N.length cap).ownBlock ≠ some g) (n2 : (Value.slice Ad N.length capd).ownBlock ≠ some g) (hg : b < g) (x0 x1 x2 x3 x4 : Value) :
    Wn W b base N A cap gc bd M Ad capd gd gp bu cs u L (((((Y.setCell ⟨g, 0, none⟩ x0).setCell ⟨g, 1, none⟩ x1).setCell ⟨g, 2, none⟩ x2).setCell ⟨g, 3, none⟩ x3).setCell ⟨g, 4, none⟩ x4) ∧ Row (((((Y.setCell ⟨g, 0, none⟩ x0).setCell ⟨g, 1, none⟩ x1).setCell ⟨g, 2, none⟩ x2).setCell ⟨g, 3, none⟩ x3).setCell ⟨g, 4, none⟩ x4) g 50 #[x0, x1, x2, x3, x4] := by
  have r1 := hr.put 0 x0
  have r2 := r1.put 1 x1
  have r3 := r2.put 2 x2
  have r4 := r3.put 3 x3
  exact ⟨((((h.far hr n1 n2 hg 0 x0).far r1 n1 n2 hg 1 x1).far r2 n1 n2 hg 2 x2).far r3 n1 n2 hg 3 x3).far r4 n1 n2 hg 4 x4, set5_row x0 x1 x2 x3 x4 hr⟩
end
theorem fam_any0 {F B C D t : Int} (h : Pl.vb F B C D = true) (hg : Ck.Cal.rng t = true) : (fam F B C D t).2.2 = 0 := by
  unfold fam
  rw [if_pos ⟨h, hg⟩]
set_option maxRecDepth 100000 in
set_option maxHeartbeats 8000000 in
theorem seasonWider_any (l : Value) (w : World) (hE : Env w) (hI : ListIn w l) :
    Calls Tryd.prog 9 #[l] w fun e w' => e = .returned (.bool true) ∧ Below w.heap.size w w' := by
  have HE := Lib.hid hE
  obtain ⟨i0, hi0, hz0, hz1, hz2⟩ := info_parts infoNormal
  clear hE
  go_enter Tryd.func9, Tryd.ntmps9
  go_wp2_with fail
  refine (new_any w l hI).mono ?_
  rintro e w1 ⟨rfl, s1, b1⟩
  obtain ⟨b, hb⟩ : ∃ b, w.heap.size = b := ⟨_, rfl⟩
  rw [hb] at s1 ⊢
  have HB := Lib.hid hb
  clear b1 hb hI
  go_wp2_with fail
  refine (minute_any w b _ s1).mono ?_
  rintro e w2 ⟨m, ⟨m1, m2⟩, rfl, s2, -⟩
  clear s1
  go_wp2_with fail
  refine (climate_any w b w2 m s2 m1 m2).mono ?_
  rintro e w3 ⟨N, v, rfl, s3, g3, o3, hl, hfc, hv, hsp⟩
  obtain ⟨base, hbase⟩ : ∃ b, w2.heap.size = b := ⟨_, rfl⟩
  have hbb : b < base := by rw [← hbase]; exact src_lt s2
  have hb3 : b < w3.heap.size := src_lt s3
  rw [hbase] at o3
  obtain ⟨A, cap, rfl⟩ := row_form o3
  have b4 := (Below.refl w3.heap.size w3).alloc (Nat.le_refl _) (.cells #[.slice A N.length cap] 24)
  have H4 : Hid (Pq w b base N (.slice A N.length cap) w3.heap.size (w3.alloc (.cells #[.slice A N.length cap] 24))) := Lib.hid ⟨s3.under b4, El.own_under o3 b4, Row.new _ _ _, hbb, hb3⟩
  have HV := Lib.hid hv
  have HFc := Lib.hid hfc
  have HSp := Lib.hid hsp
  clear o3 s3 g3 s2 hbase b4 hb3 hv hfc hsp
  go_upto_region 4 with fail
  refine forget (fun Y => Hid (Pq w b base N (.slice A N.length cap) w3.heap.size Y)) H4 ?_
  clear H4
  generalize w3.heap.size = gc at *
  rintro Z H5
  have q0 := ((H5.out.box.alloc (.cells #[] 50)).cell 0).trans rfl
  have HO0 := Lib.hid (own_empty Z)
  have b6 := (Below.refl Z.heap.size Z).alloc (Nat.le_refl _) (.cells #[] 50)
  have B6 := Lib.hid b6
  have HNw := Lib.hid (nr_news ((NrIn.own H5.out.own).under b6))
  clear b6
  go_wp2_with (at_builtin; refine wpList_append_opt rfl (.tmp 24) (.tmp 26) 22 rfl Z.heap.size 50 i0 (nV (0, 0, 0, 0, 0)) 5 40 Tryd.underlying22 hi0 hz0 hz1 hz2 rfl (by decide) (.slice (some ⟨Z.heap.size, 0, none⟩) 0 0) 0 [] rfl HO0.out A N.length cap (nrc N) rfl (nrc_len5 N) HNw.out.2.1 HNw.out.2.2 (nrc_one N) (by unfold maxLen; omega) (by omega) B6.out.size ?_; intro v' w7 ho' hg'; obtain ⟨A', cap', ev⟩ : ∃ A' cap', v' = .slice A' (0 + N.length) cap' := row_form ho'; subst ev; rw [Nat.zero_add, List.nil_append] at ho'; rw [Nat.zero_add])
  have HL : Hid (Below Z.heap.size Z w7) := Lib.hid (El.below_own B6.out B6.out.size HO0.out hg')
  have b8 := (Below.refl w7.heap.size w7).alloc (Nat.le_refl _) (.cells #[.slice A' N.length cap'] 24)
  obtain ⟨bd, hbd⟩ : ∃ g, Z.heap.size = g := ⟨_, rfl⟩
  have H8 : Hid (Wd w b base N A cap gc bd N A' cap' w7.heap.size (w7.alloc (.cells #[.slice A' N.length cap'] 24))) := Lib.hid (by
    have h9 := H5.out.under (HL.out.trans (b8.mono HL.out.size))
    have hsz := HL.out.size
    have hbz := src_lt H5.out.src
    have hgc := H5.out.box.lt
    exact ⟨h9, El.own_under (by rw [← hbd]; exact ho') b8, rfl, Row.new _ _ _, fun i hi => by have := row_size H5.out.own hi; omega, by omega, by omega, by omega⟩)
  clear ho' hg' HL b8 HO0 B6 HNw q0 H5 hbd
  go_upto_region 5 with fail
  refine forget (fun Y => Hid (Wd w b base N A cap gc bd N A' cap' w7.heap.size Y)) H8 ?_
  clear H8
  generalize w7.heap.size = gd at *
  rintro Y8 H8
  have q0 := (H8.out.box.cell 0).trans rfl
  have H9 : Hid (∃ M, Wr 0 N M ∧ Wd w b base N A cap gc bd M A' cap' gd Y8) := Lib.hid ⟨N, Wr.start N, H8.out⟩
  clear H8
  go_wp2_with fail
  go_loopw [32] (fun t' wr => ∃ i : Nat, i ≤ N.length ∧ t' = .int .i64 (i : Int) ∧ Hid (∃ M, Wr i N M ∧ Wd w b base N A cap gc bd M A' cap' gd wr)) (fun t' _ => N.length - (intOf t').toNat)
  case atStart => exact ⟨0, Nat.zero_le _, rfl, H9⟩
  case round =>
    clear H9 q0
    obtain ⟨i, hi, rfl, H9⟩ := hrel
    obtain ⟨M, hWr, hWd⟩ := H9.out
    have HWr := Lib.hid hWr
    have HW := Lib.hid hWd
    clear H9 hWr hWd
    by_cases hlt : i < N.length
    · have k0 : (0 : Int) ≤ (i : Int) := by omega
      have k1 : (i : Int) < (N.length : Int) := by omega
      obtain ⟨g, rfl⟩ := own_addr HW.out.own (by omega)
      have hiM : i < M.length := by have := HW.out.len; omega
      have hsb := HSp.out _ (List.getElem_mem hlt)
      have hwi := (HWr.out i hlt hiM)
      obtain ⟨a, ha⟩ : ∃ a, M[i].2.2.2.2 = a := ⟨_, rfl⟩
      have hab : 0 ≤ a ∧ a ≤ 12100 := by rw [← ha]; omega
      have HA : Hid (∀ q : i < M.length, (M[i]'q).2.2.2.2 = a) := Lib.hid (fun _ => ha)
      have HIM := Lib.hid hiM
      clear hwi hsb ha hiM
      go_upto_region 8 with fail
      have HS := Lib.hid (show ∀ M' Z', Wd w b base N A cap gc bd M' (some ⟨g, 0, none⟩) cap' gd Z' → Z'.cell? ⟨gd, 0, none⟩ = some (.slice (some ⟨g, 0, none⟩) N.length cap') from fun M' Z' hz => (hz.box.cell 0).trans rfl)
      have HD := Lib.hid (show ∀ W : World, Below W.heap.size W W.drew from fun _ => ⟨rfl, rfl, rfl, Nat.le_refl _, fun _ _ => rfl⟩)
      refine wp_region_held_drew (S := fun Z : World => Z.cell? ⟨gd, 0, none⟩ = some (.slice (some ⟨g, 0, none⟩) N.length cap')) (by kernel_rfl) (HS.out _ _ (HW.out.under (HD.out _))) (fun hHeld => ?_)
      have HW6 := Lib.hid (HW.out.under (HD.out wr))
      clear HW
      generalize wr.drew = X at *
      refine tk 0 (oi := ⟨some 35, _, _, _, _, none⟩) rfl ?_
      try go_frame
      refine tk 1 (oi := ⟨some 36, _, _, _, _, none⟩) rfl ?_
      try go_frame
      refine tk 2 (oi := ⟨some 37, _, _, _, _, none⟩) rfl ?_
      try go_frame
      refine tk 3 (oi := ⟨some 38, _, _, _, _, none⟩) rfl ?_
      try go_frame
      refine tk 4 (oi := ⟨some 39, _, _, _, _, none⟩) rfl ?_
      try go_frame
      refine tk 6 (oi := ⟨some 41, _, _, _, _, none⟩) rfl ?_
      try go_frame
      refine wpAnyH_ready (rs := [5, 7]) (by kernel_rfl) (by simp) ?_
      refine AllReadyH.cons (o := ⟨some 40, _, _, _, _, none⟩) rfl (fun K hK => ?_) (AllReadyH.cons (o := ⟨some 42, _, _, _, _, none⟩) rfl (fun K hK => ?_) AllReadyH.nil)
      · have c3 := (HW6.out.facts HIM.out).1
        rw [HA.out HIM.out] at c3
        go_simp
        refine hK.out _ _ hHeld (fun hHeld => ?_)
        clear hK K c3
        try simp only [Act.put, List.setIfInBounds_toArray, List.set_cons_zero, List.set_cons_succ]
        refine wpAnyH_ready (rs := [7]) (by kernel_rfl) (by simp) ?_
        refine AllReadyH.cons (o := ⟨some 42, _, _, _, _, none⟩) rfl (fun K hK => ?_) AllReadyH.nil
        go_simp
        refine (n_any w b _ _ HW6.out.q.src (by omega) (by omega)).mono ?_
        rintro e w6 ⟨y, ⟨y1, y2⟩, rfl, s6, g6⟩
        go_wp2_with fail
        have HW7 := Lib.hid (HW6.out.step s6 g6)
        clear s6 g6 HW6 hHeld
        refine hK.out _ _ (HS.out _ _ HW7.out) (fun hHeld => ?_)
        clear hK K
        try simp only [Act.put, List.setIfInBounds_toArray, List.set_cons_zero, List.set_cons_succ]
        have y9 : IntKind.i64.wrap (a + y) = a + y := IntWalk.i64_in _ (by omega)
        refine tk 8 (oi := ⟨some 43, _, _, _, _, none⟩) rfl ?_
        try go_frame
        refine tk 9 (oi := ⟨some 44, _, _, _, _, none⟩) rfl ?_
        try go_frame
        refine tk 10 (oi := ⟨some 45, _, _, _, _, none⟩) rfl ?_
        try go_frame
        refine wpAnyH_ready (rs := [11]) (by kernel_rfl) (by simp) ?_
        refine AllReadyH.cons (o := ⟨none, _, _, _, _, none⟩) rfl (fun K hK => ?_) AllReadyH.nil
        obtain ⟨c4, f4⟩ := HW7.out.facts HIM.out
        have hC8 := HW7.out.put HIM.out (a + y)
        have hWs := HWr.out.step hlt HIM.out y1 y2
        rw [HA.out HIM.out] at hWs c4
        have HM : Hid (∃ M, Wr (i + 1) N M ∧ Wd w b base N A cap gc bd M (some ⟨g, 0, none⟩) cap' gd (w6.setCell ⟨g, i * 5 + 4, none⟩ (.int .i64 (a + y)))) := Lib.hid ⟨_, hWs, hC8⟩
        have HS8 := Lib.hid (HS.out _ _ hC8)
        clear hC8 hWs
        go_simp
        refine hK.out _ _ HS8.out (fun hHeld2 => ?_)
        clear hK K hHeld hHeld2 HS8 c4 f4 HW7
        try simp only [Act.put, List.setIfInBounds_toArray, List.set_cons_zero, List.set_cons_succ]
        refine wpAnyH_done (by kernel_rfl) ?_ _
        generalize w6.setCell ⟨g, i * 5 + 4, none⟩ (.int .i64 (a + y)) = w7' at *
        go_wp2_with fail
        go_roundw
        case rel => exact ⟨i + 1, by omega, by go_num, HM⟩
        case measure => simp [intOf]; omega
      · go_simp
        refine (n_any w b _ _ HW6.out.q.src (by omega) (by omega)).mono ?_
        rintro e w6 ⟨y, ⟨y1, y2⟩, rfl, s6, g6⟩
        go_wp2_with fail
        have HW7 := Lib.hid (HW6.out.step s6 g6)
        clear s6 g6 HW6 hHeld
        refine hK.out _ _ (HS.out _ _ HW7.out) (fun hHeld => ?_)
        clear hK K
        try simp only [Act.put, List.setIfInBounds_toArray, List.set_cons_zero, List.set_cons_succ]
        refine wpAnyH_ready (rs := [5]) (by kernel_rfl) (by simp) ?_
        refine AllReadyH.cons (o := ⟨some 40, _, _, _, _, none⟩) rfl (fun K hK => ?_) AllReadyH.nil
        have c3 := (HW7.out.facts HIM.out).1
        rw [HA.out HIM.out] at c3
        go_simp
        refine hK.out _ _ hHeld (fun hHeld => ?_)
        clear hK K c3
        try simp only [Act.put, List.setIfInBounds_toArray, List.set_cons_zero, List.set_cons_succ]
        have y9 : IntKind.i64.wrap (a + y) = a + y := IntWalk.i64_in _ (by omega)
        refine tk 8 (oi := ⟨some 43, _, _, _, _, none⟩) rfl ?_
        try go_frame
        refine tk 9 (oi := ⟨some 44, _, _, _, _, none⟩) rfl ?_
        try go_frame
        refine tk 10 (oi := ⟨some 45, _, _, _, _, none⟩) rfl ?_
        try go_frame
        refine wpAnyH_ready (rs := [11]) (by kernel_rfl) (by simp) ?_
        refine AllReadyH.cons (o := ⟨none, _, _, _, _, none⟩) rfl (fun K hK => ?_) AllReadyH.nil
        obtain ⟨c4, f4⟩ := HW7.out.facts HIM.out
        have hC8 := HW7.out.put HIM.out (a + y)
        have hWs := HWr.out.step hlt HIM.out y1 y2
        rw [HA.out HIM.out] at hWs c4
        have HM : Hid (∃ M, Wr (i + 1) N M ∧ Wd w b base N A cap gc bd M (some ⟨g, 0, none⟩) cap' gd (w6.setCell ⟨g, i * 5 + 4, none⟩ (.int .i64 (a + y)))) := Lib.hid ⟨_, hWs, hC8⟩
        have HS8 := Lib.hid (HS.out _ _ hC8)
        clear hC8 hWs
        go_simp
        refine hK.out _ _ HS8.out (fun hHeld2 => ?_)
        clear hK K hHeld hHeld2 HS8 c4 f4 HW7
        try simp only [Act.put, List.setIfInBounds_toArray, List.set_cons_zero, List.set_cons_succ]
        refine wpAnyH_done (by kernel_rfl) ?_ _
        generalize w6.setCell ⟨g, i * 5 + 4, none⟩ (.int .i64 (a + y)) = w7' at *
        go_wp2_with fail
        go_roundw
        case rel => exact ⟨i + 1, by omega, by go_num, HM⟩
        case measure => simp [intOf]; omega
    · obtain rfl : i = N.length := by omega
      have k1 : ¬ (N.length : Int) < (N.length : Int) := by omega
      have HVM := Lib.hid (HWr.out.vld HW.out.len HV.out HSp.out)
      have HML := Lib.hid HW.out.len
      have H10 := Lib.hid HW.out
      clear HW
      go_wp2_with fail
      go_loopw [8] (fun t' wr => ∃ i : Nat, i ≤ 4 ∧ t' = .int .i64 (i : Int) ∧ Hid (Wd w b base N A cap gc bd M A' cap' gd wr)) (fun t' _ => 4 - (intOf t').toNat)
      case atStart => exact ⟨0, Nat.zero_le _, rfl, H10⟩
      case round =>
        clear H10
        obtain ⟨i, hi, rfl, H10⟩ := hrel
        by_cases hlt : i < 4
        · have k0 : (i : Int) < 4 := by omega
          go_wp2_with fail
          refine (report_any w b _ m H10.out.q.src m1 m2).mono ?_
          rintro e w5 ⟨k, nm, t, F0, B0, C0, D0, u, L, hvd, -, rfl, hgl⟩
          have hb4 := src_lt H10.out.q.src
          have H5 := H10.out.step hgl.src hgl.gro
          have ho5 := hgl.own
          have hs5 := hgl.src
          obtain ⟨bu, hbu⟩ : ∃ g, wr.heap.size = g := ⟨_, rfl⟩
          rw [hbu] at ho5 hb4
          have b6 := (Below.refl w5.heap.size w5).alloc (Nat.le_refl _) (.cells (repC k nm t F0 B0 C0 D0 u) 38)
          have H6 : Hid (Wn w b base N A cap gc bd M A' cap' gd w5.heap.size bu (repC k nm t F0 B0 C0 D0 u) u L (w5.alloc (.cells (repC k nm t F0 B0 C0 D0 u) 38))) := Lib.hid ⟨H5.under b6, Row.new _ _ _, El.own_under ho5 b6, src_lt hs5, hb4⟩
          have HL0 := Lib.hid hvd.list
          have HT0 := Lib.hid hvd.time
          obtain ⟨U, cu, rfl⟩ := row_form ho5
          clear hgl H10 H5 ho5 hs5 b6 hvd hbu hb4
          go_upto_region 14 with fail
          refine forget (fun Y => Hid (Wn w b base N A cap gc bd M A' cap' gd w5.heap.size bu (repC k nm t F0 B0 C0 D0 (.slice U L.length cu)) (.slice U L.length cu) L Y)) H6 ?_
          clear H6
          generalize w5.heap.size = gp at *
          rintro Y5 H6
          go_wp2_with fail
          refine (place_any w b _ H6.out.wd.q.src).mono ?_
          rintro e w7 ⟨F, P, Q, R, hn, rfl, s7, g7⟩
          obtain ⟨f, rfl, hvl⟩ := nrm_vld hn
          have H7 := H6.out.step s7 g7
          have f3 := H7.rp.thaw 3
          have f4 := H7.rp.thaw 4
          have f5 := H7.rp.thaw 5
          have f6 := H7.rp.thaw 6
          obtain ⟨q0, q1, q2, q3, q4, q5, q6, q7⟩ := row8 H7.rp
          have H8 := Lib.hid (H7.place (f : Int) P Q R)
          have HPV := Lib.hid (Pl.vb_of hvl)
          clear H6 s7 g7 hn hvl H7
          go_upto_region 15 with fail
          refine forget (fun Y => Hid (Wn w b base N A cap gc bd M A' cap' gd gp bu (repC k nm t f P Q R (.slice U L.length cu)) (.slice U L.length cu) L Y)) H8 ?_
          clear H8 f3 f4 f5 f6 q0 q1 q2 q3 q4 q5 q6 q7
          rintro Y8 H8
          have z0 := (H8.out.wd.q.box.cell 0).trans rfl
          by_cases hN0 : 0 < N.length
          · have kN : (0 : Int) < (N.length : Int) := by omega
            go_upto_region 16 with fail
            clear z0
            obtain ⟨ga, rfl⟩ := own_addr H8.out.wd.q.own hN0
            go_cut [10] from 61 to 69 (fun pp X => ∃ (gn : Nat) (n1 n2 n3 n4 n5 : Int), pp = .pointer (some ⟨gn, 0, none⟩) ∧ Hid ((0 ≤ n2 ∧ n2 < 20) ∧ Wn w b base N (some ⟨ga, 0, none⟩) cap gc bd M A' cap' gd gp bu (repC k nm t f P Q R (.slice U L.length cu)) (.slice U L.length cu) L X ∧ Row X gn 50 #[.int .i64 n1, .int .i64 n2, .int .i64 n3, .int .i64 n4, .int .i64 n5]))
            case first =>
              have HS := Lib.hid (show ∀ Z, Wn w b base N (some ⟨ga, 0, none⟩) cap gc bd M A' cap' gd gp bu (repC k nm t f P Q R (.slice U L.length cu)) (.slice U L.length cu) L Z → Z.cell? ⟨gc, 0, none⟩ = some (.slice (some ⟨ga, 0, none⟩) N.length cap) ∧ ∀ i, ∀ h : i < N.length, Z.cell? ⟨ga, i * 5, none⟩ = some (.int .i64 N[i].1) ∧ Z.cell? ⟨ga, i * 5 + 1, none⟩ = some (.int .i64 N[i].2.1) ∧ Z.cell? ⟨ga, i * 5 + 2, none⟩ = some (.int .i64 N[i].2.2.1) ∧ Z.cell? ⟨ga, i * 5 + 3, none⟩ = some (.int .i64 N[i].2.2.2.1) ∧ Z.cell? ⟨ga, i * 5 + 4, none⟩ = some (.int .i64 N[i].2.2.2.2) from fun Z hz => ⟨(hz.wd.q.box.cell 0).trans rfl, fun i h => by
                have ho := hz.wd.q.own
                refine ⟨?_, ?_, ?_, ?_, ?_⟩
                · have e := ho.cellAt (i * 5) (by omega)
                  have e2 := nrc_at N i h 0 (by omega)
                  rw [Nat.add_zero] at e2
                  rw [e, e2]; rfl
                · rw [ho.cellAt _ (by omega), nrc_at N i h 1 (by omega)]; rfl
                · rw [ho.cellAt _ (by omega), nrc_at N i h 2 (by omega)]; rfl
                · rw [ho.cellAt _ (by omega), nrc_at N i h 3 (by omega)]; rfl
                · rw [ho.cellAt _ (by omega), nrc_at N i h 4 (by omega)]; rfl⟩)
              have HD := Lib.hid (show ∀ W : World, Below W.heap.size W W.drew from fun _ => ⟨rfl, rfl, rfl, Nat.le_refl _, fun _ _ => rfl⟩)
              refine wp_region_held_drew (S := fun Z : World => Z.cell? ⟨gc, 0, none⟩ = some (.slice (some ⟨ga, 0, none⟩) N.length cap) ∧ ∀ i, ∀ h : i < N.length, Z.cell? ⟨ga, i * 5, none⟩ = some (.int .i64 N[i].1) ∧ Z.cell? ⟨ga, i * 5 + 1, none⟩ = some (.int .i64 N[i].2.1) ∧ Z.cell? ⟨ga, i * 5 + 2, none⟩ = some (.int .i64 N[i].2.2.1) ∧ Z.cell? ⟨ga, i * 5 + 3, none⟩ = some (.int .i64 N[i].2.2.2.1) ∧ Z.cell? ⟨ga, i * 5 + 4, none⟩ = some (.int .i64 N[i].2.2.2.2)) (by kernel_rfl) (HS.out _ (H8.out.under (HD.out _))) (fun hHeld => ?_)
              have HW6 := Lib.hid (H8.out.under (HD.out Y8))
              clear H8
              generalize Y8.drew = X at *
              refine tk 0 (oi := ⟨some 61, _, _, _, _, none⟩) rfl ?_
              try go_frame
              refine tk 1 (oi := ⟨some 62, _, _, _, _, none⟩) rfl ?_
              try go_frame
              refine tk 2 (oi := ⟨some 63, _, _, _, _, none⟩) rfl ?_
              try go_frame
              refine tk 3 (oi := ⟨some 64, _, _, _, _, none⟩) rfl ?_
              try go_frame
              refine tk 4 (oi := ⟨some 65, _, _, _, _, none⟩) rfl ?_
              try go_frame
              refine tk 5 (oi := ⟨some 66, _, _, _, _, none⟩) rfl ?_
              try go_frame
              refine wpAnyH_ready (rs := [6, 9]) (by kernel_rfl) (by simp) ?_
              refine AllReadyH.cons (o := ⟨some 67, _, _, _, _, none⟩) rfl (fun K hK => ?_) (AllReadyH.cons (o := ⟨some 10, _, _, _, _, none⟩) rfl (fun K hK => ?_) AllReadyH.nil)
              · go_simp
                refine (n_any w b _ _ HW6.out.wd.q.src (by omega) (by omega)).mono ?_
                rintro e X2 ⟨x, ⟨x1, x2⟩, rfl, s6, g6⟩
                go_wp2_with fail
                have HW7 := Lib.hid (HW6.out.step s6 g6)
                clear s6 g6 HW6 hHeld
                refine hK.out _ _ (HS.out _ HW7.out) (fun hHeld => ?_)
                clear hK K
                try simp only [Act.put, List.setIfInBounds_toArray, List.set_cons_zero, List.set_cons_succ]
                obtain ⟨j, rfl⟩ := Int.eq_ofNat_of_zero_le x1
                have hjN : j < N.length := by omega
                have hf2 := HFc.out _ (List.getElem_mem hjN)
                obtain ⟨nj, hnj⟩ : ∃ nj, N[j] = nj := ⟨_, rfl⟩
                rw [hnj] at hf2
                obtain ⟨n1, n2, n3, n4, n5⟩ := nj
                dsimp only at hf2
                refine tk 7 (oi := ⟨some 68, _, _, _, _, none⟩) rfl ?_
                try go_frame
                refine tk 8 (oi := ⟨some 69, _, _, _, _, none⟩) (v := .agg #[.int .i64 n1, .int .i64 n2, .int .i64 n3, .int .i64 n4, .int .i64 n5]) rfl ?_ (hy := fun wx hSx => by
                  have c := hSx.2 j hjN
                  rw [hnj] at c
                  obtain ⟨c0, c1, c2, c3, c4⟩ := c
                  go_simp
                  first | done | with_reducible rfl)
                try go_frame
                clear hnj hjN
                refine wpAnyH_ready (rs := [9]) (by kernel_rfl) (by simp) ?_
                refine AllReadyH.cons (o := ⟨some 10, _, _, _, _, none⟩) rfl (fun K hK => ?_) AllReadyH.nil
                have HG : Hid (Wn w b base N (some ⟨ga, 0, none⟩) cap gc bd M A' cap' gd gp bu (repC k nm t f P Q R (.slice U L.length cu)) (.slice U L.length cu) L (X2.alloc (.cells #[.int .i64 0, .int .i64 0, .int .i64 0, .int .i64 0, .int .i64 0] 50)) ∧ Row (X2.alloc (.cells #[.int .i64 0, .int .i64 0, .int .i64 0, .int .i64 0, .int .i64 0] 50)) X2.heap.size 50 #[.int .i64 0, .int .i64 0, .int .i64 0, .int .i64 0, .int .i64 0]) := Lib.hid ⟨HW7.out.under ((Below.refl _ _).alloc (Nat.le_refl _) _), Row.new _ _ _⟩
                have HNF : Hid ((Value.slice (some ⟨ga, 0, none⟩) N.length cap).ownBlock ≠ some X2.heap.size ∧ (Value.slice A' N.length cap').ownBlock ≠ some X2.heap.size ∧ b < X2.heap.size) := Lib.hid ⟨fun e => by have := row_size HW7.out.wd.q.own e; omega, fun e => by have := row_size HW7.out.wd.own e; omega, src_lt HW7.out.wd.q.src⟩
                go_simp
                refine hK.out _ _ (HS.out _ HG.out.1) (fun hHeld2 => ?_)
                clear hK K hHeld HW7
                try simp only [Act.put, List.setIfInBounds_toArray, List.set_cons_zero, List.set_cons_succ]
                generalize X2.heap.size = gn at *
                generalize X2.alloc (.cells #[.int .i64 0, .int .i64 0, .int .i64 0, .int .i64 0, .int .i64 0] 50) = X3 at *
                have hHeld := hHeld2
                refine wpAnyH_ready (rs := [10]) (by kernel_rfl) (by simp) ?_
                refine AllReadyH.cons (o := ⟨none, _, _, _, _, none⟩) rfl (fun K hK => ?_) AllReadyH.nil
                have f0 := HG.out.2.thaw 0
                have f1 := HG.out.2.thaw 1
                have f2 := HG.out.2.thaw 2
                have f3 := HG.out.2.thaw 3
                have f4 := HG.out.2.thaw 4
                obtain ⟨y0, y1, y2, y3, y4⟩ := row5 HG.out.2
                have hX := HG.out.1.nrm HG.out.2 HNF.out.1 HNF.out.2.1 HNF.out.2.2 (.int .i64 n1) (.int .i64 n2) (.int .i64 n3) (.int .i64 n4) (.int .i64 n5)
                have HX := Lib.hid hX
                have HS9 := Lib.hid (HS.out _ hX.1)
                clear hX
                go_simp
                refine hK.out _ _ HS9.out (fun hHeld2 => ?_)
                clear hK K hHeld hHeld2 HS9 f0 f1 f2 f3 f4 y0 y1 y2 y3 y4 HG
                try simp only [Act.put, List.setIfInBounds_toArray, List.set_cons_zero, List.set_cons_succ]
                refine wpAnyH_done (by kernel_rfl) ?_ _
                go_wp2_with fail
                go_meet
                exact ⟨gn, n1, n2, n3, n4, n5, rfl, Lib.hid ⟨hf2, HX.out⟩⟩
              · have HG : Hid (Wn w b base N (some ⟨ga, 0, none⟩) cap gc bd M A' cap' gd gp bu (repC k nm t f P Q R (.slice U L.length cu)) (.slice U L.length cu) L (X.alloc (.cells #[.int .i64 0, .int .i64 0, .int .i64 0, .int .i64 0, .int .i64 0] 50)) ∧ Row (X.alloc (.cells #[.int .i64 0, .int .i64 0, .int .i64 0, .int .i64 0, .int .i64 0] 50)) X.heap.size 50 #[.int .i64 0, .int .i64 0, .int .i64 0, .int .i64 0, .int .i64 0]) := Lib.hid ⟨HW6.out.under ((Below.refl _ _).alloc (Nat.le_refl _) _), Row.new _ _ _⟩
                have HNF : Hid ((Value.slice (some ⟨ga, 0, none⟩) N.length cap).ownBlock ≠ some X.heap.size ∧ (Value.slice A' N.length cap').ownBlock ≠ some X.heap.size ∧ b < X.heap.size) := Lib.hid ⟨fun e => by have := row_size HW6.out.wd.q.own e; omega, fun e => by have := row_size HW6.out.wd.own e; omega, src_lt HW6.out.wd.q.src⟩
                go_simp
                refine hK.out _ _ (HS.out _ HG.out.1) (fun hHeld2 => ?_)
                clear hK K hHeld HW6
                try simp only [Act.put, List.setIfInBounds_toArray, List.set_cons_zero, List.set_cons_succ]
                generalize X.heap.size = gn at *
                generalize X.alloc (.cells #[.int .i64 0, .int .i64 0, .int .i64 0, .int .i64 0, .int .i64 0] 50) = X1 at *
                refine wpAnyH_ready (rs := [6]) (by kernel_rfl) (by simp) ?_
                refine AllReadyH.cons (o := ⟨some 67, _, _, _, _, none⟩) rfl (fun K hK => ?_) AllReadyH.nil
                go_simp
                refine (n_any w b _ _ HG.out.1.wd.q.src (by omega) (by omega)).mono ?_
                rintro e X2 ⟨x, ⟨x1, x2⟩, rfl, s6, g6⟩
                go_wp2_with fail
                have HG2 := Lib.hid (And.intro (HG.out.1.step s6 g6) (HG.out.2.grown g6 (fun e => by injection e with e; have := HNF.out.2.2; omega)))
                clear s6 g6 HG
                have HG := HG2
                clear HG2
                refine hK.out _ _ (HS.out _ HG.out.1) (fun hHeld => ?_)
                clear hK K hHeld2
                try simp only [Act.put, List.setIfInBounds_toArray, List.set_cons_zero, List.set_cons_succ]
                obtain ⟨j, rfl⟩ := Int.eq_ofNat_of_zero_le x1
                have hjN : j < N.length := by omega
                have hf2 := HFc.out _ (List.getElem_mem hjN)
                obtain ⟨nj, hnj⟩ : ∃ nj, N[j] = nj := ⟨_, rfl⟩
                rw [hnj] at hf2
                obtain ⟨n1, n2, n3, n4, n5⟩ := nj
                dsimp only at hf2
                refine tk 7 (oi := ⟨some 68, _, _, _, _, none⟩) rfl ?_
                try go_frame
                refine tk 8 (oi := ⟨some 69, _, _, _, _, none⟩) (v := .agg #[.int .i64 n1, .int .i64 n2, .int .i64 n3, .int .i64 n4, .int .i64 n5]) rfl ?_ (hy := fun wx hSx => by
                  have c := hSx.2 j hjN
                  rw [hnj] at c
                  obtain ⟨c0, c1, c2, c3, c4⟩ := c
                  go_simp
                  first | done | with_reducible rfl)
                try go_frame
                clear hnj hjN
                refine wpAnyH_ready (rs := [10]) (by kernel_rfl) (by simp) ?_
                refine AllReadyH.cons (o := ⟨none, _, _, _, _, none⟩) rfl (fun K hK => ?_) AllReadyH.nil
                have f0 := HG.out.2.thaw 0
                have f1 := HG.out.2.thaw 1
                have f2 := HG.out.2.thaw 2
                have f3 := HG.out.2.thaw 3
                have f4 := HG.out.2.thaw 4
                obtain ⟨y0, y1, y2, y3, y4⟩ := row5 HG.out.2
                have hX := HG.out.1.nrm HG.out.2 HNF.out.1 HNF.out.2.1 HNF.out.2.2 (.int .i64 n1) (.int .i64 n2) (.int .i64 n3) (.int .i64 n4) (.int .i64 n5)
                have HX := Lib.hid hX
                have HS9 := Lib.hid (HS.out _ hX.1)
                clear hX
                go_simp
                refine hK.out _ _ HS9.out (fun hHeld2 => ?_)
                clear hK K hHeld hHeld2 HS9 f0 f1 f2 f3 f4 y0 y1 y2 y3 y4 HG
                try simp only [Act.put, List.setIfInBounds_toArray, List.set_cons_zero, List.set_cons_succ]
                refine wpAnyH_done (by kernel_rfl) ?_ _
                go_wp2_with fail
                go_meet
                exact ⟨gn, n1, n2, n3, n4, n5, rfl, Lib.hid ⟨hf2, HX.out⟩⟩
            case rest =>
              obtain ⟨gn, n1, n2, n3, n4, n5, rfl, HR⟩ := hcut
              have hf2 := HR.out.1
              have f3 := HR.out.2.1.rp.thaw 3
              have f4 := HR.out.2.1.rp.thaw 4
              have f5 := HR.out.2.1.rp.thaw 5
              have f6 := HR.out.2.1.rp.thaw 6
              obtain ⟨q0, q1, q2, q3, q4, q5, q6, q7⟩ := row8 HR.out.2.1.rp
              obtain ⟨x0, x1, x2, x3, x4⟩ := row5 HR.out.2.2
              have H9 := Lib.hid (HR.out.2.1.place n2 280 280 280)
              clear HPV
              have HPV : Hid (Pl.vb n2 280 280 280 = true) := Lib.hid (by
                obtain ⟨q, rfl⟩ := Int.eq_ofNat_of_zero_le hf2.1
                exact Pl.vb_of (f := q) ⟨by omega, by omega, by omega, by omega, by omega, by omega, by omega, by omega⟩)
              clear HR H8
              go_upto_region 18 with fail
              refine forget (fun Y => Hid (Wn w b base N (some ⟨ga, 0, none⟩) cap gc bd M A' cap' gd gp bu (repC k nm t n2 280 280 280 (.slice U L.length cu)) (.slice U L.length cu) L Y)) H9 ?_
              clear H9 f3 f4 f5 f6 q0 q1 q2 q3 q4 q5 q6 q7 x0 x1 x2 x3 x4 Y8
              rintro Y8 H8
              have HFM : Hid ((fam n2 280 280 280 t).2.2 = 0) := Lib.hid (fam_any0 HPV.out (by unfold Ck.Cal.rng; simpa using HT0.out))
              have HCk := checkS_any _ N k nm t n2 280 280 280 _ L Y8 (NrIn.own H8.out.wd.q.own) (El.RdIn.own H8.out.rd) (HE.out.under H8.out.wd.q.src.below)
              have hz : valS N L (fam n2 280 280 280 t) = 0 := by unfold valS; rw [if_pos HV.out, if_pos HL0.out]; exact HFM.out
              have hj : chkJ N L (fam n2 280 280 280 t) = rejL N (fam n2 280 280 280 t).1 (fam n2 280 280 280 t).2.1 L := by unfold chkJ; rw [if_pos hz]
              rw [hz, hj] at HCk
              have HCC := Lib.hid HCk
              have hz2 : valS M L (fam n2 280 280 280 t) = 0 := by unfold valS; rw [if_pos HVM.out, if_pos HL0.out]; exact HFM.out
              have hj2 : chkJ M L (fam n2 280 280 280 t) = rejL M (fam n2 280 280 280 t).1 (fam n2 280 280 280 t).2.1 L := by unfold chkJ; rw [if_pos hz2]
              have HCD : Hid (∀ X : World, Wn w b base N (some ⟨ga, 0, none⟩) cap gc bd M A' cap' gd gp bu (repC k nm t n2 280 280 280 (.slice U L.length cu)) (.slice U L.length cu) L X → Calls Tryd.prog 38 #[clV (.slice A' N.length cap'), repV k nm t n2 280 280 280 (.slice U L.length cu)] X (ChkS X 0 (rejL M (fam n2 280 280 280 t).1 (fam n2 280 280 280 t).2.1 L))) := Lib.hid (fun X hX => by
                have hc := checkS_any (.slice A' N.length cap') M k nm t n2 280 280 280 _ L X hX.wd.nr (El.RdIn.own hX.rd) (HE.out.under hX.wd.q.src.below)
                rw [hz2, hj2] at hc
                exact hc)
              have HSb := Lib.hid (fun c (hc : c ∈ rejL M (fam n2 280 280 280 t).1 (fam n2 280 280 280 t).2.1 L) => HWr.out.sub HML.out HV.out hc)
              have hl1 := Nat.le_trans (rejL_len M (fam n2 280 280 280 t).1 (fam n2 280 280 280 t).2.1 L) (asc_le HL0.out (vld_asc HL0.out))
              clear HCk hz hj hz2 hj2 HFM
              generalize rejL N (fam n2 280 280 280 t).1 (fam n2 280 280 280 t).2.1 L = J1 at *
              generalize rejL M (fam n2 280 280 280 t).1 (fam n2 280 280 280 t).2.1 L = J2 at *
              have q8 := (H8.out.wd.q.box.cell 0).trans rfl
              obtain ⟨q0, q1, q2, q3, q4, q5, q6, q7⟩ := row8 H8.out.rp
              go_wp2_with fail
              refine HCC.out.mono ?_
              rintro e w9 ⟨o1, rfl, g9, ho1⟩
              obtain ⟨B1, d1, rfl⟩ := row_form ho1
              have H9 := Lib.hid (And.intro (H8.out.under g9) (NmIn.own ho1))
              clear H8 g9 ho1 HCC q0 q1 q2 q3 q4 q5 q6 q7 q8
              have q8 := (H9.out.1.wd.box.cell 0).trans rfl
              obtain ⟨q0, q1, q2, q3, q4, q5, q6, q7⟩ := row8 H9.out.1.rp
              go_wp2_with fail
              refine (HCD.out _ H9.out.1).mono ?_
              rintro e w10 ⟨o2, rfl, g10, ho2⟩
              obtain ⟨B2, d2, rfl⟩ := row_form ho2
              have H10 := Lib.hid (And.intro (H9.out.1.under g10) (And.intro (El.NmIn.under H9.out.2 g10) (NmIn.own ho2)))
              clear H9 g10 ho2 HCD q0 q1 q2 q3 q4 q5 q6 q7 q8
              go_wp2_with fail
              go_loopw [100] (fun t' wr => ∃ j : Nat, j ≤ J2.length ∧ t' = .int .i64 (j : Int) ∧ Hid (Wn w b base N (some ⟨ga, 0, none⟩) cap gc bd M A' cap' gd gp bu (repC k nm t n2 280 280 280 (.slice U L.length cu)) (.slice U L.length cu) L wr ∧ El.NmIn wr (.slice B1 J1.length d1) J1 ∧ El.NmIn wr (.slice B2 J2.length d2) J2)) (fun t' _ => J2.length - (intOf t').toNat)
              case atStart => exact ⟨0, Nat.zero_le _, rfl, H10⟩
              case round =>
                clear H10
                obtain ⟨j, hj, rfl, H10⟩ := hrel
                by_cases hjl : j < J2.length
                · obtain ⟨g2, o2, hB2, -, x0⟩ := NmIn.at H10.out.2.2 hjl
                  subst hB2
                  have j0 : (0 : Int) ≤ (j : Int) := by omega
                  have j1 : (j : Int) < (J2.length : Int) := by omega
                  have HIn := in_any (.slice B1 J1.length d1) J1 J2[j] wr H10.out.2.1
                  rw [HSb.out _ (List.getElem_mem hjl)] at HIn
                  generalize J2[j] = c at *
                  have HI := Lib.hid HIn
                  clear HIn
                  go_wp2_with fail
                  refine HI.out.mono ?_
                  rintro e w11 ⟨rfl, rfl⟩
                  go_wp2_with fail
                  go_roundw
                  case rel => exact ⟨j + 1, by omega, by go_num, H10⟩
                  case measure => simp [intOf]; omega
                · obtain rfl : j = J2.length := by omega
                  have j1 : ¬ (J2.length : Int) < (J2.length : Int) := by omega
                  have H11 := Lib.hid H10.out.1.wd
                  clear H10
                  go_wp2_with fail
                  go_roundw
                  case rel => exact ⟨i + 1, by omega, by go_num, H11⟩
                  case measure => simp [intOf]; omega
          · have kN : ¬ (0 : Int) < (N.length : Int) := by omega
            go_upto_region 18 with fail
            clear z0
            have HFM : Hid ((fam (f : Int) P Q R t).2.2 = 0) := Lib.hid (fam_any0 HPV.out (by unfold Ck.Cal.rng; simpa using HT0.out))
            have HCk := checkS_any _ N k nm t (f : Int) P Q R _ L Y8 (NrIn.own H8.out.wd.q.own) (El.RdIn.own H8.out.rd) (HE.out.under H8.out.wd.q.src.below)
            have hz : valS N L (fam (f : Int) P Q R t) = 0 := by unfold valS; rw [if_pos HV.out, if_pos HL0.out]; exact HFM.out
            have hj : chkJ N L (fam (f : Int) P Q R t) = rejL N (fam (f : Int) P Q R t).1 (fam (f : Int) P Q R t).2.1 L := by unfold chkJ; rw [if_pos hz]
            rw [hz, hj] at HCk
            have HCC := Lib.hid HCk
            have hz2 : valS M L (fam (f : Int) P Q R t) = 0 := by unfold valS; rw [if_pos HVM.out, if_pos HL0.out]; exact HFM.out
            have hj2 : chkJ M L (fam (f : Int) P Q R t) = rejL M (fam (f : Int) P Q R t).1 (fam (f : Int) P Q R t).2.1 L := by unfold chkJ; rw [if_pos hz2]
            have HCD : Hid (∀ X : World, Wn w b base N A cap gc bd M A' cap' gd gp bu (repC k nm t (f : Int) P Q R (.slice U L.length cu)) (.slice U L.length cu) L X → Calls Tryd.prog 38 #[clV (.slice A' N.length cap'), repV k nm t (f : Int) P Q R (.slice U L.length cu)] X (ChkS X 0 (rejL M (fam (f : Int) P Q R t).1 (fam (f : Int) P Q R t).2.1 L))) := Lib.hid (fun X hX => by
              have hc := checkS_any (.slice A' N.length cap') M k nm t (f : Int) P Q R _ L X hX.wd.nr (El.RdIn.own hX.rd) (HE.out.under hX.wd.q.src.below)
              rw [hz2, hj2] at hc
              exact hc)
            have HSb := Lib.hid (fun c (hc : c ∈ rejL M (fam (f : Int) P Q R t).1 (fam (f : Int) P Q R t).2.1 L) => HWr.out.sub HML.out HV.out hc)
            have hl1 := Nat.le_trans (rejL_len M (fam (f : Int) P Q R t).1 (fam (f : Int) P Q R t).2.1 L) (asc_le HL0.out (vld_asc HL0.out))
            clear HCk hz hj hz2 hj2 HFM
            generalize rejL N (fam (f : Int) P Q R t).1 (fam (f : Int) P Q R t).2.1 L = J1 at *
            generalize rejL M (fam (f : Int) P Q R t).1 (fam (f : Int) P Q R t).2.1 L = J2 at *
            have q8 := (H8.out.wd.q.box.cell 0).trans rfl
            obtain ⟨q0, q1, q2, q3, q4, q5, q6, q7⟩ := row8 H8.out.rp
            go_wp2_with fail
            refine HCC.out.mono ?_
            rintro e w9 ⟨o1, rfl, g9, ho1⟩
            obtain ⟨B1, d1, rfl⟩ := row_form ho1
            have H9 := Lib.hid (And.intro (H8.out.under g9) (NmIn.own ho1))
            clear H8 g9 ho1 HCC q0 q1 q2 q3 q4 q5 q6 q7 q8
            have q8 := (H9.out.1.wd.box.cell 0).trans rfl
            obtain ⟨q0, q1, q2, q3, q4, q5, q6, q7⟩ := row8 H9.out.1.rp
            go_wp2_with fail
            refine (HCD.out _ H9.out.1).mono ?_
            rintro e w10 ⟨o2, rfl, g10, ho2⟩
            obtain ⟨B2, d2, rfl⟩ := row_form ho2
            have H10 := Lib.hid (And.intro (H9.out.1.under g10) (And.intro (El.NmIn.under H9.out.2 g10) (NmIn.own ho2)))
            clear H9 g10 ho2 HCD q0 q1 q2 q3 q4 q5 q6 q7 q8
            go_wp2_with fail
            go_loopw [100] (fun t' wr => ∃ j : Nat, j ≤ J2.length ∧ t' = .int .i64 (j : Int) ∧ Hid (Wn w b base N A cap gc bd M A' cap' gd gp bu (repC k nm t (f : Int) P Q R (.slice U L.length cu)) (.slice U L.length cu) L wr ∧ El.NmIn wr (.slice B1 J1.length d1) J1 ∧ El.NmIn wr (.slice B2 J2.length d2) J2)) (fun t' _ => J2.length - (intOf t').toNat)
            case atStart => exact ⟨0, Nat.zero_le _, rfl, H10⟩
            case round =>
              clear H10
              obtain ⟨j, hj, rfl, H10⟩ := hrel
              by_cases hjl : j < J2.length
              · obtain ⟨g2, o2, hB2, -, x0⟩ := NmIn.at H10.out.2.2 hjl
                subst hB2
                have j0 : (0 : Int) ≤ (j : Int) := by omega
                have j1 : (j : Int) < (J2.length : Int) := by omega
                have HIn := in_any (.slice B1 J1.length d1) J1 J2[j] wr H10.out.2.1
                rw [HSb.out _ (List.getElem_mem hjl)] at HIn
                generalize J2[j] = c at *
                have HI := Lib.hid HIn
                clear HIn
                go_wp2_with fail
                refine HI.out.mono ?_
                rintro e w11 ⟨rfl, rfl⟩
                go_wp2_with fail
                go_roundw
                case rel => exact ⟨j + 1, by omega, by go_num, H10⟩
                case measure => simp [intOf]; omega
              · obtain rfl : j = J2.length := by omega
                have j1 : ¬ (J2.length : Int) < (J2.length : Int) := by omega
                have H11 := Lib.hid H10.out.1.wd
                clear H10
                go_wp2_with fail
                go_roundw
                case rel => exact ⟨i + 1, by omega, by go_num, H11⟩
                case measure => simp [intOf]; omega
        · obtain rfl : i = 4 := by omega
          have k0 : ¬ ((4 : Nat) : Int) < 4 := by omega
          go_wp2_with fail
          refine (awake15 wr (HE.out.under H10.out.q.src.below)).mono ?_
          rintro e w9 ⟨rfl, g9⟩
          have HB2 := Lib.hid (H10.out.q.src.below.trans (g9.mono H10.out.q.src.below.size))
          clear g9
          go_wp2_with fail
          go_ret
          exact ⟨rfl, HB2.out⟩
end Go.Proofs.YtcheadbhkbbegaaDoor
