/- Texts of this proof. -/
import Derived.Test.YtcheadbhkbbegaaDoorCmP
import Derived.Test.YtcheadbhkbbegaaDoorQao
import Derived.DeepKeys4
import Derived.Maps.OwnSet
import Derived.Maps.RangeWalk
namespace Go.Proofs.YtcheadbhkbbegaaDoor
open Go.RowKit

theorem fam_at {f : Nat} {A B C t M : Int} (hv : Pl.Ico.Vld f A B C) (ht : Ck.Cal.rng t = true) (hm : mth t = M) : fam f A B C t = (((Pl.Ico.nf f A B C : Nat) : Int), M, 0) := by
  unfold fam
  rw [if_pos ⟨Pl.vb_of hv, ht⟩, hm]
  rfl
theorem fam_on {f g : Nat} {A B C t M : Int} (hv : Pl.Ico.Vld f A B C) (hg : g ∈ Pl.Ico.fcs f A B C 20) (ht : Ck.Cal.rng t = true) (hm : mth t = M) :
    fam g (Pl.Ico.wt f A B C (Pl.Ico.cor g 0)) (Pl.Ico.wt f A B C (Pl.Ico.cor g 1)) (Pl.Ico.wt f A B C (Pl.Ico.cor g 2)) t = (((Pl.Ico.nf f A B C : Nat) : Int), M, 0) := by
  obtain ⟨h1, h2⟩ := Pl.Ico.mem_fcs.1 hg
  rw [fam_at (Pl.Ico.vld_on hv h1 h2) ht hm, Pl.Ico.nf_same (Pl.Ico.wt_on hv h1 h2)]
theorem first_vld {y m d h i : Int} (hv : Ck.Cal.vld y m d h i = true) : Ck.Cal.vld y m 1 0 0 = true := by
  obtain ⟨h1, h2, h3, h4⟩ := Ck.Cal.vld_iff.1 hv
  exact Ck.Cal.vld_iff.2 ⟨h1, by omega, by omega, by omega, by omega, by omega, by omega⟩
theorem rng_vld {y m d h i : Int} (hv : Ck.Cal.vld y m d h i = true) : Ck.Cal.rng (Ck.Cal.num y m d h i) = true := by
  have := Ck.Cal.num_bd hv
  unfold Ck.Cal.rng; simpa using this
theorem own_at {w : World} {base n cap g : Nat} {N : List Cm.N5} (h : w.ownsRow base 50 5 (.slice (some ⟨g, 0, none⟩) n cap) N.length (nrc N)) (hn : N.length = n) {i : Nat} (hi : i < N.length) : w.cell? ⟨g, i * 5 + 1, none⟩ = some (.int .i64 N[i].2.1) := by
  subst hn
  rw [h.cellAt _ (by omega), nrc_at N i hi 1 (by omega)]; rfl
/-- What is known while the law draws. -/
structure Pq (W : World) (b base : Nat) (N : List Cm.N5) (v : Value) (gc : Nat) (Y : World) : Prop where
  src : Src W b Y
  own : Y.ownsRow base 50 5 v N.length (nrc N)
  box : Row Y gc 24 #[v]
  hb : b < base
  hc : b < gc
section
variable {W Y Y' : World} {b base gc gp : Nat} {N : List Cm.N5} {v : Value} {cs : Array Value}
theorem Pq.step (h : Pq W b base N v gc Y) (hs : Src W b Y') (hg : Y.grownBy Y' (some b)) : Pq W b base N v gc Y' :=
  ⟨hs, own_heap h.own (fun i hi => hg.block i (row_size h.own hi) (fun e => by injection e with e; have := row_base h.own hi; have := h.hb; omega)),
    h.box.grown hg (fun e => by injection e with e; have := h.hc; omega), h.hb, h.hc⟩
theorem Pq.under (h : Pq W b base N v gc Y) (hb : Below Y.heap.size Y Y') : Pq W b base N v gc Y' := h.step (h.src.under hb) (grown_below hb)
/-- .. with the place. -/
structure Pp (W : World) (b base : Nat) (N : List Cm.N5) (v : Value) (gc gp : Nat) (cs : Array Value) (Y : World) : Prop where
  q : Pq W b base N v gc Y
  pl : Row Y gp 27 cs
  hp : b < gp
theorem Pp.step (h : Pp W b base N v gc gp cs Y) (hs : Src W b Y') (hg : Y.grownBy Y' (some b)) : Pp W b base N v gc gp cs Y' :=
  ⟨h.q.step hs hg, h.pl.grown hg (fun e => by injection e with e; have := h.hp; omega), h.hp⟩
theorem Pp.under (h : Pp W b base N v gc gp cs Y) (hb : Below Y.heap.size Y Y') : Pp W b base N v gc gp cs Y' := h.step (h.q.src.under hb) (grown_below hb)
theorem Pp.put (h : Pp W b base N v gc gp cs Y) (j : Nat) (x : Value) : Pp W b base N v gc gp (cs.setIfInBounds j x) (Y.setCell ⟨gp, j, none⟩ x) := by
  have h1 := h.hp
  have h2 := h.q.src.base
  exact ⟨⟨Pl.src_set h.q.src gp j x (by omega) (by omega), own_heap h.q.own (fun i hi => Below.heap_setCell Y ⟨gp, j, none⟩ x i (fun e => row_not h.q.own h.pl (by decide) (by have e' : i = gp := e; rw [← e']; exact hi))), h.q.box.far (row_ne h.pl h.q.box (by decide)) x, h.q.hb, h.q.hc⟩, h.pl.put j x, h.hp⟩
theorem Pp.put4 {c0 c1 c2 c3 : Value} (h : Pp W b base N v gc gp #[c0, c1, c2, c3] Y) (x0 x1 x2 x3 : Value) : Pp W b base N v gc gp #[x0, x1, x2, x3] ((((Y.setCell ⟨gp, 0, none⟩ x0).setCell ⟨gp, 1, none⟩ x1).setCell ⟨gp, 2, none⟩ x2).setCell ⟨gp, 3, none⟩ x3) := (((h.put 0 x0).put 1 x1).put 2 x2).put 3 x3
end
/-- What is known in the law's loop. -/
structure Pt (W : World) (base : Nat) (N : List Cm.N5) (v : Value) (gc gn : Nat) (r : Cm.N5) (Y : World) : Prop where
  below : Below W.heap.size W Y
  own : Y.ownsRow base 50 5 v N.length (nrc N)
  box : Row Y gc 24 #[v]
  nrm : Row Y gn 50 #[.int .i64 r.1, .int .i64 r.2.1, .int .i64 r.2.2.1, .int .i64 r.2.2.2.1, .int .i64 r.2.2.2.2]
theorem Pt.under {W Y Y' : World} {base gc gn : Nat} {N : List Cm.N5} {v : Value} {r : Cm.N5} (h : Pt W base N v gc gn r Y) (hb : Below Y.heap.size Y Y') : Pt W base N v gc gn r Y' :=
  ⟨h.below.trans (hb.mono h.below.size), El.own_under h.own hb, h.box.under hb, h.nrm.under hb⟩
theorem Has.under {w w' : World} {f : Nat} {a b c : Int} {g : Nat} (h : Pl.Has w f a b c g) (hg : g < w.heap.size) (hb : Below w.heap.size w w') : Pl.Has w' f a b c g :=
  h.keep (fun j => by unfold World.cell?; rw [hb.block g hg])
end Go.Proofs.YtcheadbhkbbegaaDoor

namespace Go.Proofs.YtcheadbhkbbegaaDoor
open Go.RowKit

theorem NmIn.own {w : World} {base : Nat} {v : Value} {C : List Int} (h : w.ownsRow base 3 1 v C.length (nmc C)) : El.NmIn w v C := by
  have h' := h
  rcases h.2 with ⟨rfl, h0⟩ | ⟨g, cap, cur, rfl, _, hh, hle, hmax, _, _⟩
  · have := List.eq_nil_of_length_eq_zero h0
    subst this
    exact ⟨none, 0, rfl, Nat.le_refl _, by omega, fun i hi => by simp at hi⟩
  · refine ⟨some ⟨g, 0, none⟩, cap, rfl, hle, by unfold maxLen at hmax; omega, fun i hi => ⟨g, 0, rfl, (Array.getElem?_eq_some_iff.1 hh).1, ?_⟩⟩
    rw [Nat.zero_add, h'.cellAt i (by omega)]
    exact nmc_at hi
theorem NmIn.at {w : World} {A : Option Addr} {n c : Nat} {C : List Int} (h : El.NmIn w (.slice A n c) C) {i : Nat} (hi : i < C.length) : ∃ g off, A = some ⟨g, off, none⟩ ∧ g < w.heap.size ∧ w.cell? ⟨g, off + i, none⟩ = some (.int .i64 C[i]) := by
  obtain ⟨A', cap, e, -, -, h3⟩ := h
  injection e with e1 e2 e3
  subst e1
  exact h3 i hi
def eqTo (a b : List Int) (n : Nat) : Prop := ∀ j, j < n → a[j]? = b[j]?
theorem eqTo_all {a b : List Int} (hl : a.length = b.length) (h : eqTo a b a.length) : a = b := by
  refine List.ext_getElem? fun j => ?_
  rcases Nat.lt_or_ge j a.length with q | q
  · exact h j q
  · rw [List.getElem?_eq_none q, List.getElem?_eq_none (by omega)]
set_option maxHeartbeats 4000000 in
theorem ints_any (u v : Value) (a b : List Int) (w : World) (ha : El.NmIn w u a) (hb : El.NmIn w v b) :
    Calls Tryd.prog 40 #[u, v] w fun e w' => e = .returned (.bool (decide (a = b))) ∧ Below w.heap.size w w' := by
  obtain ⟨A, c1, rfl, m1, m2, -⟩ := id ha
  obtain ⟨B, c2, rfl, m3, m4, -⟩ := id hb
  have HA := Lib.hid ha; clear ha
  have HB := Lib.hid hb; clear hb
  obtain ⟨z, hz⟩ : ∃ z, decide (a = b) = z := ⟨_, rfl⟩
  have HZ := Lib.hid hz
  rw [hz]; clear hz
  by_cases hn : a.length = b.length
  · have HN := Lib.hid hn
    rw [← hn] at HB m3 ⊢
    clear hn
    go_enter Tryd.func40, Tryd.ntmps40
    go_wp2_with fail
    go_loopw [5] (fun t wr => ∃ i : Nat, i ≤ a.length ∧ t = .int .i64 (i : Int) ∧ Hid (eqTo a b i) ∧ Hid (Below w.heap.size w wr)) (fun t _ => a.length - (intOf t).toNat)
    case atStart => exact ⟨0, by omega, rfl, Lib.hid (fun i hi => by omega), Lib.hid (Below.refl _ _)⟩
    case round =>
      obtain ⟨i, hi, rfl, HT, HW⟩ := hrel
      by_cases hlt : i < a.length
      · have k0 : (i : Int) < (a.length : Int) := by omega
        have k1 : (0 : Int) ≤ (i : Int) := by omega
        have hib : i < b.length := by have := HN.out; omega
        obtain ⟨g, o1, rfl, -, p1⟩ := NmIn.at (HA.out.under HW.out) hlt
        obtain ⟨g', o2, rfl, -, q1⟩ := NmIn.at (HB.out.under HW.out) hib
        have HST := Lib.hid (show a[i] = b[i] → eqTo a b (i + 1) from fun h j hj => by
          rcases (by omega : j < i ∨ j = i) with hj' | rfl
          · exact HT.out j hj'
          · rw [List.getElem?_eq_getElem hlt, List.getElem?_eq_getElem hib, h])
        have HNO := Lib.hid (show a[i] ≠ b[i] → ¬ a = b from fun h h' => by subst h'; exact h rfl)
        generalize a[i] = x at *
        generalize b[i] = y at *
        clear hib
        go_upto_region 6 with fail
        refine wp_region_held_drew (S := fun w' : World => w'.cell? ⟨g, o1 + i, none⟩ = some (.int .i64 x) ∧ w'.cell? ⟨g', o2 + i, none⟩ = some (.int .i64 y)) (by kernel_rfl) ⟨p1, q1⟩ (fun hHeld => ?_)
        refine tk 0 (oi := ⟨some 17, _, _, _, _, none⟩) rfl ?_
        try go_frame
        refine tk 1 (oi := ⟨some 18, _, _, _, _, none⟩) rfl ?_
        try go_frame
        refine tk 2 (oi := ⟨some 19, _, _, _, _, none⟩) rfl ?_
        try go_frame
        refine tk 3 (oi := ⟨some 20, _, _, _, _, none⟩) rfl ?_
        try go_frame
        refine tk 4 (oi := ⟨some 21, _, _, _, _, none⟩) rfl ?_
        try go_frame
        refine tk 5 (oi := ⟨some 22, _, _, _, _, none⟩) rfl ?_
        try go_frame
        refine tk 6 (oi := ⟨some 23, _, _, _, _, none⟩) rfl ?_
        try go_frame
        refine tk 7 (oi := ⟨some 24, _, _, _, _, none⟩) rfl ?_
        try go_frame
        refine tk 8 (oi := ⟨some 25, _, _, _, _, none⟩) rfl ?_
        try go_frame
        refine wpAnyH_done (by kernel_rfl) ?_ _
        have HB2 := Lib.hid (HW.out.trans (show Below w.heap.size wr wr.drew from ⟨rfl, rfl, rfl, Nat.le_refl _, fun _ _ => rfl⟩))
        clear hHeld p1 q1
        by_cases hxy : x = y
        · have HS2 := Lib.hid (HST.out hxy)
          subst hxy
          clear HST HNO
          go_wp2_with fail
          go_roundw
          case rel => exact ⟨i + 1, by omega, by go_num, HS2, HB2⟩
          case measure => simp [intOf]; omega
        · have hc : (x == y) = false := by rw [beq_eq_false_iff_ne]; exact hxy
          have HN2 := Lib.hid (HNO.out hxy)
          clear HST HNO
          go_wp2_with fail
          go_ret
          exact ⟨by rw [← HZ.out, decide_eq_false HN2.out]; rfl, HB2.out⟩
      · have k0 : ¬ (i : Int) < (a.length : Int) := by omega
        have HY := Lib.hid (show a = b from eqTo_all HN.out (fun j hj => HT.out j (by omega)))
        go_wp2_with fail
        go_ret
        exact ⟨by rw [← HZ.out, decide_eq_true HY.out]; rfl, HW.out⟩
  · have k9 : ((a.length : Int) == (b.length : Int)) = false := by rw [beq_eq_false_iff_ne]; omega
    have HN := Lib.hid (show ¬ a = b from fun h => hn (by rw [h])); clear hn
    go_enter Tryd.func40, Tryd.ntmps40
    go_wp2_with fail
    go_ret
    exact ⟨by rw [← HZ.out, decide_eq_false HN.out]; rfl, Below.refl _ _⟩
set_option maxHeartbeats 1000000 in
theorem in_any (v : Value) (C : List Int) (x : Int) (w : World) (h : El.NmIn w v C) :
    Calls Tryd.prog 43 #[v, .int .i64 x] w fun e w' => e = .returned (.bool (C.contains x)) ∧ w = w' := by
  obtain ⟨A, cap, rfl, h1, h2, h3⟩ := h
  have H := Lib.hid h3; clear h3
  obtain ⟨cb, hcb⟩ : ∃ cb, C.contains x = cb := ⟨_, rfl⟩
  rw [hcb]
  have HB := Lib.hid hcb; clear hcb
  go_enter Tryd.func43, Tryd.ntmps43
  go_wp2_with fail
  go_loop [5] (fun t => ∃ k : Nat, k ≤ C.length ∧ t = .int .i64 k ∧ Hid (∀ j (h : j < C.length), j < k → C[j] ≠ x)) (fun t => C.length - (intOf t).toNat)
  case atStart => exact ⟨0, Nat.zero_le _, rfl, Lib.hid (fun j h h' => by omega)⟩
  case round =>
    obtain ⟨k, hk, rfl, hn⟩ := hrel
    by_cases hlt : k < C.length
    · obtain ⟨g, off, rfl, -, c0⟩ := H.out k hlt
      have k0 : (0 : Int) ≤ (k : Int) := by omega
      have k1 : (k : Int) < (C.length : Int) := by omega
      by_cases he : C[k] = x
      · have e1 : (C[k] == x) = true := beq_iff_eq.2 he
        have HC : Hid (cb = true) := Lib.hid (by rw [← HB.out, List.contains_iff_mem]; rw [← he]; exact List.getElem_mem _)
        clear he
        generalize C[k] = y at *
        go_wp2_with fail
        go_ret
        exact ⟨ret_bool HC.out.symm, rfl⟩
      · have e1 : (C[k] == x) = false := beq_eq_false_iff_ne.2 he
        have HN : Hid (∀ j (h : j < C.length), j < k + 1 → C[j] ≠ x) := Lib.hid (fun j h h' => by
          rcases Nat.lt_or_ge j k with q | q
          · exact hn.out j h q
          · obtain rfl : j = k := by omega
            exact he)
        clear he hn
        generalize C[k] = y at *
        go_wp2_with fail
        go_round
        case rel => exact ⟨k + 1, by omega, by go_num, HN⟩
        case measure => simp [intOf]; omega
    · have k1 : ¬ (k : Int) < (C.length : Int) := by omega
      have HC : Hid (cb = false) := Lib.hid (by
        rw [← HB.out]
        cases hc : C.contains x
        · rfl
        · exfalso
          obtain ⟨i, hi, e⟩ := List.getElem_of_mem (List.contains_iff_mem.1 hc)
          exact hn.out i hi (by omega) e)
      go_wp2_with fail
      go_ret
      exact ⟨ret_bool HC.out.symm, rfl⟩
theorem mth_0 : mth 0 = 1 := mth_eq (y := 2000) (m := 1) (d := 1) (hh := 0) (i := 0) (by decide) (by decide)
theorem mth_60 : mth 60 = 1 := mth_eq (y := 2000) (m := 1) (d := 1) (hh := 1) (i := 0) (by decide) (by decide)
theorem mth_100 : mth 100 = 1 := mth_eq (y := 2000) (m := 1) (d := 1) (hh := 1) (i := 40) (by decide) (by decide)
theorem fam_0 : fam 0 840 0 0 0 = (0, 1, 0) := by
  have h := fam_at (f := 0) (A := 840) (B := 0) (C := 0) (t := 0) (by unfold Pl.Ico.Vld; omega) (by decide) mth_0
  rw [show Pl.Ico.nf 0 840 0 0 = 0 by decide +kernel] at h
  exact h
theorem fam_100 : fam 1 840 0 0 100 = (0, 1, 0) := by
  have h := fam_at (f := 1) (A := 840) (B := 0) (C := 0) (t := 100) (by unfold Pl.Ico.Vld; omega) (by decide) mth_100
  rw [show Pl.Ico.nf 1 840 0 0 = 0 by decide +kernel] at h
  exact h
end Go.Proofs.YtcheadbhkbbegaaDoor

namespace Go.Proofs.YtcheadbhkbbegaaDoor
open Go.RowKit Go.Maps

theorem laidOutK : laidOutB Tryd.prog = true := by kernel_rfl
theorem lawSl : Keyed Tryd.prog 108 :=
  Keyed.of_law (deep_law_laid (m := 3) laidOutK (by decide) (of_decide_eq_true (by kernel_rfl)) (by kernel_rfl) (by kernel_rfl))
theorem keyTS : Tryd.prog.keyType 108 = true := by kernel_rfl
theorem cellsS : Tryd.prog.cellsOf 108 = 3 := by kernel_rfl
theorem cells1 : Tryd.prog.cellsOf 3 = 1 := by kernel_rfl
/-- A slot: element, face, month. -/
abbrev Sl := Int × Int × Int
def slV (k : Sl) : Value := .agg #[.int .i64 k.1, .int .i64 k.2.1, .int .i64 k.2.2]
def SlOk (k : Sl) : Prop := I64 k.1 ∧ I64 k.2.1 ∧ I64 k.2.2
theorem wf64 {x : Int} (h : I64 x) : (Lit.int .i64 x).wf = true := by
  have e1 : IntKind.i64.min = -9223372036854775808 := by decide
  have e2 : IntKind.i64.max = 9223372036854775807 := by decide
  obtain ⟨h1, h2⟩ := h
  simp only [Lit.wf, e1, e2, Bool.and_eq_true, decide_eq_true_eq]
  exact ⟨h1, h2⟩
/-- An element reads as itself. -/
def MsR : Value → Option (DataW Value × List MemPlace) := fun v => some (.held v, [])
set_option maxRecDepth 100000 in
theorem key_some {k : Sl} (h : SlOk k) : ∃ l, keyOf Tryd.prog 108 (slV k) = some l := by
  have hts : ∃ d, Tryd.prog.types.size = d + 1 := ⟨Tryd.prog.types.size - 1, by have : 0 < Tryd.prog.types.size := of_decide_eq_true (by kernel_rfl); omega⟩
  obtain ⟨d, hd⟩ := hts
  obtain ⟨w1, w2, w3⟩ := h
  have w1 := wf64 w1
  have w2 := wf64 w2
  have w3 := wf64 w3
  have e1 : ∀ x, (Lit.int .i64 x).wf = true → Tryd.prog.keyLits (d + 1) 3 [.int .i64 x] = some [.int .i64 x] := fun x hx => by
    unfold Program.keyLits
    rw [Tryd.underlying3]
    simp [hx]
  unfold keyOf
  rw [Tryd.underlying108]
  simp only [keyTS, Bool.true_and]
  have hform : Value.formed Tryd.prog 108 (slV k) = true := by
    unfold Value.formed slV
    rw [Tryd.underlying108, cellsS]
    rfl
  rw [hform, if_pos rfl, hd]
  unfold Program.keyLits slV
  rw [Tryd.underlying108]
  simp only [cellsS, Value.cells]
  rw [if_pos ⟨rfl, by first | decide | simp⟩]
  simp [cells1, e1, w1, w2, w3]
noncomputable def nkS (k : Sl) : Lit := (keyOf Tryd.prog 108 (slV k)).getD (.bool false)
set_option maxRecDepth 100000 in
theorem nkS_of {k : Sl} (h : SlOk k) : keyOf Tryd.prog 108 (slV k) = some (nkS k) := by
  obtain ⟨l, hl⟩ := key_some h
  unfold nkS
  rw [hl]; rfl
set_option maxRecDepth 100000 in
theorem nkS_inj {k k' : Sl} (h : SlOk k) (h' : SlOk k') (e : nkS k = nkS k') : k = k' := by
  have e1 := lawSl.inj (nkS_of h) (e ▸ nkS_of h')
  unfold slV at e1
  injection e1 with e1
  simp at e1
  exact Prod.ext e1.1 (Prod.ext e1.2.1 e1.2.2)
set_option maxRecDepth 100000 in
theorem nkS_key {k : Sl} (h : SlOk k) : WideAt.IsKeyLit (nkS k) := lawSl.key (nkS_of h)
set_option maxRecDepth 100000 in
theorem nkS_inv {key : Value} {kl : Lit} (h : keyOf Tryd.prog 108 key = some kl) : ∃ k : Sl, key = slV k ∧ kl = nkS k ∧ SlOk k := by
  have h9 := h
  unfold keyOf at h
  rw [Tryd.underlying108] at h
  simp only [keyTS, Bool.true_and] at h
  by_cases hf : Value.formed Tryd.prog 108 key = true
  · rw [if_pos hf] at h
    have one : ∀ (d : Nat) (v : Value) (ls : List Lit), Tryd.prog.keyLits (d + 1) 3 [v] = some ls → ∃ x, v = .int .i64 x ∧ I64 x := by
      intro d v ls hl
      unfold Program.keyLits at hl
      rw [Tryd.underlying3] at hl
      cases v <;> simp at hl
      obtain ⟨⟨rfl, hw⟩, -⟩ := hl
      have e1 : IntKind.i64.min = -9223372036854775808 := by decide
      have e2 : IntKind.i64.max = 9223372036854775807 := by decide
      simp only [Lit.wf, e1, e2, Bool.and_eq_true, decide_eq_true_eq] at hw
      exact ⟨_, rfl, hw⟩
    have hts : ∃ d, Tryd.prog.types.size = d + 1 := ⟨Tryd.prog.types.size - 1, by have : 0 < Tryd.prog.types.size := of_decide_eq_true (by kernel_rfl); omega⟩
    obtain ⟨d, hd⟩ := hts
    rw [hd] at h
    cases key <;> simp [Value.formed, Tryd.underlying108, cellsS] at hf
    rename_i cs
    obtain ⟨a, b, c, rfl⟩ : ∃ a b c, cs = #[a, b, c] := by
      rcases cs with ⟨l⟩
      match l, hf with
      | [a, b, c], _ => exact ⟨a, b, c, rfl⟩
    unfold Program.keyLits at h
    rw [Tryd.underlying108] at h
    simp only [cellsS, Value.cells] at h
    rw [if_pos ⟨rfl, by first | decide | simp⟩] at h
    simp [cells1, Option.bind_eq_some_iff] at h
    obtain ⟨la, ha, _, ⟨lb, hb, _, ⟨lc, hc, -⟩, -⟩, -⟩ := h
    obtain ⟨x, rfl, hx⟩ := one d a la ha
    obtain ⟨y, rfl, hy⟩ := one d b lb hb
    obtain ⟨z, rfl, hz⟩ := one d c lc hc
    have hok : SlOk (x, y, z) := ⟨hx, hy, hz⟩
    exact ⟨(x, y, z), rfl, Option.some.inj (h9.symm.trans (nkS_of hok)), hok⟩
  · rw [if_neg (by simpa using hf)] at h; cases h
/-- Block b is a map of at most n slots that has f of each. -/
def Ms (w : World) (b n c : Nat) (f : Sl → Option Value) : Prop :=
  ∃ D : DataW Value, (w.ownsMap Tryd.prog 108 MsR b n D ∧ Maps.size D = c) ∧ ∀ k, SlOk k → Maps.has D (nkS k) = (f k).isSome ∧ ∀ z, D.atKey (nkS k) (.held z) = .held ((f k).getD z)
theorem Ms.made (w : World) : Ms (w.alloc (.map #[] 0)) w.heap.size 0 0 (fun _ => none) :=
  ⟨.map [], ⟨World.ownsMap_made _ _ _ _, rfl⟩, fun _ _ => ⟨rfl, fun _ => rfl⟩⟩
theorem Ms.lt {w : World} {b n c : Nat} {f : Sl → Option Value} (h : Ms w b n c f) : b < w.heap.size := by
  obtain ⟨D, ⟨h, -⟩, -⟩ := h
  exact h.lt
theorem Ms.kept {w w' : World} {b n c : Nat} {f : Sl → Option Value} {row : Option Nat} (h : Ms w b n c f) (hg : w.grownBy w' row) (hne : some b ≠ row) : Ms w' b n c f := by
  obtain ⟨D, ⟨h, s⟩, r⟩ := h
  exact ⟨D, ⟨h.kept hg hne, s⟩, r⟩
theorem Ms.ne_row {w : World} {b n c g : Nat} {f : Sl → Option Value} {t : TypeId} {cs : Array Value} (h : Ms w b n c f) (hr : Row w g t cs) : b ≠ g := by
  rintro rfl
  obtain ⟨D, ⟨⟨es, clock, hb, -⟩, -⟩, -⟩ := h
  unfold Row at hr
  rw [hb] at hr
  cases hr
set_option maxRecDepth 100000 in
/-- 'm[k]'. -/
theorem Ms.look {w : World} {b n c : Nat} {f : Sl → Option Value} (h : Ms w b n c f) {t e : TypeId} (ht : Tryd.prog.underlying t = some (.map 108 e)) {z : Value} (hz : (zeroValue e).run Tryd.prog w = .ok z w) {key : Sl} (hk : SlOk key) :
    (Instr.lookup t (.map (some b)) (slV key) false).run Tryd.prog w = .ok ((f key).getD z) w := by
  obtain ⟨D, ⟨h1, -⟩, h2⟩ := h
  obtain ⟨v, ps, hrun, hv⟩ := h1.lookup lawSl ht hz (zd := .held z) (zp := []) rfl (nkS_of hk)
  have hv1 := (Prod.mk.inj (Option.some.inj hv)).1
  rw [(h2 key hk).2 z] at hv1
  rw [hrun, DataW.held.inj hv1]
set_option maxRecDepth 100000 in
/-- 'm[k] = v'. -/
theorem Ms.update {w : World} {b n c : Nat} {f : Sl → Option Value} (h : Ms w b n c f) {t e : TypeId} (ht : Tryd.prog.underlying t = some (.map 108 e)) (hn : n < maxLen) {key : Sl} (hk : SlOk key) (val : Value) :
    ∃ w', (Instr.mapUpdate t (.map (some b)) (slV key) val).run Tryd.prog w = .ok () w' ∧ Ms w' b (n + 1) (if (f key).isSome = true then c else c + 1) (fun k => if k = key then some val else f k) ∧ w.grownBy w' (some b) := by
  obtain ⟨D, ⟨h1, hs⟩, h2⟩ := h
  obtain ⟨w', hrun, ho, hg⟩ := h1.update lawSl ht hn (key := slV key) (val := val) (kl := nkS key) (d := .held val) (ps := []) (nkS_of hk) rfl
  refine ⟨w', hrun, ⟨_, ⟨ho, by rw [size_put (h1.tidy lawSl), (h2 key hk).1, hs]⟩, fun k hok => ?_⟩, hg⟩
  by_cases e : k = key
  · subst e
    dsimp only
    rw [if_pos rfl, has_put_same h1.isMap (nkS_key hok)]
    exact ⟨rfl, fun z => by rw [atKey_put_same h1.isMap (nkS_key hok)]; rfl⟩
  · have hne : nkS k ≠ nkS key := fun q => e (nkS_inj hok hk q)
    dsimp only
    rw [if_neg e, has_put_other hne]
    exact ⟨(h2 k hok).1, fun z => by rw [atKey_put_other hne]; exact (h2 k hok).2 z⟩
/-- 'len(m)'. -/
theorem Ms.len {w : World} {b n c : Nat} {f : Sl → Option Value} (h : Ms w b n c f) {t e : TypeId} (ht : Tryd.prog.underlying t = some (.map 108 e)) (ty : TypeId) : (Builtin.len_ #[t] ty #[.map (some b)]).run Tryd.prog w = .ok (.int .i64 (c : Int)) w := by
  obtain ⟨D, ⟨h1, hs⟩, h2⟩ := h
  rw [h1.len ht ty, hs]
end Go.Proofs.YtcheadbhkbbegaaDoor
