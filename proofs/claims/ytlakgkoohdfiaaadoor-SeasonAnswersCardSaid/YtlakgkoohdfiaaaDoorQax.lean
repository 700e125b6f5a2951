/- Texts of this proof. -/
import Derived.Test.YtlakgkoohdfiaaaDoorQav
import Derived.Test.YtlakgkoohdfiaaaDoorQaw
import Derived.Test.YtlakgkoohdfiaaaDoorSnL
import Derived.Test.YtlakgkoohdfiaaaDoorGBent
namespace Go.Proofs.YtlakgkoohdfiaaaDoor
open Go.RowKit

set_option maxRecDepth 100000 in
set_option maxHeartbeats 4000000 in
theorem refFar_any (v : Value) (N : List Cm.N5) (k : Int) (nm : ByteArray) (t F A B C : Int) (u : Value) (L : List El.Elt.R) (c : Int) (w : World) (hN : NrIn w v N) (hL : El.RdIn w u L) (hE : Env w) :
    Calls Tryd.prog 37 #[clV v, repV k nm t F A B C u, .int .i64 c] w fun e w' => e = .returned (.tuple #[.int .i64 (farR N L c (fam F A B C t)).1, .bool (farR N L c (fam F A B C t)).2]) ∧ Below w.heap.size w w' := by
  have I0 : Hid (Sv w w.heap.size (w.heap.size + 1) v N k nm t F A B C u L ((w.alloc (.cells #[v] 24)).alloc (.cells (repC k nm t F A B C u) 38))) := Lib.hid (Sv.start w v u N k t F A B C nm L hN hL hE)
  obtain ⟨V, cap, rfl, -⟩ := id hN
  obtain ⟨U, cu, rfl, -⟩ := id hL
  obtain ⟨s, hs⟩ : ∃ s, valS N L (fam F A B C t) = s := ⟨_, rfl⟩
  obtain ⟨D, hd⟩ : ∃ s, farR N L c (fam F A B C t) = s := ⟨_, rfl⟩
  have HS := Lib.hid hs
  have HD := Lib.hid hd
  rw [hd]
  clear hN hL hE hs hd
  go_enter Tryd.func37, Tryd.ntmps37
  go_upto_region 1 with fail
  refine forget (fun Y => Hid (Sv w w.heap.size (w.heap.size + 1) (.slice V N.length cap) N k nm t F A B C (.slice U L.length cu) L Y)) I0 ?_
  clear I0
  obtain ⟨gp, hgp⟩ : ∃ g, w.heap.size + 1 = g := ⟨_, rfl⟩
  obtain ⟨gb, hgb⟩ : ∃ g, w.heap.size = g := ⟨_, rfl⟩
  rw [hgp, hgb]
  clear hgp hgb
  rintro Y HI
  have q8 := (HI.out.cl.cell 0).trans rfl
  obtain ⟨q0, q1, q2, q3, q4, q5, q6, q7⟩ := row8 HI.out.rp
  have HV := Lib.hid (refCheck_any _ N k nm t F A B C _ L Y HI.out.nr HI.out.rd HI.out.env)
  rw [HS.out] at HV
  go_wp2_with fail
  refine HV.out.mono ?_
  rintro e w1 ⟨o, rfl, g1, ho⟩
  obtain ⟨Ao, co, rfl⟩ := row_form ho
  clear ho
  have I1 := Lib.hid (HI.out.under g1)
  clear g1 HI HV q0 q1 q2 q3 q4 q5 q6 q7 q8
  by_cases h0 : s = 0
  · subst h0
    obtain ⟨hv0, hv1, hv2⟩ := valS_ok HS.out
    have HFM : Hid (fam F A B C t = ((fam F A B C t).1, (fam F A B C t).2.1, 0)) := Lib.hid (by rw [← hv2])
    have HDD : Hid (D = match El.Elt.fnd L c, Cm.fndN N (c, (fam F A B C t).1, (fam F A B C t).2.1) with
      | some v, some n => (v - n.2.2.2.1, true)
      | _, _ => (0, false)) := Lib.hid (by rw [← HD.out]; unfold farR; rw [if_pos HS.out]; rfl)
    have HLk : Hid (∀ (W : World), NrIn W (.slice V N.length cap) N → Env W → Calls Tryd.prog 27 #[clV (.slice V N.length cap), .int .i64 c, .agg #[.int .i64 F, .int .i64 A, .int .i64 B, .int .i64 C], .int .i64 t] W fun e w' => e = .returned (.tuple #[nV ((Cm.fndN N (c, (fam F A B C t).1, (fam F A B C t).2.1)).getD (0, 0, 0, 0, 0)), .int .i64 (if (Cm.fndN N (c, (fam F A B C t).1, (fam F A B C t).2.1)).isSome then 0 else 9)]) ∧ Below W.heap.size W w') := Lib.hid (fun W h1 h2 => by
      have := refLookup_any (.slice V N.length cap) N c F A B C t W h1 h2
      rw [HFM.out, lkpR_yes hv0] at this
      exact this)
    have HK : Hid (∃ x y, (El.Elt.fnd L c).getD 0 = x ∧ (El.Elt.fnd L c).isSome = y ∧ ∃ n er, (Cm.fndN N (c, (fam F A B C t).1, (fam F A B C t).2.1)).getD (0, 0, 0, 0, 0) = n ∧ (if (Cm.fndN N (c, (fam F A B C t).1, (fam F A B C t).2.1)).isSome = true then (0 : Int) else 9) = er ∧ ((y = false ∧ D = (0, false)) ∨ (y = true ∧ er = 9 ∧ D = (0, false)) ∨ (y = true ∧ er = 0 ∧ (-1000 ≤ x ∧ x ≤ 11000) ∧ (-20000 ≤ n.2.2.2.1 ∧ n.2.2.2.1 ≤ 20000) ∧ D = (x - n.2.2.2.1, true)))) := Lib.hid (by
      rw [HDD.out]
      refine ⟨_, _, rfl, rfl, _, _, rfl, rfl, ?_⟩
      cases hf : El.Elt.fnd L c with
      | none => exact .inl ⟨rfl, rfl⟩
      | some x =>
        cases hn : Cm.fndN N (c, (fam F A B C t).1, (fam F A B C t).2.1) with
        | none => exact .inr (.inl ⟨rfl, rfl, rfl⟩)
        | some n =>
          refine .inr (.inr ⟨rfl, rfl, ?_, (fnd_ok hv0 hn).1, rfl⟩)
          unfold El.Elt.fnd at hf
          obtain ⟨y, hy, rfl⟩ := Option.map_eq_some_iff.1 hf
          have := El.Elt.val_bd (vld_vals hv1 y (List.mem_of_find?_eq_some hy))
          simp only [Option.getD_some]; omega)
    obtain ⟨x, y, hx, hy, n, er, hn, her, hcs⟩ := HK.out
    rw [hn, her] at HLk
    clear hv0 hv1 hv2 HFM HDD HK HD HS hn her
    obtain ⟨q0, q1, q2, q3, q4, q5, q6, q7⟩ := row8 I1.out.rp
    have HFi := El.refFind_any _ L c w1 I1.out.rd
    unfold El.FndR at HFi
    rw [hx, hy] at HFi
    have HFI := Lib.hid HFi
    clear HFi hx hy
    go_wp2_with fail
    refine HFI.out.mono ?_
    rintro e w2 ⟨rfl, g2⟩
    have I2 := Lib.hid (I1.out.under g2)
    clear g2 I1 HFI q0 q1 q2 q3 q4 q5 q6 q7
    obtain ⟨q0, q1, q2, q3, q4, q5, q6, q7⟩ := row8 I2.out.rp
    have q8 := (I2.out.cl.cell 0).trans rfl
    have HLX := Lib.hid (HLk.out w2 I2.out.nr I2.out.env)
    go_wp2_with fail
    refine HLX.out.mono ?_
    rintro e w3 ⟨rfl, g3⟩
    have I3 := Lib.hid (I2.out.under g3)
    have H4 : Hid (Below w.heap.size w (w3.alloc (.cells #[.int .i64 n.1, .int .i64 n.2.1, .int .i64 n.2.2.1, .int .i64 n.2.2.2.1, .int .i64 n.2.2.2.2] 50)) ∧ Row (w3.alloc (.cells #[.int .i64 n.1, .int .i64 n.2.1, .int .i64 n.2.2.1, .int .i64 n.2.2.2.1, .int .i64 n.2.2.2.2] 50)) w3.heap.size 50 #[.int .i64 n.1, .int .i64 n.2.1, .int .i64 n.2.2.1, .int .i64 n.2.2.2.1, .int .i64 n.2.2.2.2]) := Lib.hid ⟨I3.out.below.alloc I3.out.below.size _, Row.new _ _ _⟩
    clear g3 I2 I3 HLX q0 q1 q2 q3 q4 q5 q6 q7 q8
    go_upto_region 6 with fail
    refine forget (fun Y => Hid (Below w.heap.size w Y ∧ Row Y w3.heap.size 50 #[.int .i64 n.1, .int .i64 n.2.1, .int .i64 n.2.2.1, .int .i64 n.2.2.2.1, .int .i64 n.2.2.2.2])) H4 ?_
    clear H4
    generalize w3.heap.size = gn at *
    rintro Y4 H4
    obtain ⟨y0, y1, y2, y3, y4⟩ := row5 H4.out.2
    rcases hcs with ⟨rfl, rfl⟩ | ⟨rfl, rfl, rfl⟩ | ⟨rfl, rfl, ⟨x1, x2⟩, ⟨n1, n2⟩, rfl⟩
    · go_wp2_with fail
      go_ret2
      exact ⟨rfl, H4.out.1⟩
    · go_wp2_with fail
      go_ret2
      exact ⟨rfl, H4.out.1⟩
    · have y9 : IntKind.i64.wrap (x - n.2.2.2.1) = x - n.2.2.2.1 := IntWalk.i64_in _ (by omega)
      go_wp2_with fail
      go_ret2
      exact ⟨rfl, H4.out.1⟩
  · have k0 : (s != 0) = true := by rw [bne_iff_ne]; exact h0
    obtain rfl : D = (0, false) := by rw [← HD.out]; unfold farR; rw [if_neg (by rw [HS.out]; exact h0)]
    clear h0 HD
    go_wp2_with fail
    go_ret2
    exact ⟨rfl, I1.out.below⟩
end Go.Proofs.YtlakgkoohdfiaaaDoor

namespace Go.Proofs.YtlakgkoohdfiaaaDoor
open Go.RowKit Go.Maps

theorem valsC_app (R S : List Rp) (c f mo : Int) : valsC (R ++ S) c f mo = valsC R c f mo ++ valsC S c f mo := by unfold valsC; rw [List.filterMap_append]
theorem valsC_off {R : List Rp} {c f mo : Int} (h : ∀ r ∈ R, r.F ≠ f) : valsC R c f mo = [] := by
  unfold valsC
  refine List.filterMap_eq_nil_iff.2 (fun r hr => ?_)
  have : (r.F == f) = false := beq_eq_false_iff_ne.2 (h r hr)
  rw [this]
  simp
theorem entC_app {R S : List Rp} (hd : ∀ r ∈ R, ∀ s ∈ S, r.F ≠ s.F) (c f mo : Int) : entC (R ++ S) c f mo = entC R c f mo ++ entC S c f mo ∧ (entC R c f mo = [] ∨ entC S c f mo = []) := by
  have hor : (∀ r ∈ R, r.F ≠ f) ∨ ∀ s ∈ S, s.F ≠ f := by
    by_cases h : ∀ r ∈ R, r.F ≠ f
    · exact .inl h
    · refine .inr (fun s hs e => h (fun r hr e' => hd r hr s hs (e'.trans e.symm)))
  rcases hor with h | h
  · have h0 := valsC_off (c := c) (mo := mo) h
    have e : entC R c f mo = [] := by unfold entC; rw [if_pos h0]
    refine ⟨?_, .inl e⟩
    rw [e, List.nil_append]
    unfold entC
    rw [valsC_app, h0, List.nil_append]
  · have h0 := valsC_off (c := c) (mo := mo) h
    have e : entC S c f mo = [] := by unfold entC; rw [if_pos h0]
    refine ⟨?_, .inr e⟩
    rw [e, List.append_nil]
    unfold entC
    rw [valsC_app, h0, List.append_nil]
theorem entI_app {R S : List Rp} (hd : ∀ r ∈ R, ∀ s ∈ S, r.F ≠ s.F) (i : Nat) : entI (R ++ S) i = entI R i ++ entI S i := (entC_app hd _ _ _).1
theorem outC_app_len {R S : List Rp} (hd : ∀ r ∈ R, ∀ s ∈ S, r.F ≠ s.F) : ∀ K, (outC (R ++ S) K).length = (outC R K).length + (outC S K).length
  | 0 => by simp [outC]
  | K + 1 => by
    rw [outC_succ, outC_succ, outC_succ, List.length_append, List.length_append, List.length_append, outC_app_len hd K, entI_app hd K, List.length_append]
    omega
theorem outC_app_mem {R S : List Rp} (hd : ∀ r ∈ R, ∀ s ∈ S, r.F ≠ s.F) {K : Nat} {n : Cm.N5} (h : n ∈ outC (R ++ S) K) : n ∈ outC R K ++ outC S K := by
  obtain ⟨i, hi, hn⟩ := outC_mem.1 h
  rw [entI_app hd i] at hn
  rcases List.mem_append.1 hn with q | q
  · exact List.mem_append_left _ (outC_mem.2 ⟨i, hi, q⟩)
  · exact List.mem_append_right _ (outC_mem.2 ⟨i, hi, q⟩)
/-- The middle of a face is normal. -/
theorem nrm_mid {F : Int} (h0 : 0 ≤ F) (h1 : F ≤ 19) : nrm F 280 280 280 = true := by
  obtain ⟨f, rfl⟩ := Int.eq_ofNat_of_zero_le h0
  have h2 : f < 20 := by omega
  have key : ∀ g : Fin 20, Pl.Ico.nf g 280 280 280 = g := by decide +kernel
  refine (nrm_iff (f := f) (by unfold Pl.Ico.Vld; omega)).2 ?_
  exact key ⟨f, h2⟩
/-- A report at another place. -/
def atP (r : Rp) (F : Int) : Rp := ⟨r.k, r.nm, r.t, F, 280, 280, 280, r.u, r.L⟩
theorem pd_at {m : Int} {r : Rp} (h : Pd m r) {F : Int} (h0 : 0 ≤ F) (h1 : F ≤ 19) : Pd m (atP r F) := ⟨h.1, h.2.1, h.2.2.1, nrm_mid h0 h1, h.2.2.2.2⟩
theorem rpc_len (R : List Rp) : (rpc R).length = R.length * 8 := by
  induction R with
  | nil => rfl
  | cons x R ih => show (rpCells x ++ rpc R).length = _; rw [List.length_append, ih, List.length_cons]; simp [rpCells]; omega
theorem set_app {α : Type} (A B : List α) {n : Nat} (h : A.length = n) (j : Nat) (x : α) : (A ++ B).set (n + j) x = A ++ B.set j x := by
  subst h
  rw [List.set_append_right _ _ (by omega)]
  congr 1
  congr 1
  omega
theorem rpc_put : ∀ (R : List Rp) (i : Nat) (hi : i < R.length) (F : Int), ((((rpc R).set (i * 8 + 3) (.int .i64 F)).set (i * 8 + 4) (.int .i64 280)).set (i * 8 + 5) (.int .i64 280)).set (i * 8 + 6) (.int .i64 280) = rpc (R.set i (atP R[i] F))
  | x :: R, 0, _, F => by
    show (((((rpCells x ++ rpc R).set 3 _).set 4 _).set 5 _).set 6 _) = rpCells (atP x F) ++ rpc R
    rfl
  | x :: R, i + 1, hi, F => by
    have hi' : i < R.length := by simpa using hi
    have ih := rpc_put R i hi' F
    show (((((rpCells x ++ rpc R).set _ _).set _ _).set _ _).set _ _) = rpCells x ++ rpc (R.set i (atP R[i] F))
    have e : ∀ k, (i + 1) * 8 + k = 8 + (i * 8 + k) := fun k => by omega
    have hl : (rpCells x).length = 8 := rfl
    rw [e, e, e, e, set_app (n := 8) _ _ hl, set_app (n := 8) _ _ hl, set_app (n := 8) _ _ hl, set_app (n := 8) _ _ hl, ih]
end Go.Proofs.YtlakgkoohdfiaaaDoor

namespace Go.Proofs.YtlakgkoohdfiaaaDoor
open Go.RowKit Go.Maps

/-- The first k faces are even (c = 0) or odd (c = 1). -/
def Ev (c : Int) (R : List Rp) (k : Nat) : Prop := ∀ j, ∀ h : j < R.length, j < k → ∃ q, 0 ≤ q ∧ q ≤ 9 ∧ (R[j]).F = 2 * q + c
theorem Ev.set {c : Int} {R : List Rp} {k : Nat} (h : Ev c R k) (hk : k < R.length) {x : Int} (h0 : 0 ≤ x) (h1 : x < 10) : Ev c (R.set k (atP R[k] (2 * x + c))) (k + 1) := by
  intro j hj hjk
  rw [List.length_set] at hj
  rw [List.getElem_set]
  by_cases e : k = j
  · rw [if_pos e]; exact ⟨x, h0, by omega, rfl⟩
  · rw [if_neg e]; exact h j hj (by omega)
theorem ev_dis {R S : List Rp} (h : Ev 0 R R.length) (h2 : Ev 1 S S.length) : ∀ r ∈ R, ∀ s ∈ S, r.F ≠ s.F := by
  intro r hr s hs e
  obtain ⟨i, hi, rfl⟩ := List.getElem_of_mem hr
  obtain ⟨j, hj, rfl⟩ := List.getElem_of_mem hs
  obtain ⟨q, -, -, e1⟩ := h i hi hi
  obtain ⟨q2, -, -, e2⟩ := h2 j hj hj
  omega
theorem mem_set {R : List Rp} {k : Nat} {x r : Rp} (h : r ∈ R.set k x) : r ∈ R ∨ r = x := List.mem_or_eq_of_mem_set h
/-- Both lists. -/
structure Fw (W : World) (b : Nat) (m : Int) (b1 : Nat) (A : Option Addr) (n1 c1 : Nat) (R : List Rp) (b2 : Nat) (B : Option Addr) (n2 c2 : Nat) (S : List Rp) (Y : World) : Prop where
  src : Src W b Y
  l1 : R.length = n1
  l2 : S.length = n2
  o1 : Y.ownsRow b1 38 8 (.slice A n1 c1) n1 (rpc R)
  o2 : Y.ownsRow b2 38 8 (.slice B n2 c2) n2 (rpc S)
  d1 : ∀ r ∈ R, ∃ base, b < base ∧ Y.ownsRow base 81 2 r.u r.L.length (El.rdc r.L)
  d2 : ∀ r ∈ S, ∃ base, b < base ∧ Y.ownsRow base 81 2 r.u r.L.length (El.rdc r.L)
  p1 : ∀ r ∈ R, Pd m r
  p2 : ∀ r ∈ S, Pd m r
  h1 : b < b1
  h2 : b < b2
  lo : ∀ i, (Value.slice A n1 c1).ownBlock = some i → i < b2
section
variable {W Y Y' : World} {b b1 b2 n1 c1 n2 c2 : Nat} {m : Int} {A B : Option Addr} {R S : List Rp}
theorem Fw.step (h : Fw W b m b1 A n1 c1 R b2 B n2 c2 S Y) (hs : Src W b Y') (hg : Y.grownBy Y' (some b)) : Fw W b m b1 A n1 c1 R b2 B n2 c2 S Y' := by
  have hb1 := h.h1
  have hb2 := h.h2
  have key : ∀ {base size n : Nat} {e : TypeId} {v : Value} {xs : List Value}, b < base → Y.ownsRow base e size v n xs → Y'.ownsRow base e size v n xs := fun hb ho =>
    own_heap ho (fun i hi => hg.block i (row_size ho hi) (fun e => by injection e with e; have := row_base ho hi; omega))
  exact ⟨hs, h.l1, h.l2, key hb1 h.o1, key hb2 h.o2, fun r hr => by obtain ⟨base, hb, ho⟩ := h.d1 r hr; exact ⟨base, hb, key hb ho⟩, fun r hr => by obtain ⟨base, hb, ho⟩ := h.d2 r hr; exact ⟨base, hb, key hb ho⟩, h.p1, h.p2, h.h1, h.h2, h.lo⟩
theorem Fw.under (h : Fw W b m b1 A n1 c1 R b2 B n2 c2 S Y) (hb : Below Y.heap.size Y Y') : Fw W b m b1 A n1 c1 R b2 B n2 c2 S Y' := h.step (h.src.under hb) (grown_below hb)
theorem Fw.in1 (h : Fw W b m b1 A n1 c1 R b2 B n2 c2 S Y) : RpsIn Y (.slice A n1 c1) R := by
  have ho := h.o1
  rw [← h.l1] at ho ⊢
  exact RpsIn.own ho (fun r hr => by obtain ⟨base, -, ho⟩ := h.d1 r hr; exact El.RdIn.own ho)
theorem Fw.in2 (h : Fw W b m b1 A n1 c1 R b2 B n2 c2 S Y) : RpsIn Y (.slice B n2 c2) S := by
  have ho := h.o2
  rw [← h.l2] at ho ⊢
  exact RpsIn.own ho (fun r hr => by obtain ⟨base, -, ho⟩ := h.d2 r hr; exact El.RdIn.own ho)
/-- The world with another place at the i-th report of a row. -/
def putP (Y : World) (g i : Nat) (F : Int) : World := (((Y.setCell ⟨g, i * 8 + 3, none⟩ (.int .i64 F)).setCell ⟨g, i * 8 + 4, none⟩ (.int .i64 280)).setCell ⟨g, i * 8 + 5, none⟩ (.int .i64 280)).setCell ⟨g, i * 8 + 6, none⟩ (.int .i64 280)
theorem putP_far (Y : World) (g i : Nat) (F : Int) (k : Nat) (hk : k ≠ g) : (putP Y g i F).heap[k]? = Y.heap[k]? := by
  unfold putP
  rw [Below.heap_setCell _ ⟨g, i * 8 + 6, none⟩ _ k hk, Below.heap_setCell _ ⟨g, i * 8 + 5, none⟩ _ k hk, Below.heap_setCell _ ⟨g, i * 8 + 4, none⟩ _ k hk, Below.heap_setCell _ ⟨g, i * 8 + 3, none⟩ _ k hk]
theorem putP_src (h : Src W b Y) {g i : Nat} {F : Int} (hg : b < g) : Src W b (putP Y g i F) := by
  have h2 := h.base
  exact Pl.src_set (Pl.src_set (Pl.src_set (Pl.src_set h g _ _ (by omega) (by omega)) g _ _ (by omega) (by omega)) g _ _ (by omega) (by omega)) g _ _ (by omega) (by omega)
theorem putP_own {base g n c i : Nat} {F : Int} (h : Y.ownsRow base 38 8 (.slice (some ⟨g, 0, none⟩) n c) n (rpc R)) (hi : i < R.length) :
    (putP Y g i F).ownsRow base 38 8 (.slice (some ⟨g, 0, none⟩) n c) n (rpc (R.set i (atP R[i] F))) := by
  have := own_setN (own_setN (own_setN (own_setN h (i * 8 + 3) (.int .i64 F)) (i * 8 + 4) (.int .i64 280)) (i * 8 + 5) (.int .i64 280)) (i * 8 + 6) (.int .i64 280)
  rw [rpc_put R i hi F] at this
  exact this
theorem own_row' {base g n c size : Nat} {e : TypeId} {xs : List Value} (h : Y.ownsRow base e size (.slice (some ⟨g, 0, none⟩) n c) n xs) : ∃ cs, Row Y g e cs := by
  obtain ⟨cur, hc, -⟩ := row_own h rfl
  exact ⟨cur, hc⟩
theorem Fw.put1 {g i : Nat} {F : Int} (h : Fw W b m b1 (some ⟨g, 0, none⟩) n1 c1 R b2 B n2 c2 S Y) (hi : i < R.length) (f0 : 0 ≤ F) (f1 : F ≤ 19) : Fw W b m b1 (some ⟨g, 0, none⟩) n1 c1 (R.set i (atP R[i] F)) b2 B n2 c2 S (putP Y g i F) := by
  have hb1 := h.h1
  have hg : b1 ≤ g := row_base h.o1 rfl
  have hl := h.lo g rfl
  obtain ⟨cs, hr⟩ := own_row' h.o1
  have far : ∀ {base size n : Nat} {v : Value} {xs : List Value}, Y.ownsRow base 81 size v n xs → (putP Y g i F).ownsRow base 81 size v n xs := fun ho =>
    own_heap ho (fun k hk => putP_far Y g i F k (fun e => row_not ho hr (by decide) (by rw [← e]; exact hk)))
  refine ⟨putP_src h.src (by omega), by rw [List.length_set]; exact h.l1, h.l2, putP_own h.o1 hi, own_heap h.o2 (fun k hk => putP_far Y g i F k (fun e => by have := row_base h.o2 hk; omega)), fun r hm => ?_, fun r hm => ?_, fun r hm => ?_, h.p2, h.h1, h.h2, h.lo⟩
  · rcases mem_set hm with hm | rfl
    · obtain ⟨base, hb, ho⟩ := h.d1 r hm; exact ⟨base, hb, far ho⟩
    · obtain ⟨base, hb, ho⟩ := h.d1 _ (List.getElem_mem hi); exact ⟨base, hb, far ho⟩
  · obtain ⟨base, hb, ho⟩ := h.d2 r hm; exact ⟨base, hb, far ho⟩
  · rcases mem_set hm with hm | rfl
    · exact h.p1 r hm
    · exact pd_at (h.p1 _ (List.getElem_mem hi)) f0 f1
theorem Fw.put2 {g i : Nat} {F : Int} (h : Fw W b m b1 A n1 c1 R b2 (some ⟨g, 0, none⟩) n2 c2 S Y) (hi : i < S.length) (f0 : 0 ≤ F) (f1 : F ≤ 19) : Fw W b m b1 A n1 c1 R b2 (some ⟨g, 0, none⟩) n2 c2 (S.set i (atP S[i] F)) (putP Y g i F) := by
  have hb2 := h.h2
  have hg : b2 ≤ g := row_base h.o2 rfl
  obtain ⟨cs, hr⟩ := own_row' h.o2
  have far : ∀ {base size n : Nat} {v : Value} {xs : List Value}, Y.ownsRow base 81 size v n xs → (putP Y g i F).ownsRow base 81 size v n xs := fun ho =>
    own_heap ho (fun k hk => putP_far Y g i F k (fun e => row_not ho hr (by decide) (by rw [← e]; exact hk)))
  refine ⟨putP_src h.src (by omega), h.l1, by rw [List.length_set]; exact h.l2, own_heap h.o1 (fun k hk => putP_far Y g i F k (fun e => by have := h.lo k hk; omega)), putP_own h.o2 hi, fun r hm => ?_, fun r hm => ?_, h.p1, fun r hm => ?_, h.h1, h.h2, h.lo⟩
  · obtain ⟨base, hb, ho⟩ := h.d1 r hm; exact ⟨base, hb, far ho⟩
  · rcases mem_set hm with hm | rfl
    · obtain ⟨base, hb, ho⟩ := h.d2 r hm; exact ⟨base, hb, far ho⟩
    · obtain ⟨base, hb, ho⟩ := h.d2 _ (List.getElem_mem hi); exact ⟨base, hb, far ho⟩
  · rcases mem_set hm with hm | rfl
    · exact h.p2 r hm
    · exact pd_at (h.p2 _ (List.getElem_mem hi)) f0 f1
/-- The cells that are written. -/
theorem own_cells8 {base g n c i : Nat} (h : Y.ownsRow base 38 8 (.slice (some ⟨g, 0, none⟩) n c) n (rpc R)) (hn : R.length = n) (hi : i < R.length) (j : Nat) (hj : j < 8) : (∃ u, Y.cell? ⟨g, i * 8 + j, none⟩ = some u) ∧ Y.frozen? ⟨g, i * 8 + j, none⟩ = false := by
  obtain ⟨cs, hr⟩ := own_row' h
  refine ⟨?_, hr.thaw _⟩
  have h1 := h.1
  rw [h.cellAt _ (by omega)]
  have hl := rpc_len R
  exact ⟨_, List.getElem?_eq_getElem (by omega)⟩
/-- What an append takes of the row. -/
theorem own_news8 {base n c : Nat} (h : Y.ownsRow base 38 8 (.slice A n c) n (rpc R)) (hn : R.length = n) : (A = none → n = 0) ∧ ∀ ad, A = some ad → ∀ (j : Nat) u, (rpc R)[j]? = some u → Y.cell? (ad.add j) = some u := by
  rcases h.2 with ⟨h0, h1⟩ | ⟨g', cap', cur, h0, hb, hh, -⟩
  · injection h0 with h0 _ _
    subst h0
    exact ⟨fun _ => h1, fun ad e => by cases e⟩
  · injection h0 with h0 h2 h3
    subst h0
    refine ⟨fun e => (by cases e), fun ad e j u hu => ?_⟩
    injection e with e
    subst e
    have hj := (List.getElem?_eq_some_iff.1 hu).1
    have hl := rpc_len R
    have hx := h.1
    subst h3
    rw [Addr.add_lit, Nat.zero_add, h.cellAt j (by omega)]
    exact hu
end
theorem own_empty8 (w : World) : (w.alloc (.cells #[] 38)).ownsRow w.heap.size 38 8 (.slice (some ⟨w.heap.size, 0, none⟩) 0 0) 0 [] :=
  ⟨rfl, .inr ⟨w.heap.size, 0, #[], rfl, Nat.le_refl _, Row.new w #[] _, Nat.le_refl _, by decide, rfl, rfl⟩⟩
theorem rpc_one {R : List Rp} (h : ∀ r ∈ R, ∃ A n c, r.u = .slice A n c) : ∀ u ∈ rpc R, u.oneCell' = true := by
  intro u hu
  unfold rpc at hu
  obtain ⟨r, hr, hu⟩ := List.mem_flatMap.1 hu
  obtain ⟨A, n, c, e⟩ := h r hr
  simp only [rpCells, List.mem_cons, List.not_mem_nil, or_false] at hu
  rw [e] at hu
  rcases hu with rfl | rfl | rfl | rfl | rfl | rfl | rfl | rfl <;> rfl
theorem rps_one {w : World} {v : Value} {R : List Rp} (h : RpsIn w v R) : ∀ u ∈ rpc R, u.oneCell' = true := rpc_one (fun r hr => by
  obtain ⟨i, hi, rfl⟩ := List.getElem_of_mem hr
  obtain ⟨A, c, -, -, -, hat⟩ := h
  obtain ⟨g, off, -, -, -, hrd⟩ := hat i hi
  obtain ⟨Au, cu, eu, -⟩ := hrd
  exact ⟨_, _, _, eu⟩)
theorem rpc_app2 (R S : List Rp) : rpc (R ++ S) = rpc R ++ rpc S := by unfold rpc; rw [List.flatMap_append]
end Go.Proofs.YtlakgkoohdfiaaaDoor

namespace Go.Proofs.YtlakgkoohdfiaaaDoor
open Go.RowKit Go.Maps

theorem step_append_opt {P : Program} {ops : Array Oper} {o : Oper} {a : Act} {w : World} {K : Act → World → Prop} {Q : Exit → Act → World → Prop} {E : Prop} (hgd : o.guard = none) (s x : Operand) (t : TypeId)
    (ho : o.op = .call { callee := .builtin .append, args := #[s, x], argTypes := #[t, t] })
    (base : Nat) (e : TypeId) (i : TypeInfo) (z : Value) (size bytes : Nat) (ht : P.underlying t = some (.slice e)) (hi : P.info? e = some i) (hz : i.zero = some z)
    (hsize : i.size = size) (hby : i.bytes = bytes) (hzs : z.cells.size = size) (hsz : 0 < size)
    (v : Value) (n : Nat) (xs : List Value) (hs : a.eval s = v) (hown : w.ownsRow base e size v n xs)
    (A : Option Addr) (m c : Nat) (news : List Value) (hx : a.eval x = .slice A m c) (hl : news.length = m * size) (hnone : A = none → m = 0)
    (hnews : ∀ ad, A = some ad → ∀ (j : Nat) u, news[j]? = some u → w.cell? (ad.add j) = some u) (h1 : ∀ u ∈ news, u.oneCell' = true)
    (h63 : n + m ≤ maxLen) (hbytes : (n + m) * bytes ≤ 140737488355328) (hbase : base ≤ w.heap.size)
    (h : ∀ v' w', w'.ownsRow base e size v' (n + m) (xs ++ news) → w.grownBy w' v.ownBlock → K (a.put o.dst v') w') :
    if Region.wanted o (yielded ops a.tmps) = true then Oper.wp P o a w K Q else E := by
  have hw : Region.wanted o (yielded ops a.tmps) = true := by simp [Region.wanted, hgd]
  rw [if_pos hw]
  cases A with
  | none =>
    obtain rfl := hnone rfl
    obtain rfl : news = [] := List.eq_nil_of_length_eq_zero (by rw [hl, Nat.zero_mul])
    have hv : ∃ P' cap, v = .slice P' n cap ∧ n ≤ cap := by
      rcases hown.2 with ⟨q, h0⟩ | ⟨g, cap', cur, q, hb, hg, hc, hm, hs, hx⟩
      · exact ⟨none, 0, by rw [q, h0], by omega⟩
      · exact ⟨_, _, q, hc⟩
    obtain ⟨P', cap, rfl, hle⟩ := hv
    have hr := run_append_nothing (P := P) w t t o.type e i ht hi P' n cap hle (.slice none 0 c) (Go.Src.ofNil w ht c)
    unfold Oper.wp execOp
    simp only [ho, resolve, invoke, builtin, Sem.run_bind, Sem.run_pure, Result.andThen_ok, List.map_toArray, List.map_cons, List.map_nil, hs, hx, hr]
    exact h _ _ (by rw [List.append_nil]; exact hown) (grown_refl _ _)
  | some ad =>
    obtain ⟨v', w', hr, h2, h3, -⟩ := run_append_own (P := P) w base t o.type e i z size bytes ht hi hz hsize hby hzs hsz v n xs hown ad m c news hl (hnews ad rfl) h1 h63 hbytes hbase
    unfold Oper.wp execOp
    simp only [ho, resolve, invoke, builtin, Sem.run_bind, Sem.run_pure, Result.andThen_ok, List.map_toArray, List.map_cons, List.map_nil, hs, hx, hr]
    exact h v' w' h2 h3
/-- The three climates in their boxes. -/
structure Lg (W : World) (N1 : List Cm.N5) (A1 : Option Addr) (d1 ga : Nat) (N2 : List Cm.N5) (A2 : Option Addr) (d2 gb : Nat) (N3 : List Cm.N5) (A3 : Option Addr) (d3 gc : Nat) (Y : World) : Prop where
  below : Below W.heap.size W Y
  i1 : NrIn Y (.slice A1 N1.length d1) N1
  r1 : Row Y ga 24 #[.slice A1 N1.length d1]
  i2 : NrIn Y (.slice A2 N2.length d2) N2
  r2 : Row Y gb 24 #[.slice A2 N2.length d2]
  i3 : NrIn Y (.slice A3 N3.length d3) N3
  r3 : Row Y gc 24 #[.slice A3 N3.length d3]
theorem Lg.under {W Y Y' : World} {N1 N2 N3 : List Cm.N5} {A1 A2 A3 : Option Addr} {d1 d2 d3 ga gb gc : Nat} (h : Lg W N1 A1 d1 ga N2 A2 d2 gb N3 A3 d3 gc Y) (hb : Below Y.heap.size Y Y') : Lg W N1 A1 d1 ga N2 A2 d2 gb N3 A3 d3 gc Y' :=
  ⟨h.below.trans (hb.mono h.below.size), h.i1.under hb, h.r1.under hb, h.i2.under hb, h.r2.under hb, h.i3.under hb, h.r3.under hb⟩
/-- How two normals compare, field by field. -/
theorem five_cases (n0 n1 n2 n3 n4 m0 m1 m2 m3 m4 : Int) : (m0 = n0 ∧ m1 = n1 ∧ m2 = n2 ∧ m3 = n3 ∧ m4 = n4) ∨ (¬ m0 = n0) ∨ (m0 = n0 ∧ ¬ m1 = n1) ∨ (m0 = n0 ∧ m1 = n1 ∧ ¬ m2 = n2) ∨ (m0 = n0 ∧ m1 = n1 ∧ m2 = n2 ∧ ¬ m3 = n3) ∨ (m0 = n0 ∧ m1 = n1 ∧ m2 = n2 ∧ m3 = n3 ∧ ¬ m4 = n4) := by
  by_cases h0 : m0 = n0 <;> by_cases h1 : m1 = n1 <;> by_cases h2 : m2 = n2 <;> by_cases h3 : m3 = n3 <;> by_cases h4 : m4 = n4 <;> simp [h0, h1, h2, h3, h4]
theorem nrc_app2 (N M : List Cm.N5) : nrc (N ++ M) = nrc N ++ nrc M := by unfold nrc; rw [List.flatMap_append]
theorem in_take {n : Cm.N5} {L : List Cm.N5} {j : Nat} (hj : j < L.length) : n ∈ L.take (j + 1) ↔ n ∈ L.take j ∨ n = L[j] := by
  rw [List.take_add_one, List.getElem?_eq_getElem hj, List.mem_append]
  simp
end Go.Proofs.YtlakgkoohdfiaaaDoor

namespace Go.Proofs.YtlakgkoohdfiaaaDoor
open Go.RowKit Go.Maps

theorem nrc_set2 : ∀ (N : List Cm.N5) (i : Nat) (h : i < N.length) (x : Int), (nrc N).set (i * 5 + 2) (.int .i64 x) = nrc (N.set i (N[i].1, N[i].2.1, x, N[i].2.2.2.1, N[i].2.2.2.2))
  | y :: r, 0, _, x => rfl
  | y :: r, i + 1, h, x => by
    have := nrc_set2 r i (by simpa using h) x
    show (encN y ++ nrc r).set _ _ = encN y ++ nrc (r.set i _)
    rw [List.set_append_right _ _ (by show 5 ≤ _; omega), show (i + 1) * 5 + 2 - (encN y).length = i * 5 + 2 by show (i + 1) * 5 + 2 - 5 = _; omega, this]
    rfl
/-- What is known while the learned climate is changed. -/
structure Sa (W : World) (b : Nat) (w2 : World) (m : Int) (R : List Rp) (v : Value) (bn : Nat) (A : Option Addr) (n cap : Nat) (M : List Cm.N5) (gc : Nat) (Y : World) : Prop where
  pl : PL W b w2 m R v Y
  own : Y.ownsRow bn 50 5 (.slice A n cap) n (nrc M)
  len : M.length = n
  box : Row Y gc 24 #[.slice A n cap]
  lo : w2.heap.size ≤ bn
  hw : b < w2.heap.size
  hW : W.heap.size ≤ w2.heap.size
  hc : b < gc
section
variable {W w2 Y Y' : World} {b bn n cap gc : Nat} {m : Int} {R : List Rp} {v : Value} {A : Option Addr} {M : List Cm.N5}
theorem Sa.step (h : Sa W b w2 m R v bn A n cap M gc Y) (hs : Src W b Y') (hg : Y.grownBy Y' (some b)) : Sa W b w2 m R v bn A n cap M gc Y' :=
  ⟨h.pl.step h.hw hs hg, own_heap h.own (fun i hi => hg.block i (row_size h.own hi) (fun e => by injection e with e; have := row_base h.own hi; have := h.hw; have := h.lo; omega)), h.len, h.box.grown hg (fun e => by injection e with e; have := h.hc; omega), h.lo, h.hw, h.hW, h.hc⟩
theorem Sa.under (h : Sa W b w2 m R v bn A n cap M gc Y) (hb : Below Y.heap.size Y Y') : Sa W b w2 m R v bn A n cap M gc Y' := h.step (h.pl.src.under hb) (grown_below hb)
theorem Sa.nr (h : Sa W b w2 m R v bn A n cap M gc Y) : NrIn Y (.slice A n cap) M := by
  have ho := h.own
  rw [← h.len] at ho ⊢
  exact NrIn.own ho
/-- A cell of the normals is written. -/
theorem Sa.set {g j : Nat} {x : Int} (h : Sa W b w2 m R v bn (some ⟨g, 0, none⟩) n cap M gc Y) {M' : List Cm.N5} (hM : (nrc M).set j (.int .i64 x) = nrc M') (hl : M'.length = n) : Sa W b w2 m R v bn (some ⟨g, 0, none⟩) n cap M' gc (Y.setCell ⟨g, j, none⟩ (.int .i64 x)) := by
  have hg : bn ≤ g := row_base h.own rfl
  have h1 := h.lo
  have h2 := h.hw
  have h3 := h.hW
  obtain ⟨cs, hr, -⟩ := row_own h.own rfl
  have hr' : Row Y g 50 cs := hr
  have key : ∀ i, i ≠ g → (Y.setCell ⟨g, j, none⟩ (.int .i64 x)).heap[i]? = Y.heap[i]? := fun i hi => Below.heap_setCell Y ⟨g, j, none⟩ (.int .i64 x) i hi
  have hgb : Y.grownBy (Y.setCell ⟨g, j, none⟩ (.int .i64 x)) (some g) := ⟨rfl, rfl, rfl, by simp [World.setCell], fun i _ hi => key i (fun e => hi (by rw [e]))⟩
  have hpl : PL W b w2 m R v (Y.setCell ⟨g, j, none⟩ (.int .i64 x)) := by
    refine ⟨Pl.src_set h.pl.src g j _ (by omega) (by omega), ?_, own_heap h.pl.own (fun i hi => key i (fun e => row_not h.pl.own hr' (by decide) (by rw [← e]; exact hi))), fun r hrr => ?_, h.pl.val⟩
    · exact ⟨h.pl.gro.os, h.pl.gro.tape, h.pl.gro.output, Nat.le_trans h.pl.gro.size hgb.size, fun i hi hne' => (key i (by omega)).trans (h.pl.gro.block i hi hne')⟩
    · obtain ⟨base, hbb, ho⟩ := h.pl.rds r hrr
      exact ⟨base, hbb, own_heap ho (fun i hi => key i (fun e => row_not ho hr' (by decide) (e ▸ hi)))⟩
  refine ⟨hpl, ?_, hl, h.box.far (p := ⟨g, j, none⟩) (row_ne hr' h.box (by decide)) _, h.lo, h.hw, h.hW, h.hc⟩
  have := own_setN h.own j (.int .i64 x)
  rw [hM] at this
  exact this
theorem Sa.put4 {g i : Nat} (h : Sa W b w2 m R v bn (some ⟨g, 0, none⟩) n cap M gc Y) (hi : i < n) (x : Int) : ∃ M' : List Cm.N5, Sa W b w2 m R v bn (some ⟨g, 0, none⟩) n cap M' gc (Y.setCell ⟨g, i * 5 + 4, none⟩ (.int .i64 x)) :=
  ⟨_, h.set (nrc_set4 M i (by rw [h.len]; exact hi) x) (by rw [List.length_set]; exact h.len)⟩
theorem Sa.put2 {g i : Nat} (h : Sa W b w2 m R v bn (some ⟨g, 0, none⟩) n cap M gc Y) (hi : i < n) (x : Int) : ∃ M' : List Cm.N5, Sa W b w2 m R v bn (some ⟨g, 0, none⟩) n cap M' gc (Y.setCell ⟨g, i * 5 + 2, none⟩ (.int .i64 x)) :=
  ⟨_, h.set (nrc_set2 M i (by rw [h.len]; exact hi) x) (by rw [List.length_set]; exact h.len)⟩
theorem Sa.facts {g i : Nat} (h : Sa W b w2 m R v bn (some ⟨g, 0, none⟩) n cap M gc Y) (hi : i < n) (j : Nat) (hj : j < 5) : (∃ u, Y.cell? ⟨g, i * 5 + j, none⟩ = some u) ∧ Y.frozen? ⟨g, i * 5 + j, none⟩ = false := by
  obtain ⟨cs, hr, -⟩ := row_own h.own rfl
  have hr' : Row Y g 50 cs := hr
  refine ⟨?_, hr'.thaw _⟩
  rw [h.own.cellAt _ (by omega), nrc_at M i (by rw [h.len]; exact hi) j hj]
  have hl : (encN (M[i]'(by rw [h.len]; exact hi))).length = 5 := encN_len _
  exact ⟨_, List.getElem?_eq_getElem (by omega)⟩
end
/-- The readings of these reports lie in memory of their own. -/
def Ow (b : Nat) (Q : List Rp) (Y : World) : Prop := ∀ r ∈ Q, ∃ base, b < base ∧ Y.ownsRow base 81 2 r.u r.L.length (El.rdc r.L)
theorem Ow.step {b : Nat} {Q : List Rp} {Y Y' : World} (h : Ow b Q Y) (hg : Y.grownBy Y' (some b)) : Ow b Q Y' := fun r hr => by
  obtain ⟨base, hb, ho⟩ := h r hr
  exact ⟨base, hb, own_heap ho (fun i hi => hg.block i (row_size ho hi) (fun e => by injection e with e; have := row_base ho hi; omega))⟩
theorem Ow.rd {b : Nat} {Q : List Rp} {Y : World} (h : Ow b Q Y) : ∀ r ∈ Q, El.RdIn Y r.u r.L := fun r hr => by
  obtain ⟨base, -, ho⟩ := h r hr
  exact El.RdIn.own ho
theorem Vd.cbd6 {k : Int} {nm : ByteArray} {t F A B C : Int} {L : List El.Elt.R} (h : Vd k nm t F A B C L) : 0 ≤ C ∧ C ≤ 1000000 := by
  have hp := h.place
  unfold plOk at hp
  by_cases k1 : k = 1
  · rw [if_pos k1] at hp
    simp only [Bool.and_eq_true, beq_iff_eq] at hp
    omega
  · rw [if_neg k1] at hp
    unfold nrm at hp
    obtain ⟨f, rfl, h1, h2, h3, h4, h5, h6, h7, h8⟩ := Pl.vb_to (Bool.and_eq_true_iff.1 hp).1
    omega
theorem Vd.short {k : Int} {nm : ByteArray} {t F A B C : Int} {L : List El.Elt.R} (h : Vd k nm t F A B C L) : nm.size ≤ 40 := by
  have h5 := h.name
  unfold nameOk at h5
  rw [Bool.and_eq_true, decide_eq_true_iff] at h5
  omega
/-- Three reports in a new row. -/
theorem own_three (Y : World) (r1 r2 r3 : Rp) (cs : Array Value) (hc : cs.toList = rpc [r1, r2, r3]) : (Y.alloc (.cells cs 38)).ownsRow Y.heap.size 38 8 (.slice (some ⟨Y.heap.size, 0, none⟩) 3 3) 3 (rpc [r1, r2, r3]) := by
  have hl : cs.size = 24 := by rw [← Array.length_toList, hc]; rfl
  exact ⟨rfl, .inr ⟨Y.heap.size, 3, cs, rfl, Nat.le_refl _, Row.new Y cs _, Nat.le_refl _, by decide, hl, by rw [hc]; rfl⟩⟩
end Go.Proofs.YtlakgkoohdfiaaaDoor

namespace Go.Proofs.YtlakgkoohdfiaaaDoor
open Go.RowKit Go.Maps

structure Sq (W : World) (b : Nat) (w2 : World) (m : Int) (R : List Rp) (v : Value) (bn : Nat) (A : Option Addr) (n cap : Nat) (M : List Cm.N5) (gc bl : Nat) (Aq : Option Addr) (cq : Nat) (Q : List Rp) (gr : Nat) (cs : Array Value) (Y : World) : Prop where
  sa : Sa W b w2 m R v bn A n cap M gc Y
  lst : Y.ownsRow bl 38 8 (.slice Aq Q.length cq) Q.length (rpc Q)
  hl : b < bl
  rd : ∀ r ∈ Q, El.RdIn W r.u r.L ∨ ∃ base, b < base ∧ Y.ownsRow base 81 2 r.u r.L.length (El.rdc r.L)
  row : Row Y gr 24 cs
  hr : b < gr
section
variable {W w2 Y Y' : World} {b bn n cap gc bl cq gr : Nat} {m : Int} {R Q : List Rp} {v : Value} {A Aq : Option Addr} {M : List Cm.N5} {cs : Array Value}
theorem Sq.step (h : Sq W b w2 m R v bn A n cap M gc bl Aq cq Q gr cs Y) (hs : Src W b Y') (hg : Y.grownBy Y' (some b)) : Sq W b w2 m R v bn A n cap M gc bl Aq cq Q gr cs Y' := by
  refine ⟨h.sa.step hs hg, own_heap h.lst (fun i hi => hg.block i (row_size h.lst hi) (fun e => by injection e with e; have := row_base h.lst hi; have := h.hl; omega)), h.hl, fun r hr => ?_, h.row.grown hg (fun e => by injection e with e; have := h.hr; omega), h.hr⟩
  rcases h.rd r hr with h1 | ⟨base, hb, ho⟩
  · exact .inl h1
  · exact .inr ⟨base, hb, own_heap ho (fun i hi => hg.block i (row_size ho hi) (fun e => by injection e with e; have := row_base ho hi; omega))⟩
theorem Sq.under (h : Sq W b w2 m R v bn A n cap M gc bl Aq cq Q gr cs Y) (hb : Below Y.heap.size Y Y') : Sq W b w2 m R v bn A n cap M gc bl Aq cq Q gr cs Y' := h.step (h.sa.pl.src.under hb) (grown_below hb)
theorem Sq.rps (h : Sq W b w2 m R v bn A n cap M gc bl Aq cq Q gr cs Y) : RpsIn Y (.slice Aq Q.length cq) Q := RpsIn.own h.lst (fun r hr => by
  rcases h.rd r hr with h1 | ⟨base, -, ho⟩
  · exact El.RdIn.under h1 h.sa.pl.src.below
  · exact El.RdIn.own ho)
theorem Sq.rdOf (h : Sq W b w2 m R v bn A n cap M gc bl Aq cq Q gr cs Y) {r : Rp} (hr : r ∈ Q) : El.RdIn Y r.u r.L := by
  rcases h.rd r hr with h1 | ⟨base, -, ho⟩
  · exact El.RdIn.under h1 h.sa.pl.src.below
  · exact El.RdIn.own ho
/-- .. with the boxes of the climate and of the report that are being looked at. -/
structure St (W : World) (b : Nat) (w2 : World) (m : Int) (R : List Rp) (v : Value) (bn : Nat) (A : Option Addr) (n cap : Nat) (M : List Cm.N5) (gc bl : Nat) (Aq : Option Addr) (cq : Nat) (Q : List Rp) (gr : Nat) (cs : Array Value) (gd : Nat) (ud : Value) (Y : World) : Prop where
  sq : Sq W b w2 m R v bn A n cap M gc bl Aq cq Q gr cs Y
  bd : Row Y gd 24 #[ud]
  hd : b < gd
theorem St.step {gd : Nat} {ud : Value} (h : St W b w2 m R v bn A n cap M gc bl Aq cq Q gr cs gd ud Y) (hs : Src W b Y') (hg : Y.grownBy Y' (some b)) : St W b w2 m R v bn A n cap M gc bl Aq cq Q gr cs gd ud Y' :=
  ⟨h.sq.step hs hg, h.bd.grown hg (fun e => by injection e with e; have := h.hd; omega), h.hd⟩
theorem St.under {gd : Nat} {ud : Value} (h : St W b w2 m R v bn A n cap M gc bl Aq cq Q gr cs gd ud Y) (hb : Below Y.heap.size Y Y') : St W b w2 m R v bn A n cap M gc bl Aq cq Q gr cs gd ud Y' := h.step (h.sq.sa.pl.src.under hb) (grown_below hb)
/-- .. and the report's box. -/
structure Su (W : World) (b : Nat) (w2 : World) (m : Int) (R : List Rp) (v : Value) (bn : Nat) (A : Option Addr) (n cap : Nat) (M : List Cm.N5) (gc bl : Nat) (Aq : Option Addr) (cq : Nat) (Q : List Rp) (gr : Nat) (cs : Array Value) (gd : Nat) (ud : Value) (ge : Nat) (ce : Array Value) (Y : World) : Prop where
  st : St W b w2 m R v bn A n cap M gc bl Aq cq Q gr cs gd ud Y
  be : Row Y ge 38 ce
  he : b < ge
theorem Su.step {gd ge : Nat} {ud : Value} {ce : Array Value} (h : Su W b w2 m R v bn A n cap M gc bl Aq cq Q gr cs gd ud ge ce Y) (hs : Src W b Y') (hg : Y.grownBy Y' (some b)) : Su W b w2 m R v bn A n cap M gc bl Aq cq Q gr cs gd ud ge ce Y' :=
  ⟨h.st.step hs hg, h.be.grown hg (fun e => by injection e with e; have := h.he; omega), h.he⟩
theorem Su.under {gd ge : Nat} {ud : Value} {ce : Array Value} (h : Su W b w2 m R v bn A n cap M gc bl Aq cq Q gr cs gd ud ge ce Y) (hb : Below Y.heap.size Y Y') : Su W b w2 m R v bn A n cap M gc bl Aq cq Q gr cs gd ud ge ce Y' := h.step (h.st.sq.sa.pl.src.under hb) (grown_below hb)
end
end Go.Proofs.YtlakgkoohdfiaaaDoor
