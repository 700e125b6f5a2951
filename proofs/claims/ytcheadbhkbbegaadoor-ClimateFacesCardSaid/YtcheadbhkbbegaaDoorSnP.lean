/- Appending a list that may be nil; climates without spread; what the learned climate rejects. -/
import Derived.Test.YtcheadbhkbbegaaDoorQap
import Derived.Test.YtcheadbhkbbegaaDoorQas
namespace Go.Proofs.YtcheadbhkbbegaaDoor
open Go.RowKit Go.Maps

theorem wpList_append_opt {P : Program} {ops : Array Oper} {rest : List Oper} {o : Oper} {a : Act} {w : World} {Q : Exit → Act → World → Prop} (hgd : o.guard = none) (s x : Operand) (t : TypeId)
    (ho : o.op = .call { callee := .builtin .append, args := #[s, x], argTypes := #[t, t] })
    (base : Nat) (e : TypeId) (i : TypeInfo) (z : Value) (size bytes : Nat) (ht : P.underlying t = some (.slice e)) (hi : P.info? e = some i) (hz : i.zero = some z)
    (hsize : i.size = size) (hby : i.bytes = bytes) (hzs : z.cells.size = size) (hsz : 0 < size)
    (v : Value) (n : Nat) (xs : List Value) (hs : a.eval s = v) (hown : w.ownsRow base e size v n xs)
    (A : Option Addr) (m c : Nat) (news : List Value) (hx : a.eval x = .slice A m c) (hl : news.length = m * size) (hnone : A = none → m = 0)
    (hnews : ∀ ad, A = some ad → ∀ (j : Nat) u, news[j]? = some u → w.cell? (ad.add j) = some u) (h1 : ∀ u ∈ news, u.oneCell' = true)
    (h63 : n + m ≤ maxLen) (hbytes : (n + m) * bytes ≤ 140737488355328) (hbase : base ≤ w.heap.size)
    (h : ∀ v' w', w'.ownsRow base e size v' (n + m) (xs ++ news) → w.grownBy w' v.ownBlock → wpList P ops Q rest (a.put o.dst v') w') : wpList P ops Q (o :: rest) a w := by
  refine wpList_plain hgd fun _ hK => ?_
  cases A with
  | none =>
    obtain rfl := hnone rfl
    obtain rfl : news = [] := List.eq_nil_of_length_eq_zero (by rw [hl, Nat.zero_mul])
    have hv : ∃ P' cap, v = .slice P' n cap ∧ n ≤ cap := by
      rcases hown.2 with ⟨q, h0⟩ | ⟨g, cap', cur, q, hb, hg, hc, hm, hs, hx⟩
      · exact ⟨none, 0, by rw [q, h0], by omega⟩
      · exact ⟨_, _, q, hc⟩
    obtain ⟨P', cap, rfl, hle⟩ := hv
    have hr := run_append_nothing (P := P) w t t o.type e i ht hi P' n cap hle (.slice none 0 c) (Go.Src.ofNil w ht c)
    unfold Oper.wp execOp
    simp only [ho, resolve, invoke, builtin, Sem.run_bind, Sem.run_pure, Result.andThen_ok, List.map_toArray, List.map_cons, List.map_nil, hs, hx, hr]
    exact hK _ _ (h _ _ (by rw [List.append_nil]; exact hown) (grown_refl _ _))
  | some ad =>
    obtain ⟨v', w', hr, h2, h3, -⟩ := run_append_own (P := P) w base t o.type e i z size bytes ht hi hz hsize hby hzs hsz v n xs hown ad m c news hl (hnews ad rfl) h1 h63 hbytes hbase
    unfold Oper.wp execOp
    simp only [ho, resolve, invoke, builtin, Sem.run_bind, Sem.run_pure, Result.andThen_ok, List.map_toArray, List.map_cons, List.map_nil, hs, hx, hr]
    exact hK _ _ (h v' w' h2 h3)
theorem nrc_len5 (N : List Cm.N5) : (nrc N).length = N.length * 5 := by
  induction N with
  | nil => rfl
  | cons x N ih => show (encN x ++ nrc N).length = _; rw [List.length_append, ih, List.length_cons, encN_len]; omega
/-- The normals of a list in memory, as news for an append. -/
theorem nr_news {w : World} {A : Option Addr} {n c : Nat} {N : List Cm.N5} (h : NrIn w (.slice A n c) N) : n = N.length ∧ (A = none → n = 0) ∧ ∀ ad, A = some ad → ∀ (j : Nat) u, (nrc N)[j]? = some u → w.cell? (ad.add j) = some u := by
  obtain ⟨A', cap, e, h1, h2, h3⟩ := id h
  injection e with e1 e2 e3
  subst e1; subst e2
  refine ⟨rfl, fun hA => ?_, fun ad hA j u hu => ?_⟩
  · rcases Nat.eq_zero_or_pos N.length with q | q
    · exact q
    · obtain ⟨g, off, e, -⟩ := h3 0 q
      rw [hA] at e; cases e
  · have hj : j < N.length * 5 := by
      have := (List.getElem?_eq_some_iff.1 hu).1
      rw [nrc_len5] at this
      omega
    have hi : j / 5 < N.length := by omega
    obtain ⟨g, off, e, hg, c0, c1, c2, c3, c4⟩ := h3 (j / 5) hi
    rw [hA] at e
    injection e with e
    subst e
    have hm := nrc_at N (j / 5) hi (j % 5) (Nat.mod_lt _ (by omega))
    rw [show j / 5 * 5 + j % 5 = j by omega, hu] at hm
    rw [Addr.add_lit, show off + j = off + j / 5 * 5 + j % 5 by omega]
    rcases (by omega : j % 5 = 0 ∨ j % 5 = 1 ∨ j % 5 = 2 ∨ j % 5 = 3 ∨ j % 5 = 4) with q | q | q | q | q <;> rw [q] at hm ⊢ <;> rw [hm]
    · exact c0
    · exact c1
    · exact c2
    · exact c3
    · exact c4
theorem nrc_one (N : List Cm.N5) : ∀ u ∈ nrc N, u.oneCell' = true := by
  intro u hu
  obtain ⟨n, -, hn⟩ := List.mem_flatMap.1 hu
  simp only [encN, List.mem_cons, List.not_mem_nil, or_false] at hn
  rcases hn with rfl | rfl | rfl | rfl | rfl <;> rfl
/-- An empty list of a call's own. -/
theorem own_empty (w : World) : (w.alloc (.cells #[] 50)).ownsRow w.heap.size 50 5 (.slice (some ⟨w.heap.size, 0, none⟩) 0 0) ([] : List Cm.N5).length (nrc []) :=
  ⟨rfl, .inr ⟨w.heap.size, 0, #[], rfl, Nat.le_refl _, Row.new w #[] _, Nat.le_refl _, by decide, rfl, rfl⟩⟩
theorem fam_nrm {F A B C t : Int} (hn : nrm F A B C = true) (hg : Ck.Cal.rng t = true) : fam F A B C t = (F, mth t, 0) := by
  obtain ⟨f, rfl, hv⟩ := nrm_vld hn
  rw [fam_at hv hg rfl, (nrm_iff hv).1 hn]
/-- A normal without spread. -/
def zs (n : Cm.N5) : Cm.N5 := (n.1, n.2.1, n.2.2.1, n.2.2.2.1, 0)
def zr (i : Nat) (N : List Cm.N5) : List Cm.N5 := (N.take i).map zs ++ N.drop i
theorem zr_len (i : Nat) (N : List Cm.N5) (h : i ≤ N.length) : (zr i N).length = N.length := by unfold zr; rw [List.length_append, List.length_map, List.length_take, List.length_drop]; omega
theorem zr_at (i : Nat) (N : List Cm.N5) (h : i < N.length) : (zr i N)[i]'(by rw [zr_len i N (by omega)]; exact h) = N[i] := by
  have hl : ((N.take i).map zs).length = i := by rw [List.length_map, List.length_take]; omega
  unfold zr
  rw [List.getElem_append_right (by omega)]
  simp only [hl, Nat.sub_self, List.getElem_drop, Nat.add_zero]
theorem zr_set (i : Nat) (N : List Cm.N5) (h : i < N.length) : (zr i N).set i (zs N[i]) = zr (i + 1) N := by
  have hl : ((N.take i).map zs).length = i := by rw [List.length_map, List.length_take]; omega
  unfold zr
  rw [List.set_append_right _ _ (by omega), hl, Nat.sub_self, List.drop_eq_getElem_cons h, List.set_cons_zero, List.take_add_one, List.getElem?_eq_getElem h, Option.toList_some, List.map_append, List.append_assoc]
  rfl
theorem zr_all (N : List Cm.N5) : zr N.length N = N.map zs := by unfold zr; rw [List.take_length, List.drop_length, List.append_nil]
theorem zs_vld {N : List Cm.N5} (h : Cm.vldN N = 0) : Cm.vldN (N.map zs) = 0 := by
  obtain ⟨h1, h2, h3⟩ := Cm.vldN_ok h
  refine vldN_zero (by rw [List.length_map]; exact h1) (fun n hn => ?_) (ascN_of ?_)
  · obtain ⟨x, hx, rfl⟩ := List.mem_map.1 hn
    have hc := h2 x hx
    unfold Cm.chkN at hc ⊢
    by_cases q : El.Elt.Ex x.1
    · rw [if_pos q] at hc
      by_cases q2 : 0 ≤ x.2.1 ∧ x.2.1 ≤ 19 ∧ 1 ≤ x.2.2.1 ∧ x.2.2.1 ≤ 12 ∧ -10000 ≤ x.2.2.2.1 ∧ x.2.2.2.1 ≤ 20000 ∧ 0 ≤ x.2.2.2.2 ∧ x.2.2.2.2 ≤ 20000
      · unfold zs
        dsimp only
        rw [if_pos q, if_pos (by omega)]
      · rw [if_neg q2] at hc; omega
    · rw [if_neg q] at hc; omega
  · rw [List.pairwise_map]
    exact ascN_pw h3
theorem zs_fnd (N : List Cm.N5) (k : Cm.K3) : Cm.fndN (N.map zs) k = (Cm.fndN N k).map zs := by
  unfold Cm.fndN
  rw [List.find?_map]
  rfl
/-- A reading is among the rejected elements exactly if it is rejected. -/
theorem rej_has {N : List Cm.N5} {f mo : Int} {L : List El.Elt.R} (h : El.Elt.vld L = 0) {x : El.Elt.R} (hx : x ∈ L) : (rejL N f mo L).contains x.1 = rej1 N f mo x := by
  have key : x.1 ∈ rejL N f mo L ↔ rej1 N f mo x = true := by
    unfold rejL
    rw [List.mem_map]
    constructor
    · rintro ⟨y, hy, e⟩
      obtain ⟨hy1, hy2⟩ := List.mem_filter.1 hy
      have e1 := fnd_of h hy1
      have e2 := fnd_of h hx
      rw [e, e2] at e1
      have : y = x := Prod.ext e (Option.some.inj e1).symm
      rw [← this]; exact hy2
    · intro hr
      exact ⟨x, List.mem_filter.2 ⟨hx, hr⟩, rfl⟩
  cases hr : rej1 N f mo x with
  | true => rw [List.contains_iff_mem]; exact key.2 hr
  | false =>
    cases hc : (rejL N f mo L).contains x.1 with
    | false => rfl
    | true => have := key.1 (List.contains_iff_mem.1 hc); rw [hr] at this; cases this
/-- What a learned climate says of a report. -/
theorem learned {R : List Rp} (h0 : errC R = 0) {r : Rp} (hr : r ∈ R) (N : List Cm.N5) (hN : N = outC R 2640) :
    rejL N r.F (mth r.t) r.L = [] ∧ ∀ x ∈ r.L, ∃ n, Cm.fndN N (x.1, r.F, mth r.t) = some n ∧ n ∈ N ∧ x.2 - n.2.2.2.1 ≤ n.2.2.2.2 ∧ n.2.2.2.1 - x.2 ≤ n.2.2.2.2 := by
  have key : ∀ x ∈ r.L, ∃ n, Cm.fndN N (x.1, r.F, mth r.t) = some n ∧ n ∈ N ∧ x.2 - n.2.2.2.1 ≤ n.2.2.2.2 ∧ n.2.2.2.1 - x.2 ≤ n.2.2.2.2 := fun x hx => by
    obtain ⟨⟨n, hn, rfl⟩, h2, h3, h4⟩ := has_normal h0 hr hx
    rw [hN]
    exact ⟨_, h2, hn, h3, h4⟩
  refine ⟨?_, key⟩
  unfold rejL
  rw [List.filter_eq_nil_iff.2 (fun x hx => ?_)]
  · rfl
  · obtain ⟨n, h1, -, h2, h3⟩ := key x hx
    unfold rej1
    rw [h1]
    unfold farN
    simp only [Bool.or_eq_true, decide_eq_true_eq]
    omega
/-- Without spread exactly the readings that differ from the mean are rejected. -/
theorem zs_rej {N : List Cm.N5} {f mo : Int} {x : El.Elt.R} {n : Cm.N5} (h : Cm.fndN N (x.1, f, mo) = some n) : rej1 (N.map zs) f mo x = (x.2 - n.2.2.2.1 != 0) := by
  unfold rej1
  rw [zs_fnd, h]
  show farN (zs n) x.2 = _
  unfold farN zs
  dsimp only
  rw [Bool.eq_iff_iff, Bool.or_eq_true, decide_eq_true_eq, decide_eq_true_eq, bne_iff_ne]
  omega
end Go.Proofs.YtcheadbhkbbegaaDoor
