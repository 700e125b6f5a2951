/- Texts of this proof. -/
import Derived.Test.YtcheadbhkbbegaaDoorCmT
import Derived.Test.YtcheadbhkbbegaaDoorQao
import Derived.Test.YtcheadbhkbbegaaDoorQah
import Derived.Test.YtcheadbhkbbegaaDoorQaq
namespace Go.Proofs.YtcheadbhkbbegaaDoor
open Go.RowKit Go.Maps

def tOf (P : List (Sl × Int)) (k : Sl) : Tl := (P.filter fun p => decide (p.1 = k)).foldl (fun t p => wth t p.2) (0, 0, 0, 0)
theorem tOf_same (P : List (Sl × Int)) (k : Sl) (x : Int) : tOf (P ++ [(k, x)]) k = wth (tOf P k) x := by simp [tOf]
theorem tOf_other (P : List (Sl × Int)) {k k' : Sl} (x : Int) (h : k' ≠ k) : tOf (P ++ [(k, x)]) k' = tOf P k' := by
  have : ¬ k = k' := fun e => h e.symm
  simp [tOf, this]
theorem fold_ok : ∀ (l : List (Sl × Int)) (t : Tl) (n : Nat), TlOk n t → (∀ p ∈ l, -11000 ≤ p.2 ∧ p.2 ≤ 11000) → TlOk (n + l.length) (l.foldl (fun t p => wth t p.2) t)
  | [], t, n, h, _ => h
  | p :: l, t, n, h, hp => by
    have h1 := wth_ok h (hp p (by simp)).1 (hp p (by simp)).2
    have := fold_ok l _ (n + 1) h1 (fun q hq => hp q (by simp [hq]))
    rw [List.length_cons, show n + (l.length + 1) = n + 1 + l.length by omega]
    exact this
theorem TlOk.mono {n m : Nat} {t : Tl} (h : TlOk n t) (hm : n ≤ m) : TlOk m t := by
  obtain ⟨⟨h1, h2⟩, h3⟩ := h
  exact ⟨⟨h1, by omega⟩, h3⟩
theorem tOf_ok (P : List (Sl × Int)) (k : Sl) (h : ∀ p ∈ P, -11000 ≤ p.2 ∧ p.2 ≤ 11000) : TlOk P.length (tOf P k) := by
  have h0 : TlOk 0 ((0, 0, 0, 0) : Tl) := by
    refine ⟨⟨?_, ?_⟩, ⟨?_, ?_⟩, ⟨?_, ?_⟩, ?_, ?_⟩ <;> decide
  have := fold_ok (P.filter fun p => decide (p.1 = k)) _ 0 h0 (fun p hp => h p ((List.mem_filter.1 hp).1))
  refine TlOk.mono this ?_
  rw [Nat.zero_add]
  exact List.length_filter_le _ _
/-- A slot that has a value has a count. -/
theorem wth_pos (t : Tl) (x : Int) (h : 0 ≤ t.1) : 1 ≤ (wth t x).1 := by
  obtain ⟨n, s, lo, hi⟩ := t
  unfold wth
  by_cases h0 : n = 0
  · rw [if_pos h0]; exact Int.le_refl _
  · rw [if_neg h0]
    have h' : 0 ≤ n := h
    show 1 ≤ n + 1
    omega
/-- The slots of P, each once. -/
def ksl (P : List (Sl × Int)) : List Sl := P.foldl (fun a p => if p.1 ∈ a then a else a ++ [p.1]) []
theorem ksl_snoc (P : List (Sl × Int)) (k : Sl) (x : Int) : ksl (P ++ [(k, x)]) = if k ∈ ksl P then ksl P else ksl P ++ [k] := by unfold ksl; rw [List.foldl_append]; rfl
theorem ksl_fold : ∀ (P : List (Sl × Int)) (a : List Sl) (k : Sl), k ∈ P.foldl (fun a p => if p.1 ∈ a then a else a ++ [p.1]) a ↔ k ∈ a ∨ ∃ p ∈ P, p.1 = k
  | [], a, k => by simp
  | q :: P, a, k => by
    rw [List.foldl_cons, ksl_fold P]
    by_cases h : q.1 ∈ a
    · rw [if_pos h]
      simp only [List.mem_cons]
      exact ⟨fun u => u.imp id fun ⟨p, hp, e⟩ => ⟨p, .inr hp, e⟩, fun u => u.elim .inl fun ⟨p, hp, e⟩ => hp.elim (fun e' => .inl (by rw [← e, e']; exact h)) fun hp => .inr ⟨p, hp, e⟩⟩
    · rw [if_neg h]
      simp only [List.mem_append, List.mem_cons, List.not_mem_nil, or_false]
      exact ⟨fun u => u.elim (fun v => v.elim .inl fun e => .inr ⟨q, .inl rfl, e.symm⟩) fun ⟨p, hp, e⟩ => .inr ⟨p, .inr hp, e⟩, fun u => u.elim (fun v => .inl (.inl v)) fun ⟨p, hp, e⟩ => hp.elim (fun e' => .inl (.inr (by rw [← e, e']))) fun hp => .inr ⟨p, hp, e⟩⟩
theorem ksl_mem (P : List (Sl × Int)) (k : Sl) : k ∈ ksl P ↔ ∃ p ∈ P, p.1 = k := by
  have := ksl_fold P [] k
  unfold ksl
  rw [this]; simp
/-- Block b is the map of the tallies of P. -/
structure Lp (w : World) (b : Nat) (P : List (Sl × Int)) (f : Sl → Option Value) : Prop where
  map : Ms w b P.length (ksl P).length f
  val : ∀ k, (f k).getD (tlV (0, 0, 0, 0)) = tlV (tOf P k)
  has : ∀ k, (f k).isSome = true ↔ ∃ p ∈ P, p.1 = k
theorem Lp.made (w : World) : Lp (w.alloc (.map #[] 0)) w.heap.size [] (fun _ => none) := ⟨Ms.made w, fun _ => rfl, fun k => by simp⟩
theorem Lp.kept {w w' : World} {b : Nat} {P : List (Sl × Int)} {f : Sl → Option Value} {row : Option Nat} (h : Lp w b P f) (hg : w.grownBy w' row) (hne : some b ≠ row) : Lp w' b P f := ⟨h.map.kept hg hne, h.val, h.has⟩
theorem Lp.look {w : World} {b : Nat} {P : List (Sl × Int)} {f : Sl → Option Value} (h : Lp w b P f) {t e : TypeId} (ht : Tryd.prog.underlying t = some (.map 108 e)) (hz : (zeroValue e).run Tryd.prog w = .ok (tlV (0, 0, 0, 0)) w) {key : Sl} (hk : SlOk key) :
    (Instr.lookup t (.map (some b)) (slV key) false).run Tryd.prog w = .ok (tlV (tOf P key)) w := by
  rw [h.map.look ht hz hk, h.val]
theorem Lp.step {w : World} {b : Nat} {P : List (Sl × Int)} {f : Sl → Option Value} (h : Lp w b P f) {t e : TypeId} (ht : Tryd.prog.underlying t = some (.map 108 e)) (hn : P.length < maxLen) {key : Sl} (hk : SlOk key) (x : Int) :
    ∃ w' f', (Instr.mapUpdate t (.map (some b)) (slV key) (tlV (wth (tOf P key) x))).run Tryd.prog w = .ok () w' ∧ Lp w' b (P ++ [(key, x)]) f' ∧ w.grownBy w' (some b) := by
  obtain ⟨w', hr, hm, hg⟩ := h.map.update ht hn hk (tlV (wth (tOf P key) x))
  refine ⟨w', _, hr, ⟨by
    rw [List.length_append, ksl_snoc]
    by_cases hs : (f key).isSome = true
    · rw [if_pos hs] at hm; rw [if_pos ((ksl_mem P key).2 ((h.has key).1 hs))]; exact hm
    · rw [if_neg hs] at hm; rw [if_neg (fun q => hs ((h.has key).2 ((ksl_mem P key).1 q))), List.length_append]; exact hm, fun k => ?_, fun k => ?_⟩, hg⟩
  · by_cases e : k = key
    · subst e; rw [if_pos rfl, tOf_same]; rfl
    · rw [if_neg e, tOf_other P x e, h.val]
  · by_cases e : k = key
    · subst e; rw [if_pos rfl]; simp
    · rw [if_neg e, h.has]
      simp only [List.mem_append, List.mem_singleton]
      exact ⟨fun ⟨p, hp, q⟩ => ⟨p, .inl hp, q⟩, fun ⟨p, hp, q⟩ => ⟨p, hp.resolve_right (fun e' => e (by rw [← q, e'])), q⟩⟩
end Go.Proofs.YtcheadbhkbbegaaDoor

namespace Go.Proofs.YtcheadbhkbbegaaDoor
open Go.RowKit Go.Maps

theorem nrm_iff {f : Nat} {A B C : Int} (hv : Pl.Ico.Vld f A B C) : nrm f A B C = true ↔ Pl.Ico.nf f A B C = f := by
  constructor
  · intro h
    unfold nrm at h
    simp only [Bool.and_eq_true, beq_iff_eq] at h
    have h1 : ((Pl.Ico.nf f A B C : Nat) : Int) = (f : Int) := h.2.1.1.1
    omega
  · intro h
    have e : (f : Int).toNat = f := by omega
    have hf : f < 20 := hv.1
    have n0 : Pl.nw f A B C 0 = A := by unfold Pl.nw; rw [h, Pl.Ico.wt0]
    have n1 : Pl.nw f A B C 1 = B := by unfold Pl.nw; rw [h, Pl.Ico.wt1 hf]
    have n2 : Pl.nw f A B C 2 = C := by unfold Pl.nw; rw [h, Pl.Ico.wt2 hf]
    unfold nrm
    rw [e, n0, n1, n2, h, Pl.vb_of hv]
    simp
/-- What Learn asks of a report. -/
theorem erP (r : Rp) : erC r = if (fam r.F r.A r.B r.C r.t).2.2 ≠ 0 ∨ (fam r.F r.A r.B r.C r.t).1 ≠ r.F then 1 else El.Elt.vld r.L := by
  unfold erC
  by_cases hc : Pl.vb r.F r.A r.B r.C = true ∧ Ck.Cal.rng r.t = true
  · obtain ⟨f, hf, hv⟩ := Pl.vb_to hc.1
    have hfam : fam r.F r.A r.B r.C r.t = (((Pl.Ico.nf f r.A r.B r.C : Nat) : Int), mth r.t, 0) := by rw [hf]; exact fam_at hv hc.2 rfl
    rw [hfam]
    rw [hf]
    by_cases hn : Pl.Ico.nf f r.A r.B r.C = f
    · rw [if_pos ⟨(nrm_iff hv).2 hn, hc.2⟩, if_neg (by rw [hn]; simp)]
    · rw [if_neg (fun h => hn ((nrm_iff hv).1 h.1)), if_pos (.inr (by show ((Pl.Ico.nf f r.A r.B r.C : Nat) : Int) ≠ (f : Int); omega))]
  · have hfam : fam r.F r.A r.B r.C r.t = (0, 0, 1) := by unfold fam; rw [if_neg hc]
    have hno : ¬ (nrm r.F r.A r.B r.C = true ∧ Ck.Cal.rng r.t = true) := by
      rintro ⟨h1, h2⟩
      refine hc ⟨?_, h2⟩
      unfold nrm at h1
      simp only [Bool.and_eq_true] at h1
      exact h1.1
    rw [hfam, if_neg hno, if_pos (Or.inl (by decide))]
end Go.Proofs.YtcheadbhkbbegaaDoor

namespace Go.Proofs.YtcheadbhkbbegaaDoor
open Go.RowKit Go.Maps

/-- The pairs of a slot and a value that a report adds. -/
noncomputable def prs1 (r : Rp) : List (Sl × Int) := r.L.map fun x => ((x.1, r.F, mth r.t), x.2)
noncomputable def prs (R : List Rp) : List (Sl × Int) := R.flatMap prs1
theorem prs_snoc (R : List Rp) (k : Nat) (h : k < R.length) : prs (R.take (k + 1)) = prs (R.take k) ++ prs1 R[k] := by
  unfold prs
  rw [List.take_add_one, List.getElem?_eq_getElem h, Option.toList_some, List.flatMap_append]
  simp
/-- The pairs of a list of readings on a face in a month. -/
def prsL (f mo : Int) (L : List El.Elt.R) : List (Sl × Int) := L.map fun x => ((x.1, f, mo), x.2)
theorem prsL_snoc (f mo : Int) (L : List El.Elt.R) (i : Nat) (h : i < L.length) : prsL f mo (L.take (i + 1)) = prsL f mo (L.take i) ++ [((L[i].1, f, mo), L[i].2)] := by
  unfold prsL
  rw [List.take_add_one, List.getElem?_eq_getElem h, Option.toList_some, List.map_append]
  rfl
theorem prs_len : ∀ (R : List Rp), (∀ r ∈ R, r.L.length ≤ 40) → (prs R).length ≤ 40 * R.length
  | [], _ => by simp [prs]
  | r :: R, h => by
    have h1 := prs_len R fun q hq => h q (by simp [hq])
    have h2 := h r (by simp)
    have e : prs (r :: R) = prs1 r ++ prs R := by simp [prs]
    rw [e, List.length_append, List.length_cons]
    have h3 : (prs1 r).length = r.L.length := by simp [prs1]
    omega
theorem vals_bd {L : List El.Elt.R} (h : El.Elt.vld L = 0) : ∀ x ∈ L, (1 ≤ x.1 ∧ x.1 ≤ 11) ∧ -11000 ≤ x.2 ∧ x.2 ≤ 11000 := by
  intro x hx
  have hv := vld_vals h x hx
  have := El.Elt.val_bd hv
  obtain ⟨he, -⟩ := hv
  unfold El.Elt.Ex at he
  omega
theorem prs_bd {R : List Rp} (h : ∀ r ∈ R, El.Elt.vld r.L = 0) : ∀ p ∈ prs R, -11000 ≤ p.2 ∧ p.2 ≤ 11000 := by
  intro p hp
  obtain ⟨r, hr, hp⟩ := List.mem_flatMap.1 hp
  obtain ⟨x, hx, rfl⟩ := List.mem_map.1 hp
  exact (vals_bd (h r hr) x hx).2
theorem erC_vld {r : Rp} (h : erC r = 0) : El.Elt.vld r.L = 0 := by
  unfold erC at h
  by_cases hc : nrm r.F r.A r.B r.C = true ∧ Ck.Cal.rng r.t = true
  · rw [if_pos hc] at h; exact h
  · rw [if_neg hc] at h; omega
theorem take_vld {R : List Rp} {k : Nat} (h : ∀ j, ∀ hj : j < R.length, j < k → erC R[j] = 0) : ∀ r ∈ R.take k, El.Elt.vld r.L = 0 := by
  intro r hr
  obtain ⟨j, hj, rfl⟩ := List.getElem_of_mem hr
  rw [List.length_take] at hj
  rw [List.getElem_take]
  exact erC_vld (h j (by omega) (by omega))
theorem fam_i64 (F A B C t : Int) : I64 (fam F A B C t).1 ∧ I64 (fam F A B C t).2.1 := by
  by_cases hc : Pl.vb F A B C = true ∧ Ck.Cal.rng t = true
  · obtain ⟨f, hf, hv⟩ := Pl.vb_to hc.1
    have hr : 0 ≤ t ∧ t ≤ 52595999 := by have := hc.2; unfold Ck.Cal.rng at this; simpa using this
    obtain ⟨y, m, d, hh, i, hcv, hcn, -⟩ := Ck.Cal.num_of t hr.1 hr.2
    have hm := Ck.Cal.vld_iff.1 hcv
    have hn := (Pl.Ico.nf_ok hv).1
    rw [hf, fam_at hv hc.2 (mth_eq hcv hcn)]
    exact ⟨⟨by show (-9223372036854775808 : Int) ≤ ((Pl.Ico.nf f A B C : Nat) : Int); omega, by show ((Pl.Ico.nf f A B C : Nat) : Int) ≤ 9223372036854775807; omega⟩, ⟨by show (-9223372036854775808 : Int) ≤ m; omega, by show m ≤ 9223372036854775807; omega⟩⟩
  · unfold fam
    rw [if_neg hc]
    exact ⟨⟨by decide, by decide⟩, ⟨by decide, by decide⟩⟩
end Go.Proofs.YtcheadbhkbbegaaDoor

namespace Go.Proofs.YtcheadbhkbbegaaDoor
open Go.RowKit Go.Maps

/-- The values of a slot. -/
def vl (P : List (Sl × Int)) (k : Sl) : List Int := (P.filter fun p => decide (p.1 = k)).map (·.2)
/-- A tally of a list of values. -/
structure TlF (t : Tl) (V : List Int) : Prop where
  cnt : t.1 = (V.length : Int)
  sum : t.2.1 = V.sum
  lo : V ≠ [] → t.2.2.1 ∈ V ∧ ∀ v ∈ V, t.2.2.1 ≤ v
  hi : V ≠ [] → t.2.2.2 ∈ V ∧ ∀ v ∈ V, v ≤ t.2.2.2
theorem TlF.nil : TlF (0, 0, 0, 0) [] := ⟨rfl, rfl, fun h => absurd rfl h, fun h => absurd rfl h⟩
theorem TlF.snoc {t : Tl} {V : List Int} (h : TlF t V) (x : Int) : TlF (wth t x) (V ++ [x]) := by
  obtain ⟨n, s, lo, hi⟩ := t
  obtain ⟨h1, h2, h3, h4⟩ := h
  dsimp only at *
  unfold wth
  by_cases h0 : n = 0
  · have hV : V = [] := List.eq_nil_of_length_eq_zero (by omega)
    subst hV
    rw [if_pos h0]
    exact ⟨by simp, by simp, fun _ => ⟨by simp, by simp⟩, fun _ => ⟨by simp, by simp⟩⟩
  · have hV : V ≠ [] := fun e => h0 (by rw [h1, e]; rfl)
    obtain ⟨l1, l2⟩ := h3 hV
    obtain ⟨m1, m2⟩ := h4 hV
    rw [if_neg h0]
    refine ⟨?_, ?_, fun _ => ⟨?_, ?_⟩, fun _ => ⟨?_, ?_⟩⟩
    · show n + 1 = _
      rw [List.length_append, List.length_singleton, h1]; push_cast; rfl
    · show s + x = _
      rw [List.sum_append, h2]; simp
    · show min lo x ∈ _
      rw [Int.min_def]; split
      · exact List.mem_append_left _ l1
      · simp
    · intro v hv
      show min lo x ≤ v
      rcases List.mem_append.1 hv with q | q
      · have := l2 v q; omega
      · rw [List.mem_singleton] at q; subst q; omega
    · show max hi x ∈ _
      rw [Int.max_def]; split
      · simp
      · exact List.mem_append_left _ m1
    · intro v hv
      show v ≤ max hi x
      rcases List.mem_append.1 hv with q | q
      · have := m2 v q; omega
      · rw [List.mem_singleton] at q; subst q; omega
theorem TlF.fold : ∀ (l : List (Sl × Int)) (t : Tl) (V : List Int), TlF t V → TlF (l.foldl (fun t p => wth t p.2) t) (V ++ l.map (·.2))
  | [], t, V, h => by simpa using h
  | p :: l, t, V, h => by
    have := TlF.fold l _ _ (h.snoc p.2)
    simpa using this
theorem tOf_F (P : List (Sl × Int)) (k : Sl) : TlF (tOf P k) (vl P k) := by
  have := TlF.fold (P.filter fun p => decide (p.1 = k)) (0, 0, 0, 0) [] TlF.nil
  simpa [tOf, vl] using this
/-- The spread of a tally is that of its values. -/
theorem spr_tl {t : Tl} {V : List Int} (h : TlF t V) (h0 : V ≠ []) (a : Int) : max (t.2.2.2 - a) (a - t.2.2.1) = spr V a := by
  obtain ⟨l1, l2⟩ := h.lo h0
  obtain ⟨m1, m2⟩ := h.hi h0
  have q1 := spr_in a l1
  have q2 := spr_in a m1
  obtain ⟨v, hv, e⟩ := spr_hit a h0
  have := l2 v hv
  have := m2 v hv
  omega
theorem fil_fnd {L : List El.Elt.R} (h : El.Elt.vld L = 0) (c : Int) : (L.filter fun x => decide (x.1 = c)).map (·.2) = (El.Elt.fnd L c).toList := by
  have hp := El.asc_pw (vld_asc h)
  clear h
  unfold El.Elt.fnd
  induction L with
  | nil => rfl
  | cons x L ih =>
    rw [List.pairwise_cons] at hp
    by_cases e : x.1 = c
    · have hnone : ∀ y ∈ L, ¬ y.1 = c := fun y hy => by have := hp.1 y hy; omega
      have hf : L.filter (fun x => decide (x.1 = c)) = [] := List.filter_eq_nil_iff.2 fun y hy => by simpa using hnone y hy
      rw [List.filter_cons_of_pos (by simpa using e), hf, List.find?_cons_of_pos (by simpa using e)]
      rfl
    · rw [List.filter_cons_of_neg (by simpa using e), List.find?_cons_of_neg (by simpa using e)]
      exact ih hp.2
theorem vl_app (P Q : List (Sl × Int)) (k : Sl) : vl (P ++ Q) k = vl P k ++ vl Q k := by simp [vl]
theorem vl_one {r : Rp} (h : El.Elt.vld r.L = 0) (k : Sl) : vl (prs1 r) k = if (El.Elt.fnd r.L k.1).isSome && (r.F == k.2.1) && (mth r.t == k.2.2) then [(El.Elt.fnd r.L k.1).getD 0] else [] := by
  obtain ⟨c, f, mo⟩ := k
  have key : vl (prs1 r) (c, f, mo) = if r.F = f ∧ mth r.t = mo then (r.L.filter fun x => decide (x.1 = c)).map (·.2) else [] := by
    unfold vl prs1
    rw [List.filter_map, List.map_map]
    by_cases hc : r.F = f ∧ mth r.t = mo
    · rw [if_pos hc]
      obtain ⟨rfl, rfl⟩ := hc
      have : (fun p : Sl × Int => decide (p.1 = (c, r.F, mth r.t))) ∘ (fun x : El.Elt.R => (((x.1, r.F, mth r.t) : Sl), x.2)) = fun x => decide (x.1 = c) := by
        funext x; simp
      rw [this]; rfl
    · rw [if_neg hc]
      have : r.L.filter ((fun p : Sl × Int => decide (p.1 = (c, f, mo))) ∘ (fun x : El.Elt.R => (((x.1, r.F, mth r.t) : Sl), x.2))) = [] := List.filter_eq_nil_iff.2 fun y hy => by
        simp only [Function.comp_apply, Prod.mk.injEq, decide_eq_true_eq]
        exact fun q => hc q.2
      rw [this]; rfl
  rw [key, fil_fnd h]
  dsimp only
  by_cases hc : r.F = f ∧ mth r.t = mo
  · rw [if_pos hc]
    cases El.Elt.fnd r.L c <;> simp [hc.1, hc.2]
  · rw [if_neg hc]
    by_cases q : r.F = f
    · have q2 : ¬ mth r.t = mo := fun e => hc ⟨q, e⟩
      simp [q2]
    · simp [q]
theorem vl_prs : ∀ (R : List Rp), (∀ r ∈ R, El.Elt.vld r.L = 0) → ∀ k : Sl, vl (prs R) k = valsC R k.1 k.2.1 k.2.2
  | [], _, k => rfl
  | r :: R, h, k => by
    have e : prs (r :: R) = prs1 r ++ prs R := by simp [prs]
    rw [e, vl_app, vl_prs R (fun q hq => h q (by simp [hq])) k, vl_one (h r (by simp))]
    unfold valsC
    rw [List.filterMap_cons]
    split <;> split <;> simp_all
theorem ksl_vals {R : List Rp} (h : ∀ r ∈ R, El.Elt.vld r.L = 0) (k : Sl) : k ∈ ksl (prs R) ↔ valsC R k.1 k.2.1 k.2.2 ≠ [] := by
  rw [ksl_mem, ← vl_prs R h k]
  unfold vl
  rw [Ne, List.map_eq_nil_iff, List.filter_eq_nil_iff]
  constructor
  · rintro ⟨p, hp, e⟩ h
    exact h p hp (by simpa using e)
  · intro h
    by_cases q : ∃ p ∈ prs R, p.1 = k
    · exact q
    · exact absurd (fun p hp e => q ⟨p, hp, by simpa using e⟩) h
theorem ksl_nodup : ∀ (P : List (Sl × Int)) (a : List Sl), a.Nodup → (P.foldl (fun a p => if p.1 ∈ a then a else a ++ [p.1]) a).Nodup
  | [], a, h => h
  | p :: P, a, h => by
    rw [List.foldl_cons]
    refine ksl_nodup P _ ?_
    split
    · exact h
    · rename_i hn
      rw [List.nodup_append]
      exact ⟨h, by simp, fun x hx y hy => by rw [List.mem_singleton] at hy; subst hy; exact fun e => hn (e ▸ hx)⟩
/-- The normal of a slot. -/
noncomputable def nrK (R : List Rp) (k : Sl) : Cm.N5 := nrC R k.1 k.2.1 k.2.2
theorem nrK_key (R : List Rp) (k : Sl) : Cm.key (nrK R k) = k := rfl
theorem slot_ok {R : List Rp} (h0 : errC R = 0) {k : Sl} (hk : valsC R k.1 k.2.1 k.2.2 ≠ []) : El.Elt.Ex k.1 ∧ (0 ≤ k.2.1 ∧ k.2.1 ≤ 19) ∧ 1 ≤ k.2.2 ∧ k.2.2 ≤ 12 := by
  obtain ⟨v, hv⟩ := List.exists_mem_of_ne_nil _ hk
  unfold valsC at hv
  obtain ⟨r, hr, he⟩ := List.mem_filterMap.1 hv
  obtain ⟨hn, hg, hvd⟩ := erC_parts (errC_all h0 r hr)
  split at he
  · rename_i hc
    simp only [Bool.and_eq_true, beq_iff_eq] at hc
    obtain ⟨⟨h1, h2⟩, h3⟩ := hc
    refine ⟨?_, by rw [← h2]; exact nrm_face hn, by rw [← h3]; exact mth_bd hg⟩
    obtain ⟨v', hf⟩ := Option.isSome_iff_exists.1 h1
    unfold El.Elt.fnd at hf
    obtain ⟨x, hx, -⟩ := Option.map_eq_some_iff.1 hf
    have e1 : x.1 = k.1 := by simpa using List.find?_some hx
    rw [← e1]
    exact (vld_vals hvd x (List.mem_of_find?_eq_some hx)).1
  · cases he
theorem out_iff {R : List Rp} (h0 : errC R = 0) (n : Cm.N5) : n ∈ outC R 2640 ↔ ∃ k : Sl, valsC R k.1 k.2.1 k.2.2 ≠ [] ∧ nrK R k = n := by
  constructor
  · intro hn
    obtain ⟨i, hi, hn⟩ := outC_mem.1 hn
    unfold entI at hn
    generalize ((i / 240 : Nat) : Int) + 1 = c at *
    generalize ((i / 12 % 20 : Nat) : Int) = f at *
    generalize ((i % 12 : Nat) : Int) + 1 = mo at *
    by_cases hv : valsC R c f mo = []
    · unfold entC at hn; rw [if_pos hv] at hn; cases hn
    · rw [entC_nr hv, List.mem_singleton] at hn
      exact ⟨(c, f, mo), hv, hn.symm⟩
  · rintro ⟨k, hk, rfl⟩
    obtain ⟨h1, h2, h3⟩ := slot_ok h0 hk
    exact out_mem h1 h2 h3 hk
/-- Any list of the slots, each once, gives the normals in some order. -/
theorem out_perm {R : List Rp} (h0 : errC R = 0) {K : List Sl} (hn : K.Nodup) (hk : ∀ k, k ∈ K ↔ valsC R k.1 k.2.1 k.2.2 ≠ []) : (K.map (nrK R)).Perm (outC R 2640) := by
  refine (List.perm_ext_iff_of_nodup ?_ ?_).2 fun n => ?_
  · rw [List.Nodup, List.pairwise_map]
    exact hn.imp fun {a b} hab e => hab (by rw [← nrK_key R a, ← nrK_key R b, e])
  · exact (outC_pw R 2640).imp fun {a b} hab e => by subst e; exact Cm.lt3_irr hab
  · rw [out_iff h0, List.mem_map]
    exact ⟨fun ⟨k, h1, h2⟩ => ⟨k, (hk k).1 h1, h2⟩, fun ⟨k, h1, h2⟩ => ⟨k, (hk k).2 h1, h2⟩⟩
/-- .. and sorted, in the one order. -/
theorem out_sorted {R : List Rp} (h0 : errC R = 0) {K : List Sl} (hn : K.Nodup) (hk : ∀ k, k ∈ K ↔ valsC R k.1 k.2.1 k.2.2 ≠ []) (hs : K.Pairwise (fun a b => ¬ Cm.lt3 b a)) : K.map (nrK R) = outC R 2640 := by
  refine List.Perm.eq_of_pairwise (le := fun a b => ¬ Cm.lt3 (Cm.key b) (Cm.key a)) ?_ ?_ ?_ (out_perm h0 hn hk)
  · intro a b ha hb h1 h2
    rw [List.mem_map] at ha
    obtain ⟨k, -, rfl⟩ := ha
    obtain ⟨k', -, rfl⟩ := (out_iff h0 b).1 hb
    rw [nrK_key, nrK_key] at h1 h2
    rcases Cm.lt3_tri k k' with q | q | q
    · exact absurd q h2
    · rw [q]
    · exact absurd q h1
  · rw [List.pairwise_map]
    exact hs.imp fun {a b} h => by rw [nrK_key, nrK_key]; exact h
  · exact (outC_pw R 2640).imp fun {a b} hab q => Cm.lt3_irr (Cm.lt3_trans hab q)
theorem ksl_len {R : List Rp} (h0 : errC R = 0) : (ksl (prs R)).length = (outC R 2640).length := by
  have hv : ∀ r ∈ R, El.Elt.vld r.L = 0 := fun r hr => (erC_parts (errC_all h0 r hr)).2.2
  have := (out_perm h0 (K := ksl (prs R)) (ksl_nodup _ [] List.nodup_nil) (fun k => ksl_vals hv k)).length_eq
  rw [List.length_map] at this
  exact this
/-- A tally of the reports gives the mean and the spread. -/
theorem tl_nr {R : List Rp} (hv : ∀ r ∈ R, El.Elt.vld r.L = 0) {k : Sl} (hk : valsC R k.1 k.2.1 k.2.2 ≠ []) :
    (tOf (prs R) k).2.1 / (tOf (prs R) k).1 = (nrK R k).2.2.2.1 ∧ max ((tOf (prs R) k).2.2.2 - (nrK R k).2.2.2.1) ((nrK R k).2.2.2.1 - (tOf (prs R) k).2.2.1) = (nrK R k).2.2.2.2 ∧ 1 ≤ (tOf (prs R) k).1 := by
  have hF := tOf_F (prs R) k
  rw [vl_prs R hv k] at hF
  have e1 : (tOf (prs R) k).2.1 / (tOf (prs R) k).1 = (nrK R k).2.2.2.1 := by rw [hF.cnt, hF.sum]; rfl
  refine ⟨e1, ?_, ?_⟩
  · rw [spr_tl hF hk]; rfl
  · rw [hF.cnt]
    have := List.length_pos_iff.2 hk
    omega
end Go.Proofs.YtcheadbhkbbegaaDoor
