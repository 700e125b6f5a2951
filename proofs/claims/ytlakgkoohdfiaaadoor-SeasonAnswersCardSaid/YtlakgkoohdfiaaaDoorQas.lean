/- Texts of this proof. -/
import Derived.Test.YtlakgkoohdfiaaaDoorQar
import Derived.Test.YtlakgkoohdfiaaaDoorQao
import Derived.Test.YtlakgkoohdfiaaaDoorQai
import Derived.Test.YtlakgkoohdfiaaaDoorQap
import Derived.Test.YtlakgkoohdfiaaaDoorQau
import Derived.Test.YtlakgkoohdfiaaaDoorShelfS
import Derived.Test.YtlakgkoohdfiaaaDoorQal
namespace Go.Proofs.YtlakgkoohdfiaaaDoor
open Go.RowKit Go.Maps

def tOf (P : List (Sl × Int)) (k : Sl) : Tl := (P.filter fun p => decide (p.1 = k)).foldl (fun t p => wth t p.2) (0, 0, 0, 0)
theorem tOf_same (P : List (Sl × Int)) (k : Sl) (x : Int) : tOf (P ++ [(k, x)]) k = wth (tOf P k) x := by simp [tOf]
theorem tOf_other (P : List (Sl × Int)) {k k' : Sl} (x : Int) (h : k' ≠ k) : tOf (P ++ [(k, x)]) k' = tOf P k' := by
  have : ¬ k = k' := fun e => h e.symm
  simp [tOf, this]
theorem fold_ok : ∀ (l : List (Sl × Int)) (t : Tl) (n : Nat), TlOk n t → (∀ p ∈ l, -11000 ≤ p.2 ∧ p.2 ≤ 11000) → TlOk (n + l.length) (l.foldl (fun t p => wth t p.2) t)
  | [], t, n, h, _ => h
  | p :: l, t, n, h, hp => by
    have h1 := wth_ok h (hp p (by simp)).1 (hp p (by simp)).2
    have := fold_ok l _ (n + 1) h1 (fun q hq => hp q (by simp [hq]))
    rw [List.length_cons, show n + (l.length + 1) = n + 1 + l.length by omega]
    exact this
theorem TlOk.mono {n m : Nat} {t : Tl} (h : TlOk n t) (hm : n ≤ m) : TlOk m t := by
  obtain ⟨⟨h1, h2⟩, h3⟩ := h
  exact ⟨⟨h1, by omega⟩, h3⟩
theorem tOf_ok (P : List (Sl × Int)) (k : Sl) (h : ∀ p ∈ P, -11000 ≤ p.2 ∧ p.2 ≤ 11000) : TlOk P.length (tOf P k) := by
  have h0 : TlOk 0 ((0, 0, 0, 0) : Tl) := by
    refine ⟨⟨?_, ?_⟩, ⟨?_, ?_⟩, ⟨?_, ?_⟩, ?_, ?_⟩ <;> decide
  have := fold_ok (P.filter fun p => decide (p.1 = k)) _ 0 h0 (fun p hp => h p ((List.mem_filter.1 hp).1))
  refine TlOk.mono this ?_
  rw [Nat.zero_add]
  exact List.length_filter_le _ _
/-- A slot that has a value has a count. -/
theorem wth_pos (t : Tl) (x : Int) (h : 0 ≤ t.1) : 1 ≤ (wth t x).1 := by
  obtain ⟨n, s, lo, hi⟩ := t
  unfold wth
  by_cases h0 : n = 0
  · rw [if_pos h0]; exact Int.le_refl _
  · rw [if_neg h0]
    have h' : 0 ≤ n := h
    show 1 ≤ n + 1
    omega
/-- The slots of P, each once. -/
def ksl (P : List (Sl × Int)) : List Sl := P.foldl (fun a p => if p.1 ∈ a then a else a ++ [p.1]) []
theorem ksl_snoc (P : List (Sl × Int)) (k : Sl) (x : Int) : ksl (P ++ [(k, x)]) = if k ∈ ksl P then ksl P else ksl P ++ [k] := by unfold ksl; rw [List.foldl_append]; rfl
theorem ksl_fold : ∀ (P : List (Sl × Int)) (a : List Sl) (k : Sl), k ∈ P.foldl (fun a p => if p.1 ∈ a then a else a ++ [p.1]) a ↔ k ∈ a ∨ ∃ p ∈ P, p.1 = k
  | [], a, k => by simp
  | q :: P, a, k => by
    rw [List.foldl_cons, ksl_fold P]
    by_cases h : q.1 ∈ a
    · rw [if_pos h]
      simp only [List.mem_cons]
      exact ⟨fun u => u.imp id fun ⟨p, hp, e⟩ => ⟨p, .inr hp, e⟩, fun u => u.elim .inl fun ⟨p, hp, e⟩ => hp.elim (fun e' => .inl (by rw [← e, e']; exact h)) fun hp => .inr ⟨p, hp, e⟩⟩
    · rw [if_neg h]
      simp only [List.mem_append, List.mem_cons, List.not_mem_nil, or_false]
      exact ⟨fun u => u.elim (fun v => v.elim .inl fun e => .inr ⟨q, .inl rfl, e.symm⟩) fun ⟨p, hp, e⟩ => .inr ⟨p, .inr hp, e⟩, fun u => u.elim (fun v => .inl (.inl v)) fun ⟨p, hp, e⟩ => hp.elim (fun e' => .inl (.inr (by rw [← e, e']))) fun hp => .inr ⟨p, hp, e⟩⟩
theorem ksl_mem (P : List (Sl × Int)) (k : Sl) : k ∈ ksl P ↔ ∃ p ∈ P, p.1 = k := by
  have := ksl_fold P [] k
  unfold ksl
  rw [this]; simp
/-- Block b is the map of the tallies of P. -/
structure Lp (w : World) (b : Nat) (P : List (Sl × Int)) (f : Sl → Option Value) : Prop where
  map : Ms w b P.length (ksl P).length f
  val : ∀ k, (f k).getD (tlV (0, 0, 0, 0)) = tlV (tOf P k)
  has : ∀ k, (f k).isSome = true ↔ ∃ p ∈ P, p.1 = k
theorem Lp.made (w : World) : Lp (w.alloc (.map #[] 0)) w.heap.size [] (fun _ => none) := ⟨Ms.made w, fun _ => rfl, fun k => by simp⟩
theorem Lp.kept {w w' : World} {b : Nat} {P : List (Sl × Int)} {f : Sl → Option Value} {row : Option Nat} (h : Lp w b P f) (hg : w.grownBy w' row) (hne : some b ≠ row) : Lp w' b P f := ⟨h.map.kept hg hne, h.val, h.has⟩
theorem Lp.look {w : World} {b : Nat} {P : List (Sl × Int)} {f : Sl → Option Value} (h : Lp w b P f) {t e : TypeId} (ht : Tryd.prog.underlying t = some (.map 118 e)) (hz : (zeroValue e).run Tryd.prog w = .ok (tlV (0, 0, 0, 0)) w) {key : Sl} (hk : SlOk key) :
    (Instr.lookup t (.map (some b)) (slV key) false).run Tryd.prog w = .ok (tlV (tOf P key)) w := by
  rw [h.map.look ht hz hk, h.val]
theorem Lp.step {w : World} {b : Nat} {P : List (Sl × Int)} {f : Sl → Option Value} (h : Lp w b P f) {t e : TypeId} (ht : Tryd.prog.underlying t = some (.map 118 e)) (hn : P.length < maxLen) {key : Sl} (hk : SlOk key) (x : Int) :
    ∃ w' f', (Instr.mapUpdate t (.map (some b)) (slV key) (tlV (wth (tOf P key) x))).run Tryd.prog w = .ok () w' ∧ Lp w' b (P ++ [(key, x)]) f' ∧ w.grownBy w' (some b) := by
  obtain ⟨w', hr, hm, hg⟩ := h.map.update ht hn hk (tlV (wth (tOf P key) x))
  refine ⟨w', _, hr, ⟨by
    rw [List.length_append, ksl_snoc]
    by_cases hs : (f key).isSome = true
    · rw [if_pos hs] at hm; rw [if_pos ((ksl_mem P key).2 ((h.has key).1 hs))]; exact hm
    · rw [if_neg hs] at hm; rw [if_neg (fun q => hs ((h.has key).2 ((ksl_mem P key).1 q))), List.length_append]; exact hm, fun k => ?_, fun k => ?_⟩, hg⟩
  · by_cases e : k = key
    · subst e; rw [if_pos rfl, tOf_same]; rfl
    · rw [if_neg e, tOf_other P x e, h.val]
  · by_cases e : k = key
    · subst e; rw [if_pos rfl]; simp
    · rw [if_neg e, h.has]
      simp only [List.mem_append, List.mem_singleton]
      exact ⟨fun ⟨p, hp, q⟩ => ⟨p, .inl hp, q⟩, fun ⟨p, hp, q⟩ => ⟨p, hp.resolve_right (fun e' => e (by rw [← q, e'])), q⟩⟩
end Go.Proofs.YtlakgkoohdfiaaaDoor

namespace Go.Proofs.YtlakgkoohdfiaaaDoor
open Go.RowKit Go.Maps

theorem nrm_iff {f : Nat} {A B C : Int} (hv : Pl.Ico.Vld f A B C) : nrm f A B C = true ↔ Pl.Ico.nf f A B C = f := by
  constructor
  · intro h
    unfold nrm at h
    simp only [Bool.and_eq_true, beq_iff_eq] at h
    have h1 : ((Pl.Ico.nf f A B C : Nat) : Int) = (f : Int) := h.2.1.1.1
    omega
  · intro h
    have e : (f : Int).toNat = f := by omega
    have hf : f < 20 := hv.1
    have n0 : Pl.nw f A B C 0 = A := by unfold Pl.nw; rw [h, Pl.Ico.wt0]
    have n1 : Pl.nw f A B C 1 = B := by unfold Pl.nw; rw [h, Pl.Ico.wt1 hf]
    have n2 : Pl.nw f A B C 2 = C := by unfold Pl.nw; rw [h, Pl.Ico.wt2 hf]
    unfold nrm
    rw [e, n0, n1, n2, h, Pl.vb_of hv]
    simp
/-- What Learn asks of a report. -/
theorem erP (r : Rp) : erC r = if (fam r.F r.A r.B r.C r.t).2.2 ≠ 0 ∨ (fam r.F r.A r.B r.C r.t).1 ≠ r.F then 1 else El.Elt.vld r.L := by
  unfold erC
  by_cases hc : Pl.vb r.F r.A r.B r.C = true ∧ Ck.Cal.rng r.t = true
  · obtain ⟨f, hf, hv⟩ := Pl.vb_to hc.1
    have hfam : fam r.F r.A r.B r.C r.t = (((Pl.Ico.nf f r.A r.B r.C : Nat) : Int), mth r.t, 0) := by rw [hf]; exact fam_at hv hc.2 rfl
    rw [hfam]
    rw [hf]
    by_cases hn : Pl.Ico.nf f r.A r.B r.C = f
    · rw [if_pos ⟨(nrm_iff hv).2 hn, hc.2⟩, if_neg (by rw [hn]; simp)]
    · rw [if_neg (fun h => hn ((nrm_iff hv).1 h.1)), if_pos (.inr (by show ((Pl.Ico.nf f r.A r.B r.C : Nat) : Int) ≠ (f : Int); omega))]
  · have hfam : fam r.F r.A r.B r.C r.t = (0, 0, 1) := by unfold fam; rw [if_neg hc]
    have hno : ¬ (nrm r.F r.A r.B r.C = true ∧ Ck.Cal.rng r.t = true) := by
      rintro ⟨h1, h2⟩
      refine hc ⟨?_, h2⟩
      unfold nrm at h1
      simp only [Bool.and_eq_true] at h1
      exact h1.1
    rw [hfam, if_neg hno, if_pos (Or.inl (by decide))]
end Go.Proofs.YtlakgkoohdfiaaaDoor

namespace Go.Proofs.YtlakgkoohdfiaaaDoor
open Go.RowKit Go.Maps

/-- The pairs of a slot and a value that a report adds. -/
noncomputable def prs1 (r : Rp) : List (Sl × Int) := r.L.map fun x => ((x.1, r.F, mth r.t), x.2)
noncomputable def prs (R : List Rp) : List (Sl × Int) := R.flatMap prs1
theorem prs_snoc (R : List Rp) (k : Nat) (h : k < R.length) : prs (R.take (k + 1)) = prs (R.take k) ++ prs1 R[k] := by
  unfold prs
  rw [List.take_add_one, List.getElem?_eq_getElem h, Option.toList_some, List.flatMap_append]
  simp
/-- The pairs of a list of readings on a face in a month. -/
def prsL (f mo : Int) (L : List El.Elt.R) : List (Sl × Int) := L.map fun x => ((x.1, f, mo), x.2)
theorem prsL_snoc (f mo : Int) (L : List El.Elt.R) (i : Nat) (h : i < L.length) : prsL f mo (L.take (i + 1)) = prsL f mo (L.take i) ++ [((L[i].1, f, mo), L[i].2)] := by
  unfold prsL
  rw [List.take_add_one, List.getElem?_eq_getElem h, Option.toList_some, List.map_append]
  rfl
theorem prs_len : ∀ (R : List Rp), (∀ r ∈ R, r.L.length ≤ 40) → (prs R).length ≤ 40 * R.length
  | [], _ => by simp [prs]
  | r :: R, h => by
    have h1 := prs_len R fun q hq => h q (by simp [hq])
    have h2 := h r (by simp)
    have e : prs (r :: R) = prs1 r ++ prs R := by simp [prs]
    rw [e, List.length_append, List.length_cons]
    have h3 : (prs1 r).length = r.L.length := by simp [prs1]
    omega
theorem vals_bd {L : List El.Elt.R} (h : El.Elt.vld L = 0) : ∀ x ∈ L, (1 ≤ x.1 ∧ x.1 ≤ 11) ∧ -11000 ≤ x.2 ∧ x.2 ≤ 11000 := by
  intro x hx
  have hv := vld_vals h x hx
  have := El.Elt.val_bd hv
  obtain ⟨he, -⟩ := hv
  unfold El.Elt.Ex at he
  omega
theorem prs_bd {R : List Rp} (h : ∀ r ∈ R, El.Elt.vld r.L = 0) : ∀ p ∈ prs R, -11000 ≤ p.2 ∧ p.2 ≤ 11000 := by
  intro p hp
  obtain ⟨r, hr, hp⟩ := List.mem_flatMap.1 hp
  obtain ⟨x, hx, rfl⟩ := List.mem_map.1 hp
  exact (vals_bd (h r hr) x hx).2
theorem erC_vld {r : Rp} (h : erC r = 0) : El.Elt.vld r.L = 0 := by
  unfold erC at h
  by_cases hc : nrm r.F r.A r.B r.C = true ∧ Ck.Cal.rng r.t = true
  · rw [if_pos hc] at h; exact h
  · rw [if_neg hc] at h; omega
theorem take_vld {R : List Rp} {k : Nat} (h : ∀ j, ∀ hj : j < R.length, j < k → erC R[j] = 0) : ∀ r ∈ R.take k, El.Elt.vld r.L = 0 := by
  intro r hr
  obtain ⟨j, hj, rfl⟩ := List.getElem_of_mem hr
  rw [List.length_take] at hj
  rw [List.getElem_take]
  exact erC_vld (h j (by omega) (by omega))
theorem fam_i64 (F A B C t : Int) : I64 (fam F A B C t).1 ∧ I64 (fam F A B C t).2.1 := by
  by_cases hc : Pl.vb F A B C = true ∧ Ck.Cal.rng t = true
  · obtain ⟨f, hf, hv⟩ := Pl.vb_to hc.1
    have hr : 0 ≤ t ∧ t ≤ 52595999 := by have := hc.2; unfold Ck.Cal.rng at this; simpa using this
    obtain ⟨y, m, d, hh, i, hcv, hcn, -⟩ := Ck.Cal.num_of t hr.1 hr.2
    have hm := Ck.Cal.vld_iff.1 hcv
    have hn := (Pl.Ico.nf_ok hv).1
    rw [hf, fam_at hv hc.2 (mth_eq hcv hcn)]
    exact ⟨⟨by show (-9223372036854775808 : Int) ≤ ((Pl.Ico.nf f A B C : Nat) : Int); omega, by show ((Pl.Ico.nf f A B C : Nat) : Int) ≤ 9223372036854775807; omega⟩, ⟨by show (-9223372036854775808 : Int) ≤ m; omega, by show m ≤ 9223372036854775807; omega⟩⟩
  · unfold fam
    rw [if_neg hc]
    exact ⟨⟨by decide, by decide⟩, ⟨by decide, by decide⟩⟩
end Go.Proofs.YtlakgkoohdfiaaaDoor

namespace Go.Proofs.YtlakgkoohdfiaaaDoor
open Go.RowKit Go.Maps

/-- The values of a slot. -/
def vl (P : List (Sl × Int)) (k : Sl) : List Int := (P.filter fun p => decide (p.1 = k)).map (·.2)
/-- A tally of a list of values. -/
structure TlF (t : Tl) (V : List Int) : Prop where
  cnt : t.1 = (V.length : Int)
  sum : t.2.1 = V.sum
  lo : V ≠ [] → t.2.2.1 ∈ V ∧ ∀ v ∈ V, t.2.2.1 ≤ v
  hi : V ≠ [] → t.2.2.2 ∈ V ∧ ∀ v ∈ V, v ≤ t.2.2.2
theorem TlF.nil : TlF (0, 0, 0, 0) [] := ⟨rfl, rfl, fun h => absurd rfl h, fun h => absurd rfl h⟩
theorem TlF.snoc {t : Tl} {V : List Int} (h : TlF t V) (x : Int) : TlF (wth t x) (V ++ [x]) := by
  obtain ⟨n, s, lo, hi⟩ := t
  obtain ⟨h1, h2, h3, h4⟩ := h
  dsimp only at *
  unfold wth
  by_cases h0 : n = 0
  · have hV : V = [] := List.eq_nil_of_length_eq_zero (by omega)
    subst hV
    rw [if_pos h0]
    exact ⟨by simp, by simp, fun _ => ⟨by simp, by simp⟩, fun _ => ⟨by simp, by simp⟩⟩
  · have hV : V ≠ [] := fun e => h0 (by rw [h1, e]; rfl)
    obtain ⟨l1, l2⟩ := h3 hV
    obtain ⟨m1, m2⟩ := h4 hV
    rw [if_neg h0]
    refine ⟨?_, ?_, fun _ => ⟨?_, ?_⟩, fun _ => ⟨?_, ?_⟩⟩
    · show n + 1 = _
      rw [List.length_append, List.length_singleton, h1]; push_cast; rfl
    · show s + x = _
      rw [List.sum_append, h2]; simp
    · show min lo x ∈ _
      rw [Int.min_def]; split
      · exact List.mem_append_left _ l1
      · simp
    · intro v hv
      show min lo x ≤ v
      rcases List.mem_append.1 hv with q | q
      · have := l2 v q; omega
      · rw [List.mem_singleton] at q; subst q; omega
    · show max hi x ∈ _
      rw [Int.max_def]; split
      · simp
      · exact List.mem_append_left _ m1
    · intro v hv
      show v ≤ max hi x
      rcases List.mem_append.1 hv with q | q
      · have := m2 v q; omega
      · rw [List.mem_singleton] at q; subst q; omega
theorem TlF.fold : ∀ (l : List (Sl × Int)) (t : Tl) (V : List Int), TlF t V → TlF (l.foldl (fun t p => wth t p.2) t) (V ++ l.map (·.2))
  | [], t, V, h => by simpa using h
  | p :: l, t, V, h => by
    have := TlF.fold l _ _ (h.snoc p.2)
    simpa using this
theorem tOf_F (P : List (Sl × Int)) (k : Sl) : TlF (tOf P k) (vl P k) := by
  have := TlF.fold (P.filter fun p => decide (p.1 = k)) (0, 0, 0, 0) [] TlF.nil
  simpa [tOf, vl] using this
/-- The spread of a tally is that of its values. -/
theorem spr_tl {t : Tl} {V : List Int} (h : TlF t V) (h0 : V ≠ []) (a : Int) : max (t.2.2.2 - a) (a - t.2.2.1) = spr V a := by
  obtain ⟨l1, l2⟩ := h.lo h0
  obtain ⟨m1, m2⟩ := h.hi h0
  have q1 := spr_in a l1
  have q2 := spr_in a m1
  obtain ⟨v, hv, e⟩ := spr_hit a h0
  have := l2 v hv
  have := m2 v hv
  omega
theorem fil_fnd {L : List El.Elt.R} (h : El.Elt.vld L = 0) (c : Int) : (L.filter fun x => decide (x.1 = c)).map (·.2) = (El.Elt.fnd L c).toList := by
  have hp := El.asc_pw (vld_asc h)
  clear h
  unfold El.Elt.fnd
  induction L with
  | nil => rfl
  | cons x L ih =>
    rw [List.pairwise_cons] at hp
    by_cases e : x.1 = c
    · have hnone : ∀ y ∈ L, ¬ y.1 = c := fun y hy => by have := hp.1 y hy; omega
      have hf : L.filter (fun x => decide (x.1 = c)) = [] := List.filter_eq_nil_iff.2 fun y hy => by simpa using hnone y hy
      rw [List.filter_cons_of_pos (by simpa using e), hf, List.find?_cons_of_pos (by simpa using e)]
      rfl
    · rw [List.filter_cons_of_neg (by simpa using e), List.find?_cons_of_neg (by simpa using e)]
      exact ih hp.2
theorem vl_app (P Q : List (Sl × Int)) (k : Sl) : vl (P ++ Q) k = vl P k ++ vl Q k := by simp [vl]
theorem vl_one {r : Rp} (h : El.Elt.vld r.L = 0) (k : Sl) : vl (prs1 r) k = if (El.Elt.fnd r.L k.1).isSome && (r.F == k.2.1) && (mth r.t == k.2.2) then [(El.Elt.fnd r.L k.1).getD 0] else [] := by
  obtain ⟨c, f, mo⟩ := k
  have key : vl (prs1 r) (c, f, mo) = if r.F = f ∧ mth r.t = mo then (r.L.filter fun x => decide (x.1 = c)).map (·.2) else [] := by
    unfold vl prs1
    rw [List.filter_map, List.map_map]
    by_cases hc : r.F = f ∧ mth r.t = mo
    · rw [if_pos hc]
      obtain ⟨rfl, rfl⟩ := hc
      have : (fun p : Sl × Int => decide (p.1 = (c, r.F, mth r.t))) ∘ (fun x : El.Elt.R => (((x.1, r.F, mth r.t) : Sl), x.2)) = fun x => decide (x.1 = c) := by
        funext x; simp
      rw [this]; rfl
    · rw [if_neg hc]
      have : r.L.filter ((fun p : Sl × Int => decide (p.1 = (c, f, mo))) ∘ (fun x : El.Elt.R => (((x.1, r.F, mth r.t) : Sl), x.2))) = [] := List.filter_eq_nil_iff.2 fun y hy => by
        simp only [Function.comp_apply, Prod.mk.injEq, decide_eq_true_eq]
        exact fun q => hc q.2
      rw [this]; rfl
  rw [key, fil_fnd h]
  dsimp only
  by_cases hc : r.F = f ∧ mth r.t = mo
  · rw [if_pos hc]
    cases El.Elt.fnd r.L c <;> simp [hc.1, hc.2]
  · rw [if_neg hc]
    by_cases q : r.F = f
    · have q2 : ¬ mth r.t = mo := fun e => hc ⟨q, e⟩
      simp [q2]
    · simp [q]
theorem vl_prs : ∀ (R : List Rp), (∀ r ∈ R, El.Elt.vld r.L = 0) → ∀ k : Sl, vl (prs R) k = valsC R k.1 k.2.1 k.2.2
  | [], _, k => rfl
  | r :: R, h, k => by
    have e : prs (r :: R) = prs1 r ++ prs R := by simp [prs]
    rw [e, vl_app, vl_prs R (fun q hq => h q (by simp [hq])) k, vl_one (h r (by simp))]
    unfold valsC
    rw [List.filterMap_cons]
    split <;> split <;> simp_all
theorem ksl_vals {R : List Rp} (h : ∀ r ∈ R, El.Elt.vld r.L = 0) (k : Sl) : k ∈ ksl (prs R) ↔ valsC R k.1 k.2.1 k.2.2 ≠ [] := by
  rw [ksl_mem, ← vl_prs R h k]
  unfold vl
  rw [Ne, List.map_eq_nil_iff, List.filter_eq_nil_iff]
  constructor
  · rintro ⟨p, hp, e⟩ h
    exact h p hp (by simpa using e)
  · intro h
    by_cases q : ∃ p ∈ prs R, p.1 = k
    · exact q
    · exact absurd (fun p hp e => q ⟨p, hp, by simpa using e⟩) h
theorem ksl_nodup : ∀ (P : List (Sl × Int)) (a : List Sl), a.Nodup → (P.foldl (fun a p => if p.1 ∈ a then a else a ++ [p.1]) a).Nodup
  | [], a, h => h
  | p :: P, a, h => by
    rw [List.foldl_cons]
    refine ksl_nodup P _ ?_
    split
    · exact h
    · rename_i hn
      rw [List.nodup_append]
      exact ⟨h, by simp, fun x hx y hy => by rw [List.mem_singleton] at hy; subst hy; exact fun e => hn (e ▸ hx)⟩
/-- The normal of a slot. -/
noncomputable def nrK (R : List Rp) (k : Sl) : Cm.N5 := nrC R k.1 k.2.1 k.2.2
theorem nrK_key (R : List Rp) (k : Sl) : Cm.key (nrK R k) = k := rfl
theorem slot_ok {R : List Rp} (h0 : errC R = 0) {k : Sl} (hk : valsC R k.1 k.2.1 k.2.2 ≠ []) : El.Elt.Ex k.1 ∧ (0 ≤ k.2.1 ∧ k.2.1 ≤ 19) ∧ 1 ≤ k.2.2 ∧ k.2.2 ≤ 12 := by
  obtain ⟨v, hv⟩ := List.exists_mem_of_ne_nil _ hk
  unfold valsC at hv
  obtain ⟨r, hr, he⟩ := List.mem_filterMap.1 hv
  obtain ⟨hn, hg, hvd⟩ := erC_parts (errC_all h0 r hr)
  split at he
  · rename_i hc
    simp only [Bool.and_eq_true, beq_iff_eq] at hc
    obtain ⟨⟨h1, h2⟩, h3⟩ := hc
    refine ⟨?_, by rw [← h2]; exact nrm_face hn, by rw [← h3]; exact mth_bd hg⟩
    obtain ⟨v', hf⟩ := Option.isSome_iff_exists.1 h1
    unfold El.Elt.fnd at hf
    obtain ⟨x, hx, -⟩ := Option.map_eq_some_iff.1 hf
    have e1 : x.1 = k.1 := by simpa using List.find?_some hx
    rw [← e1]
    exact (vld_vals hvd x (List.mem_of_find?_eq_some hx)).1
  · cases he
theorem out_iff {R : List Rp} (h0 : errC R = 0) (n : Cm.N5) : n ∈ outC R 2640 ↔ ∃ k : Sl, valsC R k.1 k.2.1 k.2.2 ≠ [] ∧ nrK R k = n := by
  constructor
  · intro hn
    obtain ⟨i, hi, hn⟩ := outC_mem.1 hn
    unfold entI at hn
    generalize ((i / 240 : Nat) : Int) + 1 = c at *
    generalize ((i / 12 % 20 : Nat) : Int) = f at *
    generalize ((i % 12 : Nat) : Int) + 1 = mo at *
    by_cases hv : valsC R c f mo = []
    · unfold entC at hn; rw [if_pos hv] at hn; cases hn
    · rw [entC_nr hv, List.mem_singleton] at hn
      exact ⟨(c, f, mo), hv, hn.symm⟩
  · rintro ⟨k, hk, rfl⟩
    obtain ⟨h1, h2, h3⟩ := slot_ok h0 hk
    exact out_mem h1 h2 h3 hk
/-- Any list of the slots, each once, gives the normals in some order. -/
theorem out_perm {R : List Rp} (h0 : errC R = 0) {K : List Sl} (hn : K.Nodup) (hk : ∀ k, k ∈ K ↔ valsC R k.1 k.2.1 k.2.2 ≠ []) : (K.map (nrK R)).Perm (outC R 2640) := by
  refine (List.perm_ext_iff_of_nodup ?_ ?_).2 fun n => ?_
  · rw [List.Nodup, List.pairwise_map]
    exact hn.imp fun {a b} hab e => hab (by rw [← nrK_key R a, ← nrK_key R b, e])
  · exact (outC_pw R 2640).imp fun {a b} hab e => by subst e; exact Cm.lt3_irr hab
  · rw [out_iff h0, List.mem_map]
    exact ⟨fun ⟨k, h1, h2⟩ => ⟨k, (hk k).1 h1, h2⟩, fun ⟨k, h1, h2⟩ => ⟨k, (hk k).2 h1, h2⟩⟩
/-- .. and sorted, in the one order. -/
theorem out_sorted {R : List Rp} (h0 : errC R = 0) {K : List Sl} (hn : K.Nodup) (hk : ∀ k, k ∈ K ↔ valsC R k.1 k.2.1 k.2.2 ≠ []) (hs : K.Pairwise (fun a b => ¬ Cm.lt3 b a)) : K.map (nrK R) = outC R 2640 := by
  refine List.Perm.eq_of_pairwise (le := fun a b => ¬ Cm.lt3 (Cm.key b) (Cm.key a)) ?_ ?_ ?_ (out_perm h0 hn hk)
  · intro a b ha hb h1 h2
    rw [List.mem_map] at ha
    obtain ⟨k, -, rfl⟩ := ha
    obtain ⟨k', -, rfl⟩ := (out_iff h0 b).1 hb
    rw [nrK_key, nrK_key] at h1 h2
    rcases Cm.lt3_tri k k' with q | q | q
    · exact absurd q h2
    · rw [q]
    · exact absurd q h1
  · rw [List.pairwise_map]
    exact hs.imp fun {a b} h => by rw [nrK_key, nrK_key]; exact h
  · exact (outC_pw R 2640).imp fun {a b} hab q => Cm.lt3_irr (Cm.lt3_trans hab q)
theorem ksl_len {R : List Rp} (h0 : errC R = 0) : (ksl (prs R)).length = (outC R 2640).length := by
  have hv : ∀ r ∈ R, El.Elt.vld r.L = 0 := fun r hr => (erC_parts (errC_all h0 r hr)).2.2
  have := (out_perm h0 (K := ksl (prs R)) (ksl_nodup _ [] List.nodup_nil) (fun k => ksl_vals hv k)).length_eq
  rw [List.length_map] at this
  exact this
/-- A tally of the reports gives the mean and the spread. -/
theorem tl_nr {R : List Rp} (hv : ∀ r ∈ R, El.Elt.vld r.L = 0) {k : Sl} (hk : valsC R k.1 k.2.1 k.2.2 ≠ []) :
    (tOf (prs R) k).2.1 / (tOf (prs R) k).1 = (nrK R k).2.2.2.1 ∧ max ((tOf (prs R) k).2.2.2 - (nrK R k).2.2.2.1) ((nrK R k).2.2.2.1 - (tOf (prs R) k).2.2.1) = (nrK R k).2.2.2.2 ∧ 1 ≤ (tOf (prs R) k).1 := by
  have hF := tOf_F (prs R) k
  rw [vl_prs R hv k] at hF
  have e1 : (tOf (prs R) k).2.1 / (tOf (prs R) k).1 = (nrK R k).2.2.2.1 := by rw [hF.cnt, hF.sum]; rfl
  refine ⟨e1, ?_, ?_⟩
  · rw [spr_tl hF hk]; rfl
  · rw [hF.cnt]
    have := List.length_pos_iff.2 hk
    omega
end Go.Proofs.YtlakgkoohdfiaaaDoor

namespace Go.Proofs.YtlakgkoohdfiaaaDoor
open Go.RowKit Go.Maps

theorem wpList_append_opt {P : Program} {ops : Array Oper} {rest : List Oper} {o : Oper} {a : Act} {w : World} {Q : Exit → Act → World → Prop} (hgd : o.guard = none) (s x : Operand) (t : TypeId)
    (ho : o.op = .call { callee := .builtin .append, args := #[s, x], argTypes := #[t, t] })
    (base : Nat) (e : TypeId) (i : TypeInfo) (z : Value) (size bytes : Nat) (ht : P.underlying t = some (.slice e)) (hi : P.info? e = some i) (hz : i.zero = some z)
    (hsize : i.size = size) (hby : i.bytes = bytes) (hzs : z.cells.size = size) (hsz : 0 < size)
    (v : Value) (n : Nat) (xs : List Value) (hs : a.eval s = v) (hown : w.ownsRow base e size v n xs)
    (A : Option Addr) (m c : Nat) (news : List Value) (hx : a.eval x = .slice A m c) (hl : news.length = m * size) (hnone : A = none → m = 0)
    (hnews : ∀ ad, A = some ad → ∀ (j : Nat) u, news[j]? = some u → w.cell? (ad.add j) = some u) (h1 : ∀ u ∈ news, u.oneCell' = true)
    (h63 : n + m ≤ maxLen) (hbytes : (n + m) * bytes ≤ 140737488355328) (hbase : base ≤ w.heap.size)
    (h : ∀ v' w', w'.ownsRow base e size v' (n + m) (xs ++ news) → w.grownBy w' v.ownBlock → wpList P ops Q rest (a.put o.dst v') w') : wpList P ops Q (o :: rest) a w := by
  refine wpList_plain hgd fun _ hK => ?_
  cases A with
  | none =>
    obtain rfl := hnone rfl
    obtain rfl : news = [] := List.eq_nil_of_length_eq_zero (by rw [hl, Nat.zero_mul])
    have hv : ∃ P' cap, v = .slice P' n cap ∧ n ≤ cap := by
      rcases hown.2 with ⟨q, h0⟩ | ⟨g, cap', cur, q, hb, hg, hc, hm, hs, hx⟩
      · exact ⟨none, 0, by rw [q, h0], by omega⟩
      · exact ⟨_, _, q, hc⟩
    obtain ⟨P', cap, rfl, hle⟩ := hv
    have hr := run_append_nothing (P := P) w t t o.type e i ht hi P' n cap hle (.slice none 0 c) (Go.Src.ofNil w ht c)
    unfold Oper.wp execOp
    simp only [ho, resolve, invoke, builtin, Sem.run_bind, Sem.run_pure, Result.andThen_ok, List.map_toArray, List.map_cons, List.map_nil, hs, hx, hr]
    exact hK _ _ (h _ _ (by rw [List.append_nil]; exact hown) (grown_refl _ _))
  | some ad =>
    obtain ⟨v', w', hr, h2, h3, -⟩ := run_append_own (P := P) w base t o.type e i z size bytes ht hi hz hsize hby hzs hsz v n xs hown ad m c news hl (hnews ad rfl) h1 h63 hbytes hbase
    unfold Oper.wp execOp
    simp only [ho, resolve, invoke, builtin, Sem.run_bind, Sem.run_pure, Result.andThen_ok, List.map_toArray, List.map_cons, List.map_nil, hs, hx, hr]
    exact hK _ _ (h v' w' h2 h3)
theorem nrc_len5 (N : List Cm.N5) : (nrc N).length = N.length * 5 := by
  induction N with
  | nil => rfl
  | cons x N ih => show (encN x ++ nrc N).length = _; rw [List.length_append, ih, List.length_cons, encN_len]; omega
/-- The normals of a list in memory, as news for an append. -/
theorem nr_news {w : World} {A : Option Addr} {n c : Nat} {N : List Cm.N5} (h : NrIn w (.slice A n c) N) : n = N.length ∧ (A = none → n = 0) ∧ ∀ ad, A = some ad → ∀ (j : Nat) u, (nrc N)[j]? = some u → w.cell? (ad.add j) = some u := by
  obtain ⟨A', cap, e, h1, h2, h3⟩ := id h
  injection e with e1 e2 e3
  subst e1; subst e2
  refine ⟨rfl, fun hA => ?_, fun ad hA j u hu => ?_⟩
  · rcases Nat.eq_zero_or_pos N.length with q | q
    · exact q
    · obtain ⟨g, off, e, -⟩ := h3 0 q
      rw [hA] at e; cases e
  · have hj : j < N.length * 5 := by
      have := (List.getElem?_eq_some_iff.1 hu).1
      rw [nrc_len5] at this
      omega
    have hi : j / 5 < N.length := by omega
    obtain ⟨g, off, e, hg, c0, c1, c2, c3, c4⟩ := h3 (j / 5) hi
    rw [hA] at e
    injection e with e
    subst e
    have hm := nrc_at N (j / 5) hi (j % 5) (Nat.mod_lt _ (by omega))
    rw [show j / 5 * 5 + j % 5 = j by omega, hu] at hm
    rw [Addr.add_lit, show off + j = off + j / 5 * 5 + j % 5 by omega]
    rcases (by omega : j % 5 = 0 ∨ j % 5 = 1 ∨ j % 5 = 2 ∨ j % 5 = 3 ∨ j % 5 = 4) with q | q | q | q | q <;> rw [q] at hm ⊢ <;> rw [hm]
    · exact c0
    · exact c1
    · exact c2
    · exact c3
    · exact c4
theorem nrc_one (N : List Cm.N5) : ∀ u ∈ nrc N, u.oneCell' = true := by
  intro u hu
  obtain ⟨n, -, hn⟩ := List.mem_flatMap.1 hu
  simp only [encN, List.mem_cons, List.not_mem_nil, or_false] at hn
  rcases hn with rfl | rfl | rfl | rfl | rfl <;> rfl
/-- An empty list of a call's own. -/
theorem own_empty (w : World) : (w.alloc (.cells #[] 50)).ownsRow w.heap.size 50 5 (.slice (some ⟨w.heap.size, 0, none⟩) 0 0) ([] : List Cm.N5).length (nrc []) :=
  ⟨rfl, .inr ⟨w.heap.size, 0, #[], rfl, Nat.le_refl _, Row.new w #[] _, Nat.le_refl _, by decide, rfl, rfl⟩⟩
theorem fam_nrm {F A B C t : Int} (hn : nrm F A B C = true) (hg : Ck.Cal.rng t = true) : fam F A B C t = (F, mth t, 0) := by
  obtain ⟨f, rfl, hv⟩ := nrm_vld hn
  rw [fam_at hv hg rfl, (nrm_iff hv).1 hn]
/-- A normal without spread. -/
def zs (n : Cm.N5) : Cm.N5 := (n.1, n.2.1, n.2.2.1, n.2.2.2.1, 0)
def zr (i : Nat) (N : List Cm.N5) : List Cm.N5 := (N.take i).map zs ++ N.drop i
theorem zr_len (i : Nat) (N : List Cm.N5) (h : i ≤ N.length) : (zr i N).length = N.length := by unfold zr; rw [List.length_append, List.length_map, List.length_take, List.length_drop]; omega
theorem zr_at (i : Nat) (N : List Cm.N5) (h : i < N.length) : (zr i N)[i]'(by rw [zr_len i N (by omega)]; exact h) = N[i] := by
  have hl : ((N.take i).map zs).length = i := by rw [List.length_map, List.length_take]; omega
  unfold zr
  rw [List.getElem_append_right (by omega)]
  simp only [hl, Nat.sub_self, List.getElem_drop, Nat.add_zero]
theorem zr_set (i : Nat) (N : List Cm.N5) (h : i < N.length) : (zr i N).set i (zs N[i]) = zr (i + 1) N := by
  have hl : ((N.take i).map zs).length = i := by rw [List.length_map, List.length_take]; omega
  unfold zr
  rw [List.set_append_right _ _ (by omega), hl, Nat.sub_self, List.drop_eq_getElem_cons h, List.set_cons_zero, List.take_add_one, List.getElem?_eq_getElem h, Option.toList_some, List.map_append, List.append_assoc]
  rfl
theorem zr_all (N : List Cm.N5) : zr N.length N = N.map zs := by unfold zr; rw [List.take_length, List.drop_length, List.append_nil]
theorem zs_vld {N : List Cm.N5} (h : Cm.vldN N = 0) : Cm.vldN (N.map zs) = 0 := by
  obtain ⟨h1, h2, h3⟩ := Cm.vldN_ok h
  refine vldN_zero (by rw [List.length_map]; exact h1) (fun n hn => ?_) (ascN_of ?_)
  · obtain ⟨x, hx, rfl⟩ := List.mem_map.1 hn
    have hc := h2 x hx
    unfold Cm.chkN at hc ⊢
    by_cases q : El.Elt.Ex x.1
    · rw [if_pos q] at hc
      by_cases q2 : 0 ≤ x.2.1 ∧ x.2.1 ≤ 19 ∧ 1 ≤ x.2.2.1 ∧ x.2.2.1 ≤ 12 ∧ -10000 ≤ x.2.2.2.1 ∧ x.2.2.2.1 ≤ 20000 ∧ 0 ≤ x.2.2.2.2 ∧ x.2.2.2.2 ≤ 20000
      · unfold zs
        dsimp only
        rw [if_pos q, if_pos (by omega)]
      · rw [if_neg q2] at hc; omega
    · rw [if_neg q] at hc; omega
  · rw [List.pairwise_map]
    exact ascN_pw h3
theorem zs_fnd (N : List Cm.N5) (k : Cm.K3) : Cm.fndN (N.map zs) k = (Cm.fndN N k).map zs := by
  unfold Cm.fndN
  rw [List.find?_map]
  rfl
/-- A reading is among the rejected elements exactly if it is rejected. -/
theorem rej_has {N : List Cm.N5} {f mo : Int} {L : List El.Elt.R} (h : El.Elt.vld L = 0) {x : El.Elt.R} (hx : x ∈ L) : (rejL N f mo L).contains x.1 = rej1 N f mo x := by
  have key : x.1 ∈ rejL N f mo L ↔ rej1 N f mo x = true := by
    unfold rejL
    rw [List.mem_map]
    constructor
    · rintro ⟨y, hy, e⟩
      obtain ⟨hy1, hy2⟩ := List.mem_filter.1 hy
      have e1 := fnd_of h hy1
      have e2 := fnd_of h hx
      rw [e, e2] at e1
      have : y = x := Prod.ext e (Option.some.inj e1).symm
      rw [← this]; exact hy2
    · intro hr
      exact ⟨x, List.mem_filter.2 ⟨hx, hr⟩, rfl⟩
  cases hr : rej1 N f mo x with
  | true => rw [List.contains_iff_mem]; exact key.2 hr
  | false =>
    cases hc : (rejL N f mo L).contains x.1 with
    | false => rfl
    | true => have := key.1 (List.contains_iff_mem.1 hc); rw [hr] at this; cases this
/-- What a learned climate says of a report. -/
theorem learned {R : List Rp} (h0 : errC R = 0) {r : Rp} (hr : r ∈ R) (N : List Cm.N5) (hN : N = outC R 2640) :
    rejL N r.F (mth r.t) r.L = [] ∧ ∀ x ∈ r.L, ∃ n, Cm.fndN N (x.1, r.F, mth r.t) = some n ∧ n ∈ N ∧ x.2 - n.2.2.2.1 ≤ n.2.2.2.2 ∧ n.2.2.2.1 - x.2 ≤ n.2.2.2.2 := by
  have key : ∀ x ∈ r.L, ∃ n, Cm.fndN N (x.1, r.F, mth r.t) = some n ∧ n ∈ N ∧ x.2 - n.2.2.2.1 ≤ n.2.2.2.2 ∧ n.2.2.2.1 - x.2 ≤ n.2.2.2.2 := fun x hx => by
    obtain ⟨⟨n, hn, rfl⟩, h2, h3, h4⟩ := has_normal h0 hr hx
    rw [hN]
    exact ⟨_, h2, hn, h3, h4⟩
  refine ⟨?_, key⟩
  unfold rejL
  rw [List.filter_eq_nil_iff.2 (fun x hx => ?_)]
  · rfl
  · obtain ⟨n, h1, -, h2, h3⟩ := key x hx
    unfold rej1
    rw [h1]
    unfold farN
    simp only [Bool.or_eq_true, decide_eq_true_eq]
    omega
/-- Without spread exactly the readings that differ from the mean are rejected. -/
theorem zs_rej {N : List Cm.N5} {f mo : Int} {x : El.Elt.R} {n : Cm.N5} (h : Cm.fndN N (x.1, f, mo) = some n) : rej1 (N.map zs) f mo x = (x.2 - n.2.2.2.1 != 0) := by
  unfold rej1
  rw [zs_fnd, h]
  show farN (zs n) x.2 = _
  unfold farN zs
  dsimp only
  rw [Bool.eq_iff_iff, Bool.or_eq_true, decide_eq_true_eq, decide_eq_true_eq, bne_iff_ne]
  omega
end Go.Proofs.YtlakgkoohdfiaaaDoor

namespace Go.Proofs.YtlakgkoohdfiaaaDoor
open Go.RowKit Go.Maps Go.Shelf Go.Sort Go.Lib

theorem bitsN (W : World) : Calls Tryd.prog 113 #[.int .u64 0] W fun e w' => (∃ l : Int, e = .returned (.int .i64 l)) ∧ w' = W :=
  (Any.bits_Len Tryd.bitsLen 0 W (by omega) (by omega)).mono fun _ _ ⟨he, hw⟩ => ⟨⟨_, he⟩, hw⟩
set_option maxHeartbeats 1000000 in
theorem insN_none (w : World) (q : Value) : Calls Tryd.prog 140 #[.slice none 0 0, .int .i64 0, .int .i64 0, q] w fun e w' => e = .returned (.tuple #[]) ∧ w = w' := by
  go_enter Tryd.func140, Tryd.ntmps140
  go_wp2_with fail
  go_loopw [8] (fun t wr => t = .int .i64 1 ∧ wr = w) (fun _ _ => 0)
  case atStart => exact ⟨rfl, rfl⟩
  case round =>
    obtain ⟨rfl, rfl⟩ := hrel
    go_wp2_with fail
    go_end0
    exact ⟨rfl, rfl⟩
set_option maxHeartbeats 1000000 in
theorem pdqN_none (w : World) (q : Value) (l : Int) : Calls Tryd.prog 123 #[.slice none 0 0, .int .i64 0, .int .i64 0, .int .i64 l, q] w fun e w' => e = .returned (.tuple #[]) ∧ w = w' := by
  go_enter Tryd.func123, Tryd.ntmps123
  go_wp2_with fail
  go_loopw [1, 2] (fun t u wr => t = .int .i64 0 ∧ u = .int .i64 0 ∧ wr = w) (fun _ _ _ => 0)
  case atStart => exact ⟨rfl, rfl, rfl⟩
  case round =>
    obtain ⟨rfl, rfl, rfl⟩ := hrel
    go_wp2_with fail
    refine (insN_none _ q).mono ?_
    rintro e w1 ⟨rfl, rfl⟩
    go_wp2_with fail
    refine bodyPost_ret (results_none rfl _ _ _) rfl ?_
    exact ⟨rfl, rfl⟩
set_option maxHeartbeats 1000000 in
theorem sortN_none (w : World) (q : Value) : Calls Tryd.prog 102 #[.slice none 0 0, q] w fun e w' => e = .returned (.tuple #[]) ∧ w = w' := by
  go_enter Tryd.func102, Tryd.ntmps102
  go_wp2_with fail
  refine (bitsN _).mono ?_
  rintro e w1 ⟨⟨l, rfl⟩, rfl⟩
  go_wp2_with fail
  refine (pdqN_none _ _ l).mono ?_
  rintro e w2 ⟨rfl, rfl⟩
  go_wp2_with fail
  go_end0
  exact ⟨rfl, rfl⟩
theorem cmp3_neg (a b : Sl) : Cm.cmp3 a b < 0 ↔ Cm.lt3 a b := by
  rcases Cm.cmp3_cases a b with ⟨h, e⟩ | ⟨h, e⟩ | ⟨h, e⟩
  · rw [e]; exact ⟨fun _ => h, fun _ => by decide⟩
  · rw [e]; exact ⟨fun q => by omega, fun q => by subst h; exact absurd q (fun q => Cm.lt3_irr q)⟩
  · rw [e]; exact ⟨fun q => by omega, fun q => absurd (Cm.lt3_trans h q) (fun q => Cm.lt3_irr q)⟩
theorem swoS : SWO (ltOf Cm.cmp3) where
  irrefl x := by unfold ltOf; exact decide_eq_false (fun h => Cm.lt3_irr ((cmp3_neg x x).1 h))
  trans x y z h1 h2 := by
    unfold ltOf at *
    exact decide_eq_true ((cmp3_neg x z).2 (Cm.lt3_trans ((cmp3_neg x y).1 (of_decide_eq_true h1)) ((cmp3_neg y z).1 (of_decide_eq_true h2))))
  ntrans x y z h1 h2 := by
    unfold ltOf at *
    have a := mt (cmp3_neg x y).2 (of_decide_eq_false h1)
    have b := mt (cmp3_neg y z).2 (of_decide_eq_false h2)
    refine decide_eq_false (mt (cmp3_neg x z).1 fun q => ?_)
    rcases Cm.lt3_tri x y with h | h | h
    · exact a h
    · subst h; exact b q
    · exact b (Cm.lt3_trans h q)
theorem sortN_grown {α : Type} [Inhabited α] (enc : α → List Value) (w : World) (g n : Nat) (d' : Array α) (os : Array Obj) : w.grownBy (sortWorldK enc 5 w g 0 n d' os) (some g) := by
  refine ⟨rfl, rfl, rfl, ?_, fun i hi hr => ?_⟩
  · simp [sortWorldK, putRowK, Sort.putRow, Sort.mapBlock]
  · unfold sortWorldK
    rw [heap_grow_old _ _ (by simpa [putRowK, Sort.putRow, Sort.mapBlock] using hi)]
    have hne : g ≠ i := fun e => hr (by rw [e])
    simp [putRowK, Sort.putRow, Sort.mapBlock, Array.getElem?_modify, hne]
theorem nrc_len (N : List Cm.N5) : (nrc N).length = N.length * 5 := by
  induction N with
  | nil => rfl
  | cons x N ih => show (encN x ++ nrc N).length = _; rw [List.length_append, ih, List.length_cons, encN_len]; omega
/-- What the sort leaves. -/
def SortsN (R : List Rp) (W : World) (base : Nat) (v : Value) (K : List Sl) (e : Ending) (w : World) : Prop :=
  e = .returned (.tuple #[]) ∧ W.grownBy w v.ownBlock ∧ ∃ K' : List Sl, K'.Perm K ∧ K'.Pairwise (fun x y => ¬ Cm.lt3 y x) ∧ w.ownsRow base 50 5 v K'.length (nrc (K'.map (nrK R)))
set_option maxHeartbeats 1000000 in
theorem sortN_some (R : List Rp) (base g cap : Nat) (K : List Sl) (w : World) (hl : K.length ≤ 100000) (ho : w.ownsRow base 50 5 (.slice (some ⟨g, 0, none⟩) K.length cap) K.length (nrc (K.map (nrK R)))) :
    Calls Tryd.prog 102 #[.slice (some ⟨g, 0, none⟩) K.length cap, .func (.func 58) #[] #[]] w (SortsN R w base (.slice (some ⟨g, 0, none⟩) K.length cap) K) := by
  have eg : ∀ args w, (callFunc 58 args).run Tryd.prog w = .ok (.enter 58 args) w := enters_of Tryd.func58 (by kernel_rfl) rfl
  have hfz := fun j => ho.frozenAt j
  rcases ho.2 with ⟨e, -⟩ | ⟨g', cap', cur, e, hb, hg, hc, hm, hs, hx⟩
  · cases e
  obtain ⟨rfl, rfl⟩ : g = g' ∧ cap = cap' := by injection e with e1 e2 e3; injection e1 with e1; injection e1 with e1; exact ⟨e1, e3⟩
  have hgl : g < w.heap.size := (Array.getElem?_eq_some_iff.1 hg).1
  obtain ⟨enc, henc⟩ : ∃ enc : Sl → List Value, enc = fun k => encN (nrK R k) := ⟨_, rfl⟩
  have hel : ∀ k, (enc k).length = 5 := fun k => by rw [henc]; rfl
  have hat : ∀ (X : List Sl) (i : Nat) (h : i < X.length) (j : Nat), j < 5 → (nrc (X.map (nrK R)))[i * 5 + j]? = (enc X[i])[j]? := fun X i h j hj => by
    have := nrc_at (X.map (nrK R)) i (by simpa using h) j hj
    rw [this, henc]; simp
  have hH : HoldsK enc 5 w g 0 K.toArray := by
    intro t ht
    simp only [size_flatK, List.size_toArray] at ht
    refine ⟨?_, by simpa using hfz (0 + t)⟩
    rw [get_flatK _ _ _ _ (by simpa using ht)]
    have hi : t / 5 < K.length := by omega
    have h1 : w.cell? ⟨g, 0 + t, none⟩ = cur[t]? := by simp [World.cell?, hg]
    have h2 := hat K (t / 5) hi (t % 5) (Nat.mod_lt _ (by omega))
    rw [show t / 5 * 5 + t % 5 = t by omega, ← hx, List.getElem?_take, if_pos (by omega), Array.getElem?_toList] at h2
    have e : K.toArray[t / 5]! = K[t / 5] := by simp [hi]
    rw [h1, h2, e]
    have h3 : t % 5 < (enc K[t / 5]).length := by rw [hel]; exact Nat.mod_lt _ (by omega)
    rw [List.getElem?_eq_getElem h3]
    simp [h3]
  have hcon := AnyQ.slices_SortFunc_total Tryd.sortNormal 5 Tryd.isAgg50 Tryd.sizeOf50 enc hel (fun x v hv => by rw [henc] at hv; simp [encN] at hv; rcases hv with rfl | rfl | rfl | rfl | rfl <;> rfl) Cm.cmp3 swoS 58 #[] g 0 cap K.toArray w eg (fun _ _ _ _ x y => by rw [henc]; exact order_any (nrK R x) (nrK R y) _) hH hgl (by simp; omega) (fun x y h1 h2 => by
    have a := mt (cmp3_neg x y).2 (of_decide_eq_false h1)
    have b := mt (cmp3_neg y x).2 (of_decide_eq_false h2)
    rcases Cm.lt3_tri x y with q | q | q
    · exact absurd q a
    · exact q
    · exact absurd q b)
  have e' : K.toArray.size = K.length := by simp
  rw [e'] at hcon
  refine hcon.mono ?_
  rintro e'' w' ⟨rfl, n, os, rfl⟩
  have hp : (K.mergeSort (fun x y => !(ltOf Cm.cmp3) y x)).Perm K := List.mergeSort_perm _ _
  have hpw := List.pairwise_mergeSort (le := fun x y : Sl => !(ltOf Cm.cmp3) y x) (fun a b c h1 h2 => by
    simp only [Bool.not_eq_true'] at *
    exact swoS.ntrans _ _ _ h2 h1) (fun a b => by
    simp only [Bool.or_eq_true, Bool.not_eq_true']
    by_cases q : ltOf Cm.cmp3 b a = true
    · right
      cases h : ltOf Cm.cmp3 a b with
      | false => rfl
      | true => have := swoS.trans _ _ _ q h; rw [swoS.irrefl] at this; cases this
    · left; simpa using q) K
  generalize hd : K.mergeSort (fun x y => !(ltOf Cm.cmp3) y x) = D at *
  refine ⟨rfl, sortN_grown _ _ _ _ _ _, D, hp, hpw.imp (fun {x y} h => ?_), ?_⟩
  · simp only [Bool.not_eq_true'] at h
    exact mt (cmp3_neg y x).2 (of_decide_eq_false h)
  · have hlen : D.length = K.length := hp.length_eq
    refine ⟨by rw [nrc_len, List.length_map], .inr ⟨g, cap, putCells id 0 (flatK enc 5 D.toArray) cur, by rw [hlen], hb, ?_, by rw [hlen]; exact hc, hm, by simp [putCells, hs], ?_⟩⟩
    · unfold sortWorldK
      rw [heap_grow_old _ _ (by simpa [putRowK, Sort.putRow, Sort.mapBlock] using hgl)]
      show (w.heap.modify g (onCells (putCells id 0 (flatK enc 5 D.toArray))))[g]? = _
      rw [Array.getElem?_modify, if_pos rfl, hg]
      rfl
    · refine List.ext_getElem? fun k => ?_
      rw [List.getElem?_take]
      by_cases hk : k < D.length * 5
      · rw [if_pos hk]
        have hi : k / 5 < D.length := by omega
        have h2 := hat D (k / 5) hi (k % 5) (Nat.mod_lt _ (by omega))
        rw [show k / 5 * 5 + k % 5 = k by omega] at h2
        have hkc : k < cur.size := by rw [hs]; have := Nat.mul_le_mul_right 5 hc; omega
        have hkf : k < D.toArray.size * 5 := by simpa using hk
        rw [h2, Array.getElem?_toList]
        have h4 : (putCells id 0 (flatK enc 5 D.toArray) cur)[k]? = some (flatK enc 5 D.toArray)[k]! := by
          unfold putCells
          rw [Array.getElem?_mapIdx, Array.getElem?_eq_getElem hkc]
          simp [hk]
        rw [h4, get_flatK _ _ _ _ hkf]
        have hi2 : k / 5 < D.toArray.size := by simpa using hi
        rw [getElem!_pos D.toArray (k / 5) hi2]
        have h3 : k % 5 < (enc D[k / 5]).length := by rw [hel]; exact Nat.mod_lt _ (by omega)
        simp only [List.getElem_toArray]
        rw [List.getElem?_eq_getElem h3]
        simp [h3]
      · rw [if_neg hk, List.getElem?_eq_none (by rw [nrc_len, List.length_map]; omega)]
/-- Any normals of slots. -/
theorem sortN_any (R : List Rp) (base : Nat) (v : Value) (K : List Sl) (w : World) (hl : K.length ≤ 100000) (ho : w.ownsRow base 50 5 v K.length (nrc (K.map (nrK R)))) :
    Calls Tryd.prog 102 #[v, .func (.func 58) #[] #[]] w (SortsN R w base v K) := by
  rcases ho.2 with ⟨rfl, h0⟩ | ⟨g, cap, cur, rfl, -⟩
  · refine (sortN_none w _).mono ?_
    rintro e w' ⟨rfl, rfl⟩
    obtain rfl : K = [] := List.eq_nil_of_length_eq_zero h0
    exact ⟨rfl, ⟨rfl, rfl, rfl, Nat.le_refl _, fun _ _ _ => rfl⟩, [], List.Perm.refl _, List.Pairwise.nil, ho⟩
  · exact sortN_some R base g cap K w hl ho
end Go.Proofs.YtlakgkoohdfiaaaDoor
