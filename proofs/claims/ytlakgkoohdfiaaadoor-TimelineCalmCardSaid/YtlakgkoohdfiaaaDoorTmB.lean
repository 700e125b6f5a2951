/- What the laws on timelines ask of the two rules. -/
import Derived.Test.YtlakgkoohdfiaaaDoorQal
namespace Go.Proofs.YtlakgkoohdfiaaaDoor.Tm
/-! What the laws ask of the two rules. -/
theorem calm_gd {s : Int} {L : List Pt} (h : ∀ i, i + 1 < L.length → slw s (pa L i) (pa L (i + 1)) = true) : ∀ i, i < L.length → gd s L i = i - 1 ∧ rj s L i = false
  | 0, _ => ⟨rfl, rj_zero s L⟩
  | i + 1, hi => by
    obtain ⟨h1, h2⟩ := calm_gd h i (by omega)
    have h3 : gd s L (i + 1) = i := by
      show (if bad s L (gd s L i) i = true then gd s L i else i) = i
      have : bad s L (gd s L i) i = false := h2
      rw [this]; rfl
    refine ⟨by rw [h3]; rfl, ?_⟩
    unfold rj bad
    rw [h3, h i hi]; rfl
theorem calm_rjt {s : Int} {L : List Pt} (h : ∀ i, i + 1 < L.length → slw s (pa L i) (pa L (i + 1)) = true) {i : Nat} (hi : i < L.length) : rjt s 0 L i = false := by
  unfold rjt spk
  rw [(calm_gd h i hi).2]
  simp
theorem rjt_none (L : List Pt) (i : Nat) : rjt 0 0 L i = false := by unfold rjt spk; simp
theorem flat_rjt {s p : Int} {L : List Pt} (v : Int) (hs : 0 ≤ s) (ht : ∀ i, i + 1 < L.length → (pa L i).t ≤ (pa L (i + 1)).t) (hv : ∀ i, i < L.length → (pa L i).v = v) {i : Nat} (hi : i < L.length) : rjt s p L i = false := by
  have h : ∀ i, i + 1 < L.length → slw s (pa L i) (pa L (i + 1)) = true := fun i hi => by
    unfold slw hrs
    rw [hv i (by omega), hv (i + 1) hi, Int.sub_self]
    have h1 : 0 ≤ ((pa L (i + 1)).t - (pa L i).t + 59) / 60 := Int.ediv_nonneg (by have := ht i hi; omega) (by decide)
    have := Int.mul_nonneg hs h1
    exact decide_eq_true ⟨this, this⟩
  unfold rjt spk
  rw [(calm_gd h i hi).2]
  simp only [Bool.and_false, Bool.false_or, decide_eq_false_iff_not]
  rintro ⟨h0, h1, h2, h3, -⟩
  rw [hv i hi, hv (i - 1) (by omega), hv (i + 1) h2] at h3
  omega
/-- A line that all reports of a list give to. -/
theorem lin_all {Q : List Rp} {nm : ByteArray} {c : Int} {v tm : Nat → Int} (hd : Dis Q) (h : ∀ i, ∀ hi : i < Q.length, Q[i].nm = nm ∧ Q[i].t = tm i ∧ fnd Q[i].L c = some (v i)) (hm : ∀ i j, i < j → j < Q.length → tm i < tm j) :
    (lin Q nm c).length = Q.length ∧ ∀ i, i < Q.length → pa (lin Q nm c) i = ⟨v i, tm i, i⟩ := by
  have e : lin Q nm c = (List.range Q.length).map fun i => ⟨v i, tm i, i⟩ := by
    refine srt_ext (lin_srt hd nm c) ?_ fun x => ?_
    · unfold Srt
      rw [List.pairwise_map, List.pairwise_iff_getElem]
      intro i j hi hj hij
      rw [List.getElem_range, List.getElem_range]
      exact hm i j hij (by simpa using hj)
    · rw [lin_mem]
      simp only [List.mem_map, List.mem_range]
      constructor
      · rintro ⟨h1, h2, h3, h4⟩
        obtain ⟨k1, k2, k3⟩ := h x.i h1
        refine ⟨x.i, h1, ?_⟩
        rw [k3] at h4
        injection h4 with h4
        obtain ⟨xv, xt, xi⟩ := x
        dsimp only at *
        rw [h4, ← k2, h3]
      · rintro ⟨i, hi, rfl⟩
        obtain ⟨k1, k2, k3⟩ := h i hi
        exact ⟨hi, k1, k2, k3⟩
  rw [e]
  refine ⟨by simp, fun i hi => ?_⟩
  rw [pa_get (by simpa using hi)]
  simp
/-- Reports of one list stand in another one, in other places. -/
structure Ren (Q Q' : List Rp) (f : Nat → Nat) (nm : ByteArray) : Prop where
  at_ : ∀ j, ∀ h : j < Q.length, ∃ h' : f j < Q'.length, Q'[f j].nm = Q[j].nm ∧ Q'[f j].t = Q[j].t ∧ Q'[f j].L = Q[j].L
  inj : ∀ i j, i < Q.length → j < Q.length → f i = f j → i = j
  onto : ∀ i, ∀ h : i < Q'.length, Q'[i].nm = nm → ∃ j, j < Q.length ∧ f j = i
theorem Ren.lin {Q Q' : List Rp} {f : Nat → Nat} {nm : ByteArray} (h : Ren Q Q' f nm) (hd : Dis Q) (hd' : Dis Q') (c : Int) : lin Q' nm c = (lin Q nm c).map fun x => ⟨x.v + 0, x.t + 0, f x.i⟩ := by
  refine srt_ext (lin_srt hd' nm c) ?_ fun x => ?_
  · unfold Srt
    rw [List.pairwise_map]
    exact (lin_srt hd nm c).imp fun q => by simpa using q
  · rw [lin_mem, List.mem_map]
    constructor
    · rintro ⟨h1, h2, h3, h4⟩
      obtain ⟨j, hj, e⟩ := h.onto x.i h1 h2
      obtain ⟨xv, xt, xi⟩ := x
      dsimp only at *
      subst e
      obtain ⟨h', k1, k2, k3⟩ := h.at_ j hj
      exact ⟨⟨xv, xt, j⟩, (lin_mem _ _ _ _).2 ⟨hj, k1 ▸ h2, k2 ▸ h3, k3 ▸ h4⟩, by simp⟩
    · rintro ⟨y, hy, rfl⟩
      obtain ⟨h1, h2, h3, h4⟩ := (lin_mem _ _ _ _).1 hy
      obtain ⟨h', k1, k2, k3⟩ := h.at_ y.i h1
      exact ⟨h', k1.trans h2, by rw [k2, h3]; simp, by rw [k3, h4]; simp⟩
theorem pa_map {L : List Pt} {g : Pt → Pt} {i : Nat} (h : i < L.length) : pa (L.map g) i = g (pa L i) := by
  rw [pa_get (by simpa using h), pa_get h, List.getElem_map]
theorem rej_map {Q Q' : List Rp} {nm nm' : ByteArray} {c : Int} {a b : Int} {f : Nat → Nat} (S P : Int → Int) (hl : lin Q' nm' c = (lin Q nm c).map fun x => ⟨x.v + a, x.t + b, f x.i⟩) (hinj : ∀ i j, i < Q.length → j < Q.length → f i = f j → i = j) {i : Nat} (hi : i < Q.length) : Rej Q' S P (f i) nm' c = Rej Q S P i nm c := by
  have hs : Sft a b (lin Q nm c) (lin Q' nm' c) := by
    rw [hl]
    exact ⟨by simp, fun i hi => by rw [pa_map hi], fun i hi => by rw [pa_map hi]⟩
  rw [Bool.eq_iff_iff, rej_iff, rej_iff, hs.len]
  constructor
  · rintro ⟨j, hj, h1, h2⟩
    rw [hs.rjt _ _ hj] at h2
    rw [hl, pa_map hj] at h1
    refine ⟨j, hj, ?_, h2⟩
    obtain ⟨h3, -⟩ := (lin_mem Q nm c (pa (lin Q nm c) j)).1 (by rw [pa_get hj]; exact List.getElem_mem hj)
    exact hinj _ _ h3 hi h1
  · rintro ⟨j, hj, h1, h2⟩
    refine ⟨j, hj, ?_, by rw [hs.rjt _ _ hj]; exact h2⟩
    rw [hl, pa_map hj, ← h1]
theorem Ren.mem {Q Q' : List Rp} {f : Nat → Nat} (S P : Int → Int) (hd : Dis Q) (hd' : Dis Q') {q : Nat × Int} (hq : q.1 < Q.length) (h : Ren Q Q' f Q[q.1].nm) : q ∈ flg Q S P ↔ (f q.1, q.2) ∈ flg Q' S P := by
  obtain ⟨h', k1, k2, k3⟩ := h.at_ q.1 hq
  have hr := rej_map (S := S) (P := P) (h.lin hd hd' q.2) h.inj hq
  rw [flg_mem, flg_mem]
  constructor
  · rintro ⟨h1, h2, h3⟩
    exact ⟨h', by rw [k3]; exact h2, by dsimp only; rw [k1, hr]; exact h3⟩
  · rintro ⟨h1, h2, h3⟩
    dsimp only at h2 h3
    rw [k3] at h2
    rw [k1, hr] at h3
    exact ⟨hq, h2, h3⟩
theorem ltF_nodup {F : List (Nat × Int)} (h : SrtF F) : F.Nodup := h.imp fun {a b} h e => by subst e; exact ltF_irr h
theorem sub_len {α : Type} [DecidableEq α] : ∀ {K M : List α}, K.Nodup → (∀ x ∈ K, x ∈ M) → K.length ≤ M.length
  | [], _, _, _ => Nat.zero_le _
  | x :: K, M, hn, hs => by
    have hn' := List.nodup_cons.1 hn
    have hx : x ∈ M := hs x (by simp)
    have : K.length ≤ (M.erase x).length := sub_len hn'.2 fun y hy => (List.mem_erase_of_ne (fun e => hn'.1 (by rw [← e]; exact hy))).2 (hs y (by simp [hy]))
    rw [List.length_erase_of_mem hx] at this
    have : 0 < M.length := List.length_pos_of_mem hx
    rw [List.length_cons]; omega
/-- A permuted list has as many flags. -/
theorem ren_len {Q Q' : List Rp} {f : Nat → Nat} (S P : Int → Int) (ha : ∀ r ∈ Q, Asc' r.L) (ha' : ∀ r ∈ Q', Asc' r.L) (hd : Dis Q) (hd' : Dis Q') (h : ∀ nm, Ren Q Q' f nm) : (flg Q S P).length = (flg Q' S P).length := by
  have hlt : ∀ q ∈ flg Q S P, q.1 < Q.length := fun q hq => ((flg_mem Q S P q).1 hq).1
  have h1 : ((flg Q S P).map fun q => (f q.1, q.2)).Nodup := by
    unfold List.Nodup
    rw [List.pairwise_map]
    refine List.Pairwise.imp_of_mem ?_ (ltF_nodup (flg_srt S P ha))
    intro a b ha hb hne e
    injection e with e1 e2
    exact hne (Prod.ext ((h ⟨#[]⟩).inj _ _ (hlt a ha) (hlt b hb) e1) e2)
  have h2 := sub_len h1 (M := flg Q' S P) fun x hx => by
    obtain ⟨q, hq, rfl⟩ := List.mem_map.1 hx
    exact (Ren.mem S P hd hd' (hlt q hq) (h _)).1 hq
  have h3 := sub_len (ltF_nodup (flg_srt S P ha')) (M := (flg Q S P).map fun q => (f q.1, q.2)) fun x hx => by
    obtain ⟨k, -, -⟩ := (flg_mem Q' S P x).1 hx
    obtain ⟨j, hj, e⟩ := (h Q'[x.1].nm).onto x.1 k rfl
    refine List.mem_map.2 ⟨(j, x.2), (Ren.mem S P hd hd' (q := (j, x.2)) hj (h _)).2 ?_, ?_⟩
    · dsimp only; rw [e]; exact hx
    · dsimp only; rw [e]
  rw [List.length_map] at h2 h3
  omega
/-- The flags of a part are those of its reports. -/
theorem ren_part {Q Q' : List Rp} {f : Nat → Nat} {nm : ByteArray} (S P : Int → Int) (ha : ∀ r ∈ Q, Asc' r.L) (ha' : ∀ r ∈ Q', Asc' r.L) (hd : Dis Q) (hd' : Dis Q') (h : Ren Q Q' f nm) (hn : ∀ j, ∀ hj : j < Q.length, Q[j].nm = nm) (hf : ∀ i j, i < j → j < Q.length → f i < f j) :
    (flg Q S P).map (fun q => (f q.1, q.2)) = (flg Q' S P).filter fun q => decide (∃ k : q.1 < Q'.length, Q'[q.1].nm = nm) := by
  have hlt : ∀ q ∈ flg Q S P, q.1 < Q.length := fun q hq => ((flg_mem Q S P q).1 hq).1
  refine srtF_ext ?_ ((flg_srt S P ha').filter _) fun x => ?_
  · unfold SrtF
    rw [List.pairwise_map]
    refine List.Pairwise.imp_of_mem ?_ (flg_srt S P ha)
    intro a b ha hb hab
    rcases hab with hab | ⟨h1, h2⟩
    · exact .inl (hf _ _ hab (hlt b hb))
    · exact .inr ⟨by rw [h1], h2⟩
  · rw [List.mem_map, List.mem_filter, decide_eq_true_iff]
    constructor
    · rintro ⟨q, hq, rfl⟩
      have hq1 := hlt q hq
      have hh : Ren Q Q' f Q[q.1].nm := by rw [hn q.1 hq1]; exact h
      obtain ⟨k, k1, -⟩ := h.at_ q.1 hq1
      exact ⟨(Ren.mem S P hd hd' hq1 hh).1 hq, k, k1.trans (hn _ hq1)⟩
    · rintro ⟨hx, k, hk⟩
      obtain ⟨j, hj, e⟩ := h.onto x.1 k hk
      have hh : Ren Q Q' f Q[j].nm := by rw [hn j hj]; exact h
      exact ⟨(j, x.2), (Ren.mem S P hd hd' (q := (j, x.2)) hj hh).2 (by dsimp only; rw [e]; exact hx), by dsimp only; rw [e]⟩

/-! Shifted lists; lists of one element. -/
def shL (d : Int) (L : List R) : List R := L.map fun x => (x.1, if x.1 = 1 then x.2 + d else x.2)
theorem fnd_sh (d : Int) (L : List R) (c : Int) : fnd (shL d L) c = (fnd L c).map fun v => v + (if c = 1 then d else 0) := by
  unfold fnd El.Elt.fnd shL
  induction L with
  | nil => rfl
  | cons x L ih =>
    by_cases h : x.1 = c
    · have h1 : (x.1 == c) = true := beq_iff_eq.2 h
      rw [List.map_cons, List.find?_cons_of_pos (by exact h1), List.find?_cons_of_pos (by exact h1)]
      rw [Option.map_some, Option.map_some, Option.map_some]
      subst h
      split <;> simp
    · have h1 : ¬ (x.1 == c) = true := by simpa using h
      rw [List.map_cons, List.find?_cons_of_neg (by exact h1), List.find?_cons_of_neg (by exact h1)]
      exact ih
/-- Another list, shifted. -/
structure Shf (Q Q' : List Rp) (d T : Int) : Prop where
  len : Q'.length = Q.length
  at_ : ∀ j, ∀ h : j < Q.length, ∀ h' : j < Q'.length, Q'[j].nm = Q[j].nm ∧ Q'[j].t = Q[j].t + T ∧ Q'[j].L = shL d Q[j].L
theorem Shf.dis {Q Q' : List Rp} {d T : Int} (h : Shf Q Q' d T) (hd : Dis Q) : Dis Q' := fun i j hi hj hne ⟨e1, e2⟩ => by
  have hl := h.len
  obtain ⟨a1, a2, -⟩ := h.at_ i (by omega) hi
  obtain ⟨b1, b2, -⟩ := h.at_ j (by omega) hj
  exact hd i j (by omega) (by omega) hne ⟨by rw [← a1, ← b1]; exact e1, by rw [a2, b2] at e2; omega⟩
theorem Shf.lin {Q Q' : List Rp} {d T : Int} (h : Shf Q Q' d T) (hd : Dis Q) (nm : ByteArray) (c : Int) : lin Q' nm c = (lin Q nm c).map fun x => ⟨x.v + (if c = 1 then d else 0), x.t + T, x.i⟩ := by
  have hl := h.len
  refine srt_ext (lin_srt (h.dis hd) nm c) ?_ fun x => ?_
  · unfold Srt
    rw [List.pairwise_map]
    exact (lin_srt hd nm c).imp fun q => by simpa using q
  · rw [lin_mem, List.mem_map]
    constructor
    · rintro ⟨h1, h2, h3, h4⟩
      obtain ⟨k1, k2, k3⟩ := h.at_ x.i (by omega) h1
      rw [k3, fnd_sh] at h4
      obtain ⟨v, hv, hv2⟩ := Option.map_eq_some_iff.1 h4
      refine ⟨⟨v, x.t - T, x.i⟩, (lin_mem _ _ _ _).2 ⟨by dsimp only; omega, k1 ▸ h2, by dsimp only; omega, hv⟩, ?_⟩
      obtain ⟨xv, xt, xi⟩ := x
      dsimp only at *
      rw [hv2, show xt - T + T = xt by omega]
    · rintro ⟨y, hy, rfl⟩
      obtain ⟨h1, h2, h3, h4⟩ := (lin_mem _ _ _ _).1 hy
      obtain ⟨k1, k2, k3⟩ := h.at_ y.i h1 (by omega)
      exact ⟨by dsimp only; omega, k1.trans h2, by dsimp only; rw [k2, h3], by dsimp only; rw [k3, fnd_sh, h4]; rfl⟩
theorem shL_mem (d : Int) (L : List R) (c : Int) : (∃ x ∈ shL d L, x.1 = c) ↔ ∃ x ∈ L, x.1 = c := by
  unfold shL
  constructor
  · rintro ⟨x, hx, e⟩
    obtain ⟨y, hy, rfl⟩ := List.mem_map.1 hx
    exact ⟨y, hy, e⟩
  · rintro ⟨x, hx, e⟩
    exact ⟨_, List.mem_map.2 ⟨x, hx, rfl⟩, e⟩
theorem shL_asc {d : Int} {L : List R} (h : Asc' L) : Asc' (shL d L) := by
  unfold Asc' shL
  rw [List.pairwise_map]
  exact h
theorem Shf.flg {Q Q' : List Rp} {d T : Int} (h : Shf Q Q' d T) (hd : Dis Q) (ha : ∀ r ∈ Q, Asc' r.L) (S P : Int → Int) : flg Q' S P = flg Q S P := by
  have hl := h.len
  have ha' : ∀ r ∈ Q', Asc' r.L := fun r hr => by
    obtain ⟨j, hj, rfl⟩ := List.getElem_of_mem hr
    obtain ⟨-, -, k⟩ := h.at_ j (by omega) hj
    rw [k]; exact shL_asc (ha _ (List.getElem_mem _))
  refine srtF_ext (flg_srt S P ha') (flg_srt S P ha) fun q => ?_
  rw [flg_mem, flg_mem]
  constructor
  · rintro ⟨h1, h2, h3⟩
    have h0 : q.1 < Q.length := by omega
    obtain ⟨k1, k2, k3⟩ := h.at_ q.1 h0 h1
    rw [k3, shL_mem] at h2
    rw [k1, rej_map (f := fun i => i) S P (h.lin hd _ _) (fun _ _ _ _ e => e) h0] at h3
    exact ⟨h0, h2, h3⟩
  · rintro ⟨h1, h2, h3⟩
    have h0 : q.1 < Q'.length := by omega
    obtain ⟨k1, k2, k3⟩ := h.at_ q.1 h1 h0
    refine ⟨h0, by rw [k3, shL_mem]; exact h2, ?_⟩
    rw [k1, rej_map (f := fun i => i) S P (h.lin hd _ _) (fun _ _ _ _ e => e) h1]
    exact h3
def onL (c : Int) (L : List R) : List R := match fnd L c with | none => [] | some v => [(c, v)]
theorem fnd_on (c : Int) (L : List R) : fnd (onL c L) c = fnd L c := by
  unfold onL
  cases h : fnd L c with
  | none => rfl
  | some v => simp [fnd, El.Elt.fnd]
theorem on_mem (c : Int) (L : List R) (x : R) (h : x ∈ onL c L) : x.1 = c := by
  unfold onL at h
  split at h
  · simp at h
  · simp at h; rw [h]
theorem on_asc (c : Int) (L : List R) : Asc' (onL c L) := by
  unfold onL Asc'
  split <;> simp
theorem fnd_some {L : List R} {c : Int} : (∃ x ∈ L, x.1 = c) ↔ fnd L c ≠ none := by
  unfold fnd El.Elt.fnd
  rw [Ne, Option.map_eq_none_iff, List.find?_eq_none]
  simp only [beq_iff_eq]
  constructor
  · rintro ⟨x, hx, e⟩ h; exact h x hx e
  · intro h
    refine Classical.byContradiction fun k => h fun x hx e => k ⟨x, hx, e⟩
structure Onl (Q Q' : List Rp) (c : Int) : Prop where
  len : Q'.length = Q.length
  at_ : ∀ j, ∀ h : j < Q.length, ∀ h' : j < Q'.length, Q'[j].nm = Q[j].nm ∧ Q'[j].t = Q[j].t ∧ Q'[j].L = onL c Q[j].L
theorem Onl.dis {Q Q' : List Rp} {c : Int} (h : Onl Q Q' c) (hd : Dis Q) : Dis Q' := fun i j hi hj hne ⟨e1, e2⟩ => by
  have hl := h.len
  obtain ⟨a1, a2, -⟩ := h.at_ i (by omega) hi
  obtain ⟨b1, b2, -⟩ := h.at_ j (by omega) hj
  exact hd i j (by omega) (by omega) hne ⟨by rw [← a1, ← b1]; exact e1, by rw [a2, b2] at e2; exact e2⟩
theorem Onl.lin {Q Q' : List Rp} {c : Int} (h : Onl Q Q' c) (hd : Dis Q) (nm : ByteArray) : lin Q' nm c = lin Q nm c := by
  have hl := h.len
  refine srt_ext (lin_srt (h.dis hd) nm c) (lin_srt hd nm c) fun x => ?_
  rw [lin_mem, lin_mem]
  constructor
  · rintro ⟨h1, h2, h3, h4⟩
    obtain ⟨k1, k2, k3⟩ := h.at_ x.i (by omega) h1
    rw [k3, fnd_on] at h4
    exact ⟨by omega, k1 ▸ h2, k2 ▸ h3, h4⟩
  · rintro ⟨h1, h2, h3, h4⟩
    obtain ⟨k1, k2, k3⟩ := h.at_ x.i h1 (by omega)
    exact ⟨by omega, k1.trans h2, k2.trans h3, by rw [k3, fnd_on]; exact h4⟩
theorem Onl.flg {Q Q' : List Rp} {c : Int} (h : Onl Q Q' c) (hd : Dis Q) (ha : ∀ r ∈ Q, Asc' r.L) (S P : Int → Int) : flg Q' S P = (flg Q S P).filter fun q => q.2 == c := by
  have hl := h.len
  have ha' : ∀ r ∈ Q', Asc' r.L := fun r hr => by
    obtain ⟨j, hj, rfl⟩ := List.getElem_of_mem hr
    obtain ⟨-, -, k⟩ := h.at_ j (by omega) hj
    rw [k]; exact on_asc _ _
  refine srtF_ext (flg_srt S P ha') ((flg_srt S P ha).filter _) fun q => ?_
  rw [List.mem_filter, flg_mem, flg_mem, beq_iff_eq]
  have hr : ∀ i nm, Rej Q' S P i nm c = Rej Q S P i nm c := fun i nm => by unfold Rej; rw [h.lin hd]
  constructor
  · rintro ⟨h1, ⟨x, hx, e⟩, h3⟩
    have h0 : q.1 < Q.length := by omega
    obtain ⟨k1, k2, k3⟩ := h.at_ q.1 h0 h1
    rw [k3] at hx
    have hc := on_mem c _ x hx
    rw [e] at hc
    rw [k1, hc, hr] at h3
    refine ⟨⟨h0, ?_, by rw [hc]; exact h3⟩, hc⟩
    rw [hc, fnd_some, ← fnd_on, ← fnd_some]
    exact ⟨x, hx, e.trans hc⟩
  · rintro ⟨⟨h1, h2, h3⟩, hc⟩
    have h0 : q.1 < Q'.length := by omega
    obtain ⟨k1, k2, k3⟩ := h.at_ q.1 h1 h0
    rw [hc] at h2 h3
    refine ⟨h0, ?_, ?_⟩
    · rw [k3, hc, fnd_some, fnd_on, ← fnd_some]; exact h2
    · rw [k1, hc, hr]; exact h3
end Go.Proofs.YtlakgkoohdfiaaaDoor.Tm
