/- Texts of this proof. -/
import Derived.Test.YtlakgkoohdfiaaaDoorCmN
import Derived.OrdersHeld
namespace Go.Proofs.YtlakgkoohdfiaaaDoor
open Go.RowKit

theorem vld_asc {L : List El.Elt.R} (h : El.Elt.vld L = 0) : El.Elt.Asc L := by
  unfold El.Elt.vld at h
  by_cases h1 : ∃ r ∈ L, El.Elt.chk r.1 r.2 = 4
  · rw [if_pos h1] at h; omega
  · by_cases h2 : ∃ r ∈ L, El.Elt.chk r.1 r.2 = 1
    · rw [if_neg h1, if_pos h2] at h; omega
    · by_cases h3 : El.Elt.Asc L
      · exact h3
      · rw [if_neg h1, if_neg h2, if_neg h3] at h; omega
theorem fnd_of {L : List El.Elt.R} (h : El.Elt.vld L = 0) {x : El.Elt.R} (hx : x ∈ L) : El.Elt.fnd L x.1 = some x.2 := by
  have hp := El.asc_pw (vld_asc h)
  unfold El.Elt.fnd
  cases hf : L.find? (fun r => r.1 == x.1) with
  | none => exact absurd (List.find?_eq_none.1 hf x hx) (by simp)
  | some y =>
    have h1 : y.1 = x.1 := by simpa using List.find?_some hf
    have h2 : y ∈ L := List.mem_of_find?_eq_some hf
    obtain ⟨i, hi, rfl⟩ := List.getElem_of_mem hx
    obtain ⟨j, hj, rfl⟩ := List.getElem_of_mem h2
    rcases Nat.lt_trichotomy i j with q | q | q
    · have := List.pairwise_iff_getElem.1 hp i j hi hj q; omega
    · subst q; rfl
    · have := List.pairwise_iff_getElem.1 hp j i hj hi q; omega
theorem valsC_bd {R : List Rp} (h : ∀ r ∈ R, El.Elt.vld r.L = 0) {c f mo v : Int} (hv : v ∈ valsC R c f mo) : -1000 ≤ v ∧ v ≤ 11000 := by
  unfold valsC at hv
  obtain ⟨r, hr, he⟩ := List.mem_filterMap.1 hv
  split at he
  · obtain rfl := Option.some.inj he
    cases hf : El.Elt.fnd r.L c with
    | none => exact ⟨by decide, by decide⟩
    | some v =>
      unfold El.Elt.fnd at hf
      obtain ⟨x, hx, rfl⟩ := Option.map_eq_some_iff.1 hf
      have := El.Elt.val_bd (vld_vals (h r hr) x (List.mem_of_find?_eq_some hx))
      simp only [Option.getD_some]; omega
  · cases he
theorem sum_bd : ∀ (l : List Int), (∀ v ∈ l, -1000 ≤ v ∧ v ≤ 11000) → -(1000 * (l.length : Int)) ≤ l.sum ∧ l.sum ≤ 11000 * (l.length : Int)
  | [], _ => by simp
  | x :: l, h => by
    have h1 := h x (by simp)
    have h2 := sum_bd l fun v hv => h v (by simp [hv])
    rw [List.sum_cons, List.length_cons]
    push_cast
    omega
theorem mean_bd {l : List Int} (h : ∀ v ∈ l, -1000 ≤ v ∧ v ≤ 11000) (h0 : l ≠ []) : -1000 ≤ l.sum / (l.length : Int) ∧ l.sum / (l.length : Int) ≤ 11000 := by
  have hs := sum_bd l h
  have hp : 0 < l.length := List.length_pos_iff.2 h0
  exact ⟨Int.le_ediv_of_mul_le (by omega) (by omega), Int.ediv_le_of_le_mul (by omega) (by omega)⟩
theorem spr_from (a : Int) : ∀ (l : List Int) (s : Int), s ≤ l.foldl (fun s v => max (max s (v - a)) (a - v)) s
  | [], s => Int.le_refl s
  | x :: l, s => by
    have := spr_from a l (max (max s (x - a)) (a - x))
    rw [List.foldl_cons]
    omega
theorem spr_all (a : Int) : ∀ (l : List Int) (s v : Int), v ∈ l → v - a ≤ l.foldl (fun s v => max (max s (v - a)) (a - v)) s ∧ a - v ≤ l.foldl (fun s v => max (max s (v - a)) (a - v)) s
  | x :: l, s, v, hv => by
    rw [List.foldl_cons]
    rcases List.mem_cons.1 hv with rfl | hv
    · have := spr_from a l (max (max s (v - a)) (a - v)); omega
    · exact spr_all a l _ v hv
theorem spr_some (a : Int) : ∀ (l : List Int) (s : Int), l.foldl (fun s v => max (max s (v - a)) (a - v)) s = s ∨ ∃ v ∈ l, l.foldl (fun s v => max (max s (v - a)) (a - v)) s = v - a ∨ l.foldl (fun s v => max (max s (v - a)) (a - v)) s = a - v
  | [], s => .inl rfl
  | x :: l, s => by
    rw [List.foldl_cons]
    rcases spr_some a l (max (max s (x - a)) (a - x)) with h | ⟨v, hv, h⟩
    · rw [h]
      by_cases h1 : max (max s (x - a)) (a - x) = s
      · exact .inl h1
      · exact .inr ⟨x, by simp, by omega⟩
    · exact .inr ⟨v, by simp [hv], h⟩
theorem spr_in {l : List Int} {v : Int} (a : Int) (hv : v ∈ l) : v - a ≤ spr l a ∧ a - v ≤ spr l a := spr_all a l 0 v hv
theorem spr_bd {l : List Int} {a : Int} (h : ∀ v ∈ l, -1000 ≤ v ∧ v ≤ 11000) (a1 : -1000 ≤ a) (a2 : a ≤ 11000) : 0 ≤ spr l a ∧ spr l a ≤ 12000 := by
  refine ⟨spr_from a l 0, ?_⟩
  rcases spr_some a l 0 with q | ⟨v, hv, q⟩
  · unfold spr; rw [q]; omega
  · have := h v hv
    unfold spr; omega
/-- Some value is as far away as the spread. -/
theorem spr_hit {l : List Int} (a : Int) (h0 : l ≠ []) : ∃ v ∈ l, spr l a = max (v - a) (a - v) := by
  rcases spr_some a l 0 with q | ⟨v, hv, q⟩
  · obtain ⟨v, hv⟩ := List.exists_mem_of_ne_nil l h0
    have h1 := spr_in a hv
    have q' : spr l a = 0 := q
    exact ⟨v, hv, by omega⟩
  · have h1 := spr_in a hv
    have q' : spr l a = v - a ∨ spr l a = a - v := q
    exact ⟨v, hv, by omega⟩
/-- The i-th of all keys. -/
def kI (i : Nat) : Cm.K3 := (((i / 240 : Nat) : Int) + 1, ((i / 12 % 20 : Nat) : Int), ((i % 12 : Nat) : Int) + 1)
theorem kI_lt {i j : Nat} (h : i < j) : Cm.lt3 (kI i) (kI j) := by
  unfold Cm.lt3 kI
  dsimp only
  have hi := Nat.div_add_mod i 240
  have hj := Nat.div_add_mod j 240
  omega
theorem entC_key {R : List Rp} {c f mo : Int} {n : Cm.N5} (h : n ∈ entC R c f mo) : Cm.key n = (c, f, mo) := by
  unfold entC at h
  split at h
  · cases h
  · rw [List.mem_singleton] at h; subst h; rfl
theorem entI_key {R : List Rp} {i : Nat} {n : Cm.N5} (h : n ∈ entI R i) : Cm.key n = kI i := entC_key h
theorem outC_mem {R : List Rp} {K : Nat} {n : Cm.N5} : n ∈ outC R K ↔ ∃ i, i < K ∧ n ∈ entI R i := by
  unfold outC
  rw [List.mem_flatMap]
  exact ⟨fun ⟨i, h1, h2⟩ => ⟨i, List.mem_range.1 h1, h2⟩, fun ⟨i, h1, h2⟩ => ⟨i, List.mem_range.2 h1, h2⟩⟩
theorem outC_pw (R : List Rp) : ∀ K, (outC R K).Pairwise (fun a b => Cm.lt3 (Cm.key a) (Cm.key b))
  | 0 => by simp [outC]
  | K + 1 => by
    rw [outC_succ, List.pairwise_append]
    refine ⟨outC_pw R K, ?_, fun a ha b hb => ?_⟩
    · have h1 : (entI R K).length ≤ 1 := entC_len _ _ _ _
      match hE : entI R K, h1 with
      | [], _ => exact List.Pairwise.nil
      | [x], _ => simp
      | x :: y :: l, h => simp at h
    · obtain ⟨i, hi, ha⟩ := outC_mem.1 ha
      rw [entI_key ha, entI_key hb]
      exact kI_lt hi
theorem ascN_of {N : List Cm.N5} (h : N.Pairwise (fun a b => Cm.lt3 (Cm.key a) (Cm.key b))) : Cm.AscN N := fun j hj => List.pairwise_iff_getElem.1 h j (j + 1) (by omega) hj (by omega)
theorem ascN_pw {N : List Cm.N5} (h : Cm.AscN N) : N.Pairwise (fun a b => Cm.lt3 (Cm.key a) (Cm.key b)) := List.pairwise_iff_getElem.2 fun _ _ _ hj hij => Cm.ascN_at h hij hj
theorem entC_chk {R : List Rp} (h : ∀ r ∈ R, El.Elt.vld r.L = 0) {c f mo : Int} (hc : El.Elt.Ex c) (hf : 0 ≤ f ∧ f ≤ 19) (hm : 1 ≤ mo ∧ mo ≤ 12) {n : Cm.N5} (hn : n ∈ entC R c f mo) : Cm.chkN n = 0 := by
  unfold entC at hn
  by_cases h0 : valsC R c f mo = []
  · rw [if_pos h0] at hn; cases hn
  · rw [if_neg h0, List.mem_singleton] at hn
    subst hn
    have hb : ∀ v ∈ valsC R c f mo, -1000 ≤ v ∧ v ≤ 11000 := fun v hv => valsC_bd h hv
    generalize valsC R c f mo = V at *
    obtain ⟨m1, m2⟩ := mean_bd hb h0
    obtain ⟨s1, s2⟩ := spr_bd hb m1 m2
    unfold Cm.chkN
    dsimp only
    rw [if_pos hc, if_pos (by omega)]
theorem outC_chk {R : List Rp} (h : ∀ r ∈ R, El.Elt.vld r.L = 0) {n : Cm.N5} (hn : n ∈ outC R 2640) : Cm.chkN n = 0 := by
  obtain ⟨i, hi, hn⟩ := outC_mem.1 hn
  unfold entI at hn
  refine entC_chk h ?_ ?_ ?_ hn
  · unfold El.Elt.Ex; omega
  · omega
  · omega
theorem vldN_zero {N : List Cm.N5} (h1 : N.length ≤ 200) (h2 : ∀ n ∈ N, Cm.chkN n = 0) (h3 : Cm.AscN N) : Cm.vldN N = 0 :=
  (Cm.vldN_sort (by omega) (fun ⟨n, hn, e⟩ => by rw [h2 n hn] at e; omega) (fun ⟨n, hn, e⟩ => by rw [h2 n hn] at e; omega)).1 h3
theorem errC_all : ∀ {R : List Rp}, errC R = 0 → ∀ r ∈ R, erC r = 0
  | q :: R, h, r, hr => by
    have h' : (if erC q = 0 then errC R else erC q) = 0 := h
    by_cases h0 : erC q = 0
    · rw [if_pos h0] at h'
      rcases List.mem_cons.1 hr with rfl | hr
      · exact h0
      · exact errC_all h' r hr
    · rw [if_neg h0] at h'; exact absurd h' h0
theorem erC_parts {r : Rp} (h : erC r = 0) : nrm r.F r.A r.B r.C = true ∧ Ck.Cal.rng r.t = true ∧ El.Elt.vld r.L = 0 := by
  unfold erC at h
  by_cases hc : nrm r.F r.A r.B r.C = true ∧ Ck.Cal.rng r.t = true
  · rw [if_pos hc] at h; exact ⟨hc.1, hc.2, h⟩
  · rw [if_neg hc] at h; omega
theorem out_vld {R : List Rp} (h0 : errC R = 0) (X : List Cm.N5) (hX : X = outC R 2640) (hl : ¬ 200 < X.length) : Cm.vldN X = 0 := by
  refine vldN_zero (by omega) (fun n hn => ?_) (ascN_of ?_)
  · rw [hX] at hn; exact outC_chk (fun r hr => (erC_parts (errC_all h0 r hr)).2.2) hn
  · rw [hX]; exact outC_pw R 2640
theorem nil_vld : Cm.vldN ([] : List Cm.N5) = 0 := vldN_zero (by simp) (fun n hn => by cases hn) (fun j hj => by simp at hj)
theorem cut_vld (X : List Cm.N5) (h : ¬ 200 < X.length → Cm.vldN X = 0) : Cm.vldN (if 200 < X.length then (([], 2) : List Cm.N5 × Int) else (X, 0)).1 = 0 := by
  by_cases h1 : 200 < X.length
  · rw [if_pos h1]; exact nil_vld
  · rw [if_neg h1]; exact h h1
theorem lrn_vld {R : List Rp} : Cm.vldN (lrn R).1 = 0 := by
  unfold lrn
  by_cases h0 : errC R = 0
  · rw [if_pos h0]
    exact cut_vld (outC R 2640) (out_vld h0 _ rfl)
  · rw [if_neg h0]; exact nil_vld
theorem mth_bd {t : Int} (h : Ck.Cal.rng t = true) : 1 ≤ mth t ∧ mth t ≤ 12 := by
  have hr : 0 ≤ t ∧ t ≤ 52595999 := by unfold Ck.Cal.rng at h; simpa using h
  obtain ⟨y, m, d, hh, i, hcv, hcn, -⟩ := Ck.Cal.num_of t hr.1 hr.2
  have hm := Ck.Cal.vld_iff.1 hcv
  rw [mth_eq hcv hcn]
  omega
/-- The normal of a slot that has values. -/
noncomputable def nrC (R : List Rp) (c f mo : Int) : Cm.N5 := (c, f, mo, (valsC R c f mo).sum / ((valsC R c f mo).length : Int), spr (valsC R c f mo) ((valsC R c f mo).sum / ((valsC R c f mo).length : Int)))
theorem entC_nr {R : List Rp} {c f mo : Int} (h : valsC R c f mo ≠ []) : entC R c f mo = [nrC R c f mo] := by unfold entC nrC; rw [if_neg h]
theorem vals_mem {R : List Rp} {r : Rp} (hr : r ∈ R) (hv : El.Elt.vld r.L = 0) {x : El.Elt.R} (hx : x ∈ r.L) : x.2 ∈ valsC R x.1 r.F (mth r.t) := by
  unfold valsC
  refine List.mem_filterMap.2 ⟨r, hr, ?_⟩
  rw [fnd_of hv hx]
  simp
theorem out_mem {R : List Rp} {c f mo : Int} (hc : El.Elt.Ex c) (hf : 0 ≤ f ∧ f ≤ 19) (hm : 1 ≤ mo ∧ mo ≤ 12) (h : valsC R c f mo ≠ []) : nrC R c f mo ∈ outC R 2640 := by
  unfold El.Elt.Ex at hc
  obtain ⟨a, rfl⟩ : ∃ a : Nat, c = (a : Int) + 1 := ⟨(c - 1).toNat, by omega⟩
  obtain ⟨b, rfl⟩ : ∃ b : Nat, f = (b : Int) := ⟨f.toNat, by omega⟩
  obtain ⟨d, rfl⟩ : ∃ d : Nat, mo = (d : Int) + 1 := ⟨(mo - 1).toNat, by omega⟩
  refine outC_mem.2 ⟨a * 240 + b * 12 + d, by omega, ?_⟩
  rw [entI_at R a b d (by omega) (by omega), entC_nr h]
  simp
theorem nrm_vld {F A B C : Int} (h : nrm F A B C = true) : ∃ f : Nat, F = f ∧ Pl.Ico.Vld f A B C := by
  unfold nrm at h
  simp only [Bool.and_eq_true] at h
  exact Pl.vb_to h.1
theorem nrm_face {F A B C : Int} (h : nrm F A B C = true) : 0 ≤ F ∧ F ≤ 19 := by
  obtain ⟨f, rfl, hv⟩ := nrm_vld h
  have := hv.1
  omega
/-- Each reading has its normal, from whose mean it is at most the spread away. -/
theorem has_normal {R : List Rp} (h0 : errC R = 0) {r : Rp} (hr : r ∈ R) {x : El.Elt.R} (hx : x ∈ r.L) :
    (∃ n ∈ outC R 2640, n = nrC R x.1 r.F (mth r.t)) ∧ Cm.fndN (outC R 2640) (x.1, r.F, mth r.t) = some (nrC R x.1 r.F (mth r.t)) ∧ x.2 - (nrC R x.1 r.F (mth r.t)).2.2.2.1 ≤ (nrC R x.1 r.F (mth r.t)).2.2.2.2 ∧ (nrC R x.1 r.F (mth r.t)).2.2.2.1 - x.2 ≤ (nrC R x.1 r.F (mth r.t)).2.2.2.2 := by
  obtain ⟨hn, hg, hv⟩ := erC_parts (errC_all h0 r hr)
  have hm := vals_mem hr hv hx
  have hne : valsC R x.1 r.F (mth r.t) ≠ [] := List.ne_nil_of_mem hm
  have hmem := out_mem (vld_vals hv x hx).1 (nrm_face hn) (mth_bd hg) hne
  refine ⟨⟨_, hmem, rfl⟩, ?_, spr_in _ hm⟩
  obtain ⟨i, hi, e⟩ := List.getElem_of_mem hmem
  rw [Cm.fndN_at (ascN_of (outC_pw R 2640)) hi (k := (x.1, r.F, mth r.t)) (by rw [e]; rfl), e]
/-- Each normal comes from some report, whose reading is as far away as the spread. -/
theorem normal_from {R : List Rp} {n : Cm.N5} (hn : n ∈ outC R 2640) : ∃ r ∈ R, ∃ x ∈ r.L, n = nrC R x.1 r.F (mth r.t) ∧ n.2.2.2.2 = max (x.2 - n.2.2.2.1) (n.2.2.2.1 - x.2) := by
  obtain ⟨i, hi, hn⟩ := outC_mem.1 hn
  unfold entI at hn
  generalize ((i / 240 : Nat) : Int) + 1 = c at *
  generalize ((i / 12 % 20 : Nat) : Int) = f at *
  generalize ((i % 12 : Nat) : Int) + 1 = mo at *
  by_cases h0 : valsC R c f mo = []
  · unfold entC at hn; rw [if_pos h0] at hn; cases hn
  · rw [entC_nr h0, List.mem_singleton] at hn
    obtain ⟨v, hv, e⟩ := spr_hit ((valsC R c f mo).sum / ((valsC R c f mo).length : Int)) h0
    have hv0 := hv
    unfold valsC at hv
    obtain ⟨r, hr, he⟩ := List.mem_filterMap.1 hv
    split at he
    · rename_i hc
      simp only [Bool.and_eq_true, beq_iff_eq] at hc
      obtain ⟨⟨h1, h2⟩, h3⟩ := hc
      cases hf : El.Elt.fnd r.L c with
      | none => rw [hf] at h1; cases h1
      | some v' =>
        rw [hf] at he
        obtain rfl := Option.some.inj he
        unfold El.Elt.fnd at hf
        obtain ⟨x, hx, hx2⟩ := Option.map_eq_some_iff.1 hf
        have hx1 : x.1 = c := by simpa using List.find?_some hx
        simp only [Option.getD_some] at e hx2
        refine ⟨r, hr, x, List.mem_of_find?_eq_some hx, ?_, ?_⟩
        · rw [hn, hx1, h2, h3]
        · rw [hn, hx2]; exact e
    · cases he
end Go.Proofs.YtlakgkoohdfiaaaDoor

namespace Go.Proofs.YtlakgkoohdfiaaaDoor
open Go.RowKit

theorem own_less {w : World} {base base' n size : Nat} {e : TypeId} {v : Value} {xs : List Value} (h : w.ownsRow base e size v n xs) (hb : base' ≤ base) : w.ownsRow base' e size v n xs := by
  refine ⟨h.1, ?_⟩
  rcases h.2 with h0 | ⟨g, cap, cur, hv, h1, h2⟩
  · exact .inl h0
  · exact .inr ⟨g, cap, cur, hv, Nat.le_trans hb h1, h2⟩
theorem own_addr {w : World} {base n c size : Nat} {e : TypeId} {A : Option Addr} {xs : List Value} (h : w.ownsRow base e size (.slice A n c) n xs) (hn : 0 < n) : ∃ g, A = some ⟨g, 0, none⟩ := by
  rcases h.2 with ⟨-, h0⟩ | ⟨g, cap, cur, hv, h1, h2⟩
  · omega
  · injection hv with hv; exact ⟨g, hv⟩
theorem own_setN {w : World} {base n g cap size : Nat} {e : TypeId} {xs : List Value} (h : w.ownsRow base e size (.slice (some ⟨g, 0, none⟩) n cap) n xs) (j : Nat) (u : Value) : (w.setCell ⟨g, j, none⟩ u).ownsRow base e size (.slice (some ⟨g, 0, none⟩) n cap) n (xs.set j u) := by
  have hx := h
  rcases hx.2 with ⟨h0, _⟩ | ⟨g', cap', cur, h0, hb, hh, hle, hmax, hsz, htk⟩
  · cases h0
  · injection h0 with h0 _ h3
    injection h0 with h0
    injection h0 with h0
    subst h0
    subst h3
    refine ⟨by rw [List.length_set]; exact h.1, .inr ⟨g, cap, cur.setIfInBounds j u, rfl, hb, ?_, hle, hmax, by rw [Array.size_setIfInBounds]; exact hsz, by rw [Array.toList_setIfInBounds, List.take_set, htk]⟩⟩
    simp [World.setCell, Array.getElem?_modify, hh]
theorem nrc_set4 : ∀ (N : List Cm.N5) (i : Nat) (h : i < N.length) (x : Int), (nrc N).set (i * 5 + 4) (.int .i64 x) = nrc (N.set i (N[i].1, N[i].2.1, N[i].2.2.1, N[i].2.2.2.1, x))
  | y :: r, 0, _, x => rfl
  | y :: r, i + 1, h, x => by
    have := nrc_set4 r i (by simpa using h) x
    show (encN y ++ nrc r).set _ _ = encN y ++ nrc (r.set i _)
    rw [List.set_append_right _ _ (by show 5 ≤ _; omega), show (i + 1) * 5 + 4 - (encN y).length = i * 5 + 4 by show (i + 1) * 5 + 4 - 5 = _; omega, this]
    rfl
theorem nrc_set3 : ∀ (N : List Cm.N5) (i : Nat) (h : i < N.length) (x : Int), (nrc N).set (i * 5 + 3) (.int .i64 x) = nrc (N.set i (N[i].1, N[i].2.1, N[i].2.2.1, x, N[i].2.2.2.2))
  | y :: r, 0, _, x => rfl
  | y :: r, i + 1, h, x => by
    have := nrc_set3 r i (by simpa using h) x
    show (encN y ++ nrc r).set _ _ = encN y ++ nrc (r.set i _)
    rw [List.set_append_right _ _ (by show 5 ≤ _; omega), show (i + 1) * 5 + 3 - (encN y).length = i * 5 + 3 by show (i + 1) * 5 + 3 - 5 = _; omega, this]
    rfl
/-- What is known of a normal that was learned and maybe bent. -/
def Bd (k : Nat) (n : Cm.N5) : Prop := ((0 ≤ n.2.1 ∧ n.2.1 < 20) ∧ El.Elt.Ex n.1 ∧ (1 ≤ n.2.2.1 ∧ n.2.2.1 ≤ 12) ∧ 0 ≤ n.2.2.2.2 ∧ n.2.2.2.2 ≤ 12000) ∧ (-1000 - 30 * (k : Int) ≤ n.2.2.2.1 ∧ n.2.2.2.1 ≤ 11000 + 30 * (k : Int))
theorem Bd.more {k : Nat} {n : Cm.N5} (h : Bd k n) : Bd (k + 1) n := ⟨h.1, by obtain ⟨-, h1, h2⟩ := h; push_cast; omega⟩
theorem Bd.chk {k : Nat} {n : Cm.N5} (h : Bd k n) (hk : k ≤ 200) : Cm.chkN n = 0 := by
  obtain ⟨⟨h1, h2, h3, h4⟩, h5, h6⟩ := h
  unfold Cm.chkN
  rw [if_pos h2, if_pos (by omega)]
theorem entC_bd {R : List Rp} (h : ∀ r ∈ R, El.Elt.vld r.L = 0) {c f mo : Int} (hc : El.Elt.Ex c) (hf : 0 ≤ f ∧ f ≤ 19) (hm : 1 ≤ mo ∧ mo ≤ 12) {n : Cm.N5} (hn : n ∈ entC R c f mo) : Bd 0 n := by
  unfold entC at hn
  by_cases h0 : valsC R c f mo = []
  · rw [if_pos h0] at hn; cases hn
  · rw [if_neg h0, List.mem_singleton] at hn
    subst hn
    have hb : ∀ v ∈ valsC R c f mo, -1000 ≤ v ∧ v ≤ 11000 := fun v hv => valsC_bd h hv
    generalize valsC R c f mo = V at *
    obtain ⟨m1, m2⟩ := mean_bd hb h0
    obtain ⟨s1, s2⟩ := spr_bd hb m1 m2
    exact ⟨⟨⟨hf.1, by show f < 20; omega⟩, hc, hm, s1, s2⟩, by show -1000 - 30 * ((0 : Nat) : Int) ≤ V.sum / (V.length : Int); omega, by show V.sum / (V.length : Int) ≤ 11000 + 30 * ((0 : Nat) : Int); omega⟩
theorem outC_bd {R : List Rp} (h : ∀ r ∈ R, El.Elt.vld r.L = 0) {n : Cm.N5} (hn : n ∈ outC R 2640) : Bd 0 n := by
  obtain ⟨i, hi, hn⟩ := outC_mem.1 hn
  unfold entI at hn
  refine entC_bd h ?_ ?_ ?_ hn
  · unfold El.Elt.Ex; omega
  · omega
  · omega
theorem cut_bd (X : List Cm.N5) (h : ∀ n ∈ X, Bd 0 n) (hp : (X.map Cm.key).Pairwise Cm.lt3) : (if 200 < X.length then (([], 2) : List Cm.N5 × Int) else (X, 0)).1.length ≤ 200 ∧ (∀ n ∈ (if 200 < X.length then (([], 2) : List Cm.N5 × Int) else (X, 0)).1, Bd 0 n) ∧ ((if 200 < X.length then (([], 2) : List Cm.N5 × Int) else (X, 0)).1.map Cm.key).Pairwise Cm.lt3 := by
  by_cases h0 : 200 < X.length
  · rw [if_pos h0]; exact ⟨by simp, fun n hn => (by cases hn), List.Pairwise.nil⟩
  · rw [if_neg h0]; exact ⟨by show X.length ≤ 200; omega, h, hp⟩
theorem lrn_bd (R : List Rp) (h : ∀ r ∈ R, El.Elt.vld r.L = 0) : (lrn R).1.length ≤ 200 ∧ (∀ n ∈ (lrn R).1, Bd 0 n) ∧ ((lrn R).1.map Cm.key).Pairwise Cm.lt3 := by
  unfold lrn
  by_cases h0 : errC R = 0
  · rw [if_pos h0]; exact cut_bd (outC R 2640) (fun n hn => outC_bd h hn) (by rw [List.pairwise_map]; exact outC_pw R 2640)
  · rw [if_neg h0]; exact ⟨by simp, fun n hn => (by cases hn), List.Pairwise.nil⟩
theorem keys_set {N : List Cm.N5} {i : Nat} (h : i < N.length) {n : Cm.N5} (hn : Cm.key n = Cm.key N[i]) : (N.set i n).map Cm.key = N.map Cm.key := by
  rw [List.map_set, hn]
  refine List.ext_getElem (by simp) fun j h1 h2 => ?_
  rw [List.getElem_set]
  split
  · rename_i e; subst e; simp
  · rfl
/-- What is known while a climate is bent. -/
structure Cw (W : World) (b : Nat) (w : World) (N : List Cm.N5) (v : Value) (gr gc k : Nat) (Y : World) : Prop where
  src : Src W b Y
  gro : w.grownBy Y (some b)
  own : Y.ownsRow w.heap.size 50 5 v N.length (nrc N)
  res : Row Y gr 24 #[.slice none 0 0]
  box : Row Y gc 24 #[v]
  hgr : w.heap.size ≤ gr
  hgc : w.heap.size ≤ gc
  hb : b < w.heap.size
  hW : W.heap.size ≤ w.heap.size
  bnd : ∀ n ∈ N, Bd k n
  keys : (N.map Cm.key).Pairwise Cm.lt3
section
variable {W w Y Y' : World} {b : Nat} {N : List Cm.N5} {v : Value} {gr gc k : Nat}
theorem Cw.step (h : Cw W b w N v gr gc k Y) (hs : Src W b Y') (hg : Y.grownBy Y' (some b)) : Cw W b w N v gr gc k Y' :=
  ⟨hs, grown_tr h.gro hg, own_heap h.own (fun i hi => hg.block i (row_size h.own hi) (fun e => by injection e with e; have := row_base h.own hi; have := h.hb; omega)),
    h.res.grown hg (fun e => by injection e with e; have := h.hgr; have := h.hb; omega), h.box.grown hg (fun e => by injection e with e; have := h.hgc; have := h.hb; omega), h.hgr, h.hgc, h.hb, h.hW, h.bnd, h.keys⟩
theorem Cw.under (h : Cw W b w N v gr gc k Y) (hb : Below Y.heap.size Y Y') : Cw W b w N v gr gc k Y' := h.step (h.src.under hb) (grown_below hb)
theorem Cw.more (h : Cw W b w N v gr gc k Y) : Cw W b w N v gr gc (k + 1) Y := ⟨h.src, h.gro, h.own, h.res, h.box, h.hgr, h.hgc, h.hb, h.hW, fun n hn => (h.bnd n hn).more, h.keys⟩
/-- A cell of a normal is written. -/
theorem Cw.put {g cap j L : Nat} {x : Value} {N' : List Cm.N5} (hL : N.length = L) (h : Cw W b w N (.slice (some ⟨g, 0, none⟩) L cap) gr gc k Y) (hl : N'.length = N.length) (he : (nrc N).set j x = nrc N') (hb : ∀ n ∈ N', Bd (k + 1) n) (hks : N'.map Cm.key = N.map Cm.key) : Cw W b w N' (.slice (some ⟨g, 0, none⟩) L cap) gr gc (k + 1) (Y.setCell ⟨g, j, none⟩ x) := by
  subst hL
  have hbase : w.heap.size ≤ g := row_base h.own rfl
  have hbl := h.hb
  have hWw := h.hW
  have n1 : g ≠ gr := fun e => row_not h.own h.res (by decide) (by rw [← e]; rfl)
  have n2 : g ≠ gc := fun e => row_not h.own h.box (by decide) (by rw [← e]; rfl)
  refine ⟨Pl.src_set h.src g j x (by omega) (by omega), ?_, ?_, h.res.far n1 x, h.box.far n2 x, h.hgr, h.hgc, h.hb, h.hW, hb, by rw [hks]; exact h.keys⟩
  · have hg := set_grown Y g j x
    exact ⟨h.gro.os, h.gro.tape, h.gro.output, Nat.le_trans h.gro.size hg.size, fun i hi hne' => (Below.heap_setCell Y ⟨g, j, none⟩ x i (by show i ≠ g; omega)).trans (h.gro.block i hi hne')⟩
  · have := own_setN h.own j x
    rw [he] at this
    rw [hl]
    exact this
theorem Cw.spread {g cap i L : Nat} (hL : N.length = L) (h : Cw W b w N (.slice (some ⟨g, 0, none⟩) L cap) gr gc k Y) (hi : i < N.length) (x : Int) (x1 : 0 ≤ x) (x2 : x ≤ 12000) : ∃ N' : List Cm.N5, N'.length = L ∧ Cw W b w N' (.slice (some ⟨g, 0, none⟩) L cap) gr gc (k + 1) (Y.setCell ⟨g, i * 5 + 4, none⟩ (.int .i64 x)) := by
  refine ⟨_, by rw [List.length_set]; exact hL, h.put hL (by rw [List.length_set]) (nrc_set4 N i hi x) (fun n hn => ?_) (keys_set hi rfl)⟩
  rcases List.mem_or_eq_of_mem_set hn with q | rfl
  · exact (h.bnd n q).more
  · have h9 := (h.bnd _ (List.getElem_mem hi)).more
    exact ⟨⟨h9.1.1, h9.1.2.1, h9.1.2.2.1, x1, x2⟩, h9.2⟩
theorem Cw.mean {g cap i L : Nat} (hL : N.length = L) (h : Cw W b w N (.slice (some ⟨g, 0, none⟩) L cap) gr gc k Y) (hi : i < N.length) (y : Int) (y1 : -30 ≤ y) (y2 : y ≤ 30) : ∃ N' : List Cm.N5, N'.length = L ∧ Cw W b w N' (.slice (some ⟨g, 0, none⟩) L cap) gr gc (k + 1) (Y.setCell ⟨g, i * 5 + 3, none⟩ (.int .i64 (N[i].2.2.2.1 + y))) := by
  refine ⟨_, by rw [List.length_set]; exact hL, h.put hL (by rw [List.length_set]) (nrc_set3 N i hi _) (fun n hn => ?_) (keys_set hi rfl)⟩
  rcases List.mem_or_eq_of_mem_set hn with q | rfl
  · exact (h.bnd n q).more
  · obtain ⟨h8, h9, h10⟩ := h.bnd _ (List.getElem_mem hi)
    exact ⟨h8, by show -1000 - 30 * ((k + 1 : Nat) : Int) ≤ N[i].2.2.2.1 + y; push_cast; omega, by show N[i].2.2.2.1 + y ≤ 11000 + 30 * ((k + 1 : Nat) : Int); push_cast; omega⟩
theorem Cw.facts {g cap i L : Nat} (hL : N.length = L) (h : Cw W b w N (.slice (some ⟨g, 0, none⟩) L cap) gr gc k Y) (hi : i < N.length) : (Y.cell? ⟨g, i * 5 + 3, none⟩ = some (.int .i64 N[i].2.2.2.1) ∧ Y.cell? ⟨g, i * 5 + 4, none⟩ = some (.int .i64 N[i].2.2.2.2)) ∧ ∀ j, Y.frozen? ⟨g, j, none⟩ = false := by
  subst hL
  refine ⟨⟨?_, ?_⟩, fun j => ?_⟩
  · rw [h.own.cellAt _ (by omega), nrc_at N i hi 3 (by omega)]; rfl
  · rw [h.own.cellAt _ (by omega), nrc_at N i hi 4 (by omega)]; rfl
  · rcases h.own.2 with ⟨h0, _⟩ | ⟨g', cap', cur, h0, hb, hh, -⟩
    · cases h0
    · injection h0 with h0
      injection h0 with h0
      injection h0 with h0
      subst h0
      simp [World.frozen?, hh]
theorem Cw.last (h : Cw W b w N v gr gc k Y) : (Src W b (Y.setCell ⟨gr, 0, none⟩ v) ∧ w.grownBy (Y.setCell ⟨gr, 0, none⟩ v) (some b) ∧ (Y.setCell ⟨gr, 0, none⟩ v).ownsRow w.heap.size 50 5 v N.length (nrc N) ∧ ∀ n ∈ N, Bd k n) ∧ Row (Y.setCell ⟨gr, 0, none⟩ v) gr 24 #[v] := by
  have h1 := h.hgr
  have h2 := h.hb
  have h3 := h.hW
  have hg := set_grown Y gr 0 v
  exact ⟨⟨Pl.src_set h.src gr 0 v (by omega) (by omega), ⟨h.gro.os, h.gro.tape, h.gro.output, Nat.le_trans h.gro.size hg.size, fun i hi hne' => (Below.heap_setCell Y ⟨gr, 0, none⟩ v i (by show i ≠ gr; omega)).trans (h.gro.block i hi hne')⟩,
    own_heap h.own (fun i hi => Below.heap_setCell Y ⟨gr, 0, none⟩ v i (fun e => row_not h.own h.res (by decide) (by have e' : i = gr := e; rw [← e']; exact hi))), h.bnd⟩, h.res.put 0 v⟩
end
/-- What data's Climate leaves. -/
def ClO (W : World) (b : Nat) (w : World) (e : Ending) (w' : World) : Prop := ∃ (N : List Cm.N5) (v : Value), e = .returned (clV v) ∧ Src W b w' ∧ w.grownBy w' (some b) ∧ w'.ownsRow w.heap.size 50 5 v N.length (nrc N) ∧ N.length ≤ 200 ∧ (∀ n ∈ N, 0 ≤ n.2.1 ∧ n.2.1 < 20) ∧ Cm.vldN N = 0 ∧ ∀ n ∈ N, 0 ≤ n.2.2.2.2 ∧ n.2.2.2.2 ≤ 12000
theorem ClO.of {W : World} {b : Nat} {w w' : World} {N : List Cm.N5} {v : Value} {k : Nat} (hk : k ≤ 200) (h1 : Src W b w') (h2 : w.grownBy w' (some b)) (h3 : w'.ownsRow w.heap.size 50 5 v N.length (nrc N)) (h4 : N.length ≤ 200) (h5 : ∀ n ∈ N, Bd k n) (h6 : (N.map Cm.key).Pairwise Cm.lt3) : ClO W b w (.returned (clV v)) w' :=
  ⟨N, v, rfl, h1, h2, h3, h4, fun n hn => (h5 n hn).1.1, vldN_zero h4 (fun n hn => (h5 n hn).chk hk) (ascN_of (List.pairwise_map.1 h6)), fun n hn => (h5 n hn).1.2.2.2⟩
end Go.Proofs.YtlakgkoohdfiaaaDoor
