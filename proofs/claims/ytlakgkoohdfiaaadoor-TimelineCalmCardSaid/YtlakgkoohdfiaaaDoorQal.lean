/- Texts of this proof. -/
import Derived.Test.YtlakgkoohdfiaaaDoorQak
import Derived.Test.YtlakgkoohdfiaaaDoorQab
import Derived.Test.YtlakgkoohdfiaaaDoorQaa
import Derived.Deep.Upon
import Derived.ArgAppend
namespace Go.Proofs.YtlakgkoohdfiaaaDoor
open Go.RowKit

/-- A report with its readings. -/
structure Rp where
  k : Int
  nm : ByteArray
  t : Int
  F : Int
  A : Int
  B : Int
  C : Int
  u : Value
  L : List El.Elt.R
abbrev Rp.v (r : Rp) : Value := repV r.k r.nm r.t r.F r.A r.B r.C r.u
def Rp.key (r : Rp) : Int × ByteArray × Int × (Int × Int × Int × Int) × List El.Elt.R := (r.k, r.nm, r.t, (r.F, r.A, r.B, r.C), r.L)
def rpCells (r : Rp) : List Value := [.int .i64 r.k, .string r.nm, .int .i64 r.t, .int .i64 r.F, .int .i64 r.A, .int .i64 r.B, .int .i64 r.C, r.u]
def rpc (R : List Rp) : List Value := R.flatMap rpCells
/-- The cells of one report in a row of reports. -/
def At8 (V : World) (g o : Nat) (r : Rp) : Prop :=
  V.cell? ⟨g, o, none⟩ = some (.int .i64 r.k) ∧ V.cell? ⟨g, o + 1, none⟩ = some (.string r.nm) ∧ V.cell? ⟨g, o + 2, none⟩ = some (.int .i64 r.t) ∧ V.cell? ⟨g, o + 3, none⟩ = some (.int .i64 r.F) ∧ V.cell? ⟨g, o + 4, none⟩ = some (.int .i64 r.A) ∧ V.cell? ⟨g, o + 5, none⟩ = some (.int .i64 r.B) ∧ V.cell? ⟨g, o + 6, none⟩ = some (.int .i64 r.C) ∧ V.cell? ⟨g, o + 7, none⟩ = some r.u
theorem At8.under {V w : World} {g o : Nat} {r : Rp} (h : At8 V g o r) (hg : g < V.heap.size) (hb : Below V.heap.size V w) : At8 w g o r := by
  obtain ⟨h0, h1, h2, h3, h4, h5, h6, h7⟩ := h
  exact ⟨(hb.cell (p := ⟨g, o, none⟩) hg).trans h0, (hb.cell (p := ⟨g, o + 1, none⟩) hg).trans h1, (hb.cell (p := ⟨g, o + 2, none⟩) hg).trans h2, (hb.cell (p := ⟨g, o + 3, none⟩) hg).trans h3, (hb.cell (p := ⟨g, o + 4, none⟩) hg).trans h4, (hb.cell (p := ⟨g, o + 5, none⟩) hg).trans h5, (hb.cell (p := ⟨g, o + 6, none⟩) hg).trans h6, (hb.cell (p := ⟨g, o + 7, none⟩) hg).trans h7⟩
theorem rpc_at : ∀ (R : List Rp) (i : Nat) (h : i < R.length), ∀ j : Nat, j < 8 → (rpc R)[i * 8 + j]? = (rpCells R[i])[j]?
  | x :: r, 0, _, j, hj => by
    show (rpCells x ++ rpc r)[0 * 8 + j]? = _
    rw [Nat.zero_mul, Nat.zero_add, List.getElem?_append_left (by exact hj)]
    rfl
  | x :: r, i + 1, h, j, hj => by
    have := rpc_at r i (by simpa using h) j hj
    show (rpCells x ++ rpc r)[(i + 1) * 8 + j]? = _
    rw [List.getElem?_append_right (by show 8 ≤ _; omega), show (i + 1) * 8 + j - (rpCells x).length = i * 8 + j by show (i + 1) * 8 + j - 8 = _; omega]
    exact this
theorem at8_row {V : World} {g : Nat} {R : List Rp} (h : Row V g 38 (rpc R).toArray) (i : Nat) (hi : i < R.length) : At8 V g (i * 8) R[i] := by
  have k : ∀ j < 8, V.cell? ⟨g, i * 8 + j, none⟩ = (rpCells R[i])[j]? := fun j hj => by
    rw [h.cell, List.getElem?_toArray]
    exact rpc_at R i hi j hj
  exact ⟨k 0 (by omega), k 1 (by omega), k 2 (by omega), k 3 (by omega), k 4 (by omega), k 5 (by omega), k 6 (by omega), k 7 (by omega)⟩
/-- A list of reports in memory. -/
def RpsIn (W : World) (v : Value) (R : List Rp) : Prop := ∃ A cap, v = .slice A R.length cap ∧ R.length ≤ cap ∧ cap ≤ 9223372036854775807 ∧ ∀ i (h : i < R.length), ∃ g off, A = some ⟨g, off, none⟩ ∧ g < W.heap.size ∧ At8 W g (off + i * 8) R[i] ∧ El.RdIn W R[i].u R[i].L
theorem RpsIn.under {W W' : World} {v : Value} {R : List Rp} (h : RpsIn W v R) (hb : Below W.heap.size W W') : RpsIn W' v R := by
  obtain ⟨A, cap, h1, h2, h3, h4⟩ := h
  refine ⟨A, cap, h1, h2, h3, fun i hi => ?_⟩
  obtain ⟨g, off, e, hg, h8, hr⟩ := h4 i hi
  exact ⟨g, off, e, Nat.lt_of_lt_of_le hg hb.size, h8.under hg hb, hr.under hb⟩
theorem RpsIn.own {W : World} {base : Nat} {v : Value} {R : List Rp} (h : W.ownsRow base 38 8 v R.length (rpc R)) (hr : ∀ r ∈ R, El.RdIn W r.u r.L) : RpsIn W v R := by
  rcases h.2 with ⟨rfl, h0⟩ | ⟨g, cap, cur, rfl, hb, hg, hc, hm, hs, hx⟩
  · exact ⟨none, 0, by rw [h0], by omega, by omega, fun i hi => by omega⟩
  · refine ⟨some ⟨g, 0, none⟩, cap, rfl, hc, by unfold maxLen at hm; omega, fun i hi => ⟨g, 0, rfl, (Array.getElem?_eq_some_iff.1 hg).1, ?_, hr _ (List.getElem_mem hi)⟩⟩
    have k : ∀ j < 8, W.cell? ⟨g, 0 + i * 8 + j, none⟩ = (rpCells R[i])[j]? := fun j hj => by
      have h1 : W.cell? ⟨g, 0 + i * 8 + j, none⟩ = cur[0 + i * 8 + j]? := by simp [World.cell?, hg]
      rw [h1, ← rpc_at R i hi j hj, ← hx, Nat.zero_add, ← Array.getElem?_toList, List.getElem?_take, if_pos (by omega)]
    have k0 := k 0 (by omega)
    rw [Nat.add_zero] at k0
    exact ⟨k0, k 1 (by omega), k 2 (by omega), k 3 (by omega), k 4 (by omega), k 5 (by omega), k 6 (by omega), k 7 (by omega)⟩
end Go.Proofs.YtlakgkoohdfiaaaDoor

namespace Go.Proofs.YtlakgkoohdfiaaaDoor.Tm
abbrev R := El.Elt.R
abbrev fnd := El.Elt.fnd
theorem srt_ext : ∀ {L M : List Pt}, Srt L → Srt M → (∀ x, x ∈ L ↔ x ∈ M) → L = M
  | [], [], _, _, _ => rfl
  | [], y :: M, _, _, h => by have := (h y).2 (by simp); simp at this
  | x :: L, [], _, _, h => by have := (h x).1 (by simp); simp at this
  | x :: L, y :: M, hL, hM, h => by
    have hL' := List.pairwise_cons.1 hL
    have hM' := List.pairwise_cons.1 hM
    have hxy : x = y := by
      rcases List.mem_cons.1 ((h x).1 (by simp)) with e | e
      · exact e
      · rcases List.mem_cons.1 ((h y).2 (by simp)) with e' | e'
        · exact e'.symm
        · have := hL'.1 y e'; have := hM'.1 x e; omega
    subst hxy
    have : L = M := srt_ext hL'.2 hM'.2 fun z => by
      constructor
      · intro hz
        rcases List.mem_cons.1 ((h z).1 (by simp [hz])) with e | e
        · subst e; have := hL'.1 z hz; omega
        · exact e
      · intro hz
        rcases List.mem_cons.1 ((h z).2 (by simp [hz])) with e | e
        · subst e; have := hM'.1 z hz; omega
        · exact e
    rw [this]
/-- A point that is put into a line. -/
def ins (x : Pt) : List Pt → List Pt
  | [] => [x]
  | y :: l => if y.t < x.t then y :: ins x l else x :: y :: l
theorem ins_mem (x z : Pt) : ∀ l, z ∈ ins x l ↔ z = x ∨ z ∈ l
  | [] => by simp [ins]
  | y :: l => by
    unfold ins
    split
    · rw [List.mem_cons, ins_mem x z l, List.mem_cons]
      exact ⟨fun h => h.elim (fun h => .inr (.inl h)) fun h => h.elim .inl fun h => .inr (.inr h), fun h => h.elim (fun h => .inr (.inl h)) fun h => h.elim .inl fun h => .inr (.inr h)⟩
    · rw [List.mem_cons]
theorem ins_len (x : Pt) : ∀ l, (ins x l).length = l.length + 1
  | [] => rfl
  | y :: l => by
    unfold ins
    split
    · simp [ins_len x l]
    · rfl
theorem ins_srt (x : Pt) : ∀ l, Srt l → (∀ y ∈ l, y.t ≠ x.t) → Srt (ins x l)
  | [], _, _ => by simp [ins, Srt]
  | y :: l, h, hn => by
    have h' := List.pairwise_cons.1 h
    unfold ins
    split
    · rename_i k
      refine List.pairwise_cons.2 ⟨fun z hz => ?_, ins_srt x l h'.2 fun z hz => hn z (by simp [hz])⟩
      rcases (ins_mem x z l).1 hz with e | e
      · subst e; exact k
      · exact h'.1 z e
    · rename_i k
      have hyx := hn y (by simp)
      refine List.pairwise_cons.2 ⟨fun z hz => ?_, h⟩
      rcases List.mem_cons.1 hz with e | e
      · subst e; omega
      · have := h'.1 z e; omega
/-- How many of a line stand before a time. -/
def bef (t : Int) (l : List Pt) : Nat := (l.takeWhile fun y => decide (y.t < t)).length
theorem ins_at (x : Pt) : ∀ l, ins x l = l.take (bef x.t l) ++ x :: l.drop (bef x.t l)
  | [] => rfl
  | y :: l => by
    unfold ins bef
    by_cases k : y.t < x.t
    · rw [if_pos k, List.takeWhile_cons_of_pos (by simpa using k), ins_at x l]; rfl
    · rw [if_neg k, List.takeWhile_cons_of_neg (by simpa using k)]; rfl
/-- The point that a report gives to a line. -/
def ptO (nm : ByteArray) (c : Int) (r : Rp) (i : Nat) : Option Pt := if r.nm = nm then (fnd r.L c).map fun v => ⟨v, r.t, i⟩ else none
/-- The line of the first k reports. -/
def linK (Q : List Rp) (nm : ByteArray) (c : Int) : Nat → List Pt
  | 0 => []
  | k + 1 => match Q[k]? with
    | none => linK Q nm c k
    | some r => match ptO nm c r k with
      | none => linK Q nm c k
      | some x => ins x (linK Q nm c k)
def lin (Q : List Rp) (nm : ByteArray) (c : Int) : List Pt := linK Q nm c Q.length
/-- No two reports have the same name and time. -/
def Dis (Q : List Rp) : Prop := ∀ i j, ∀ hi : i < Q.length, ∀ hj : j < Q.length, i ≠ j → ¬ (Q[i].nm = Q[j].nm ∧ Q[i].t = Q[j].t)
theorem linK_mem (Q : List Rp) (nm : ByteArray) (c : Int) (x : Pt) : ∀ k, k ≤ Q.length → (x ∈ linK Q nm c k ↔ ∃ h : x.i < Q.length, x.i < k ∧ Q[x.i].nm = nm ∧ Q[x.i].t = x.t ∧ fnd Q[x.i].L c = some x.v)
  | 0, _ => by simp [linK]
  | k + 1, hk => by
    have ih := linK_mem Q nm c x k (by omega)
    have hk' : k < Q.length := by omega
    have e : Q[k]? = some Q[k] := List.getElem?_eq_getElem hk'
    unfold linK
    rw [e]
    dsimp only
    unfold ptO
    by_cases hn : Q[k].nm = nm
    · rw [if_pos hn]
      cases hf : fnd Q[k].L c with
      | none =>
        rw [Option.map_none]; dsimp only
        rw [ih]
        constructor
        · rintro ⟨h, h1, h2⟩; exact ⟨h, by omega, h2⟩
        · rintro ⟨h, h1, h2, h3, h4⟩
          refine ⟨h, ?_, h2, h3, h4⟩
          rcases (by omega : x.i < k ∨ x.i = k) with q | q
          · exact q
          · subst q; rw [hf] at h4; cases h4
      | some v =>
        rw [Option.map_some]; dsimp only
        rw [ins_mem, ih]
        constructor
        · rintro (rfl | ⟨h, h1, h2⟩)
          · exact ⟨hk', by show k < k + 1; omega, hn, rfl, hf⟩
          · exact ⟨h, by omega, h2⟩
        · rintro ⟨h, h1, h2, h3, h4⟩
          rcases (by omega : x.i < k ∨ x.i = k) with q | q
          · exact .inr ⟨h, q, h2, h3, h4⟩
          · left
            obtain ⟨xv, xt, xi⟩ := x
            dsimp only at q h2 h3 h4 ⊢
            subst q
            rw [hf] at h4
            injection h4 with h4
            rw [h4, h3]
    · rw [if_neg hn]; dsimp only
      rw [ih]
      constructor
      · rintro ⟨h, h1, h2⟩; exact ⟨h, by omega, h2⟩
      · rintro ⟨h, h1, h2, h3, h4⟩
        refine ⟨h, ?_, h2, h3, h4⟩
        rcases (by omega : x.i < k ∨ x.i = k) with q | q
        · exact q
        · subst q; exact absurd h2 hn
theorem lin_mem (Q : List Rp) (nm : ByteArray) (c : Int) (x : Pt) : x ∈ lin Q nm c ↔ ∃ h : x.i < Q.length, Q[x.i].nm = nm ∧ Q[x.i].t = x.t ∧ fnd Q[x.i].L c = some x.v := by
  unfold lin
  rw [linK_mem Q nm c x _ (Nat.le_refl _)]
  exact ⟨fun ⟨h, _, h2⟩ => ⟨h, h2⟩, fun ⟨h, h2⟩ => ⟨h, h, h2⟩⟩
theorem linK_srt {Q : List Rp} (hd : Dis Q) (nm : ByteArray) (c : Int) : ∀ k, k ≤ Q.length → Srt (linK Q nm c k)
  | 0, _ => List.Pairwise.nil
  | k + 1, hk => by
    have ih := linK_srt hd nm c k (by omega)
    have hk' : k < Q.length := by omega
    have e : Q[k]? = some Q[k] := List.getElem?_eq_getElem hk'
    unfold linK
    rw [e]
    dsimp only
    unfold ptO
    by_cases hn : Q[k].nm = nm
    · rw [if_pos hn]
      cases hf : fnd Q[k].L c with
      | none => exact ih
      | some v =>
        rw [Option.map_some]; dsimp only
        refine ins_srt _ _ ih fun y hy ht => ?_
        obtain ⟨h, h1, h2, h3, h4⟩ := (linK_mem Q nm c y k (by omega)).1 hy
        exact hd y.i k h hk' (by omega) ⟨h2.trans hn.symm, h3.trans ht⟩
    · rw [if_neg hn]; exact ih
theorem lin_srt {Q : List Rp} (hd : Dis Q) (nm : ByteArray) (c : Int) : Srt (lin Q nm c) := linK_srt hd nm c _ (Nat.le_refl _)
theorem linK_len (Q : List Rp) (nm : ByteArray) (c : Int) : ∀ k, (linK Q nm c k).length ≤ k
  | 0 => Nat.le_refl _
  | k + 1 => by
    have ih := linK_len Q nm c k
    unfold linK
    split
    · omega
    · split
      · omega
      · rw [ins_len]; omega
/-- What is rejected: the reading of an element in a report. -/
def Rej (Q : List Rp) (S P : Int → Int) (i : Nat) (nm : ByteArray) (c : Int) : Bool :=
  (List.range (lin Q nm c).length).any fun j => decide ((pa (lin Q nm c) j).i = i) && rjt (S c) (P c) (lin Q nm c) j
theorem rej_iff (Q : List Rp) (S P : Int → Int) (i : Nat) (nm : ByteArray) (c : Int) : Rej Q S P i nm c = true ↔ ∃ j, j < (lin Q nm c).length ∧ (pa (lin Q nm c) j).i = i ∧ rjt (S c) (P c) (lin Q nm c) j = true := by
  unfold Rej
  simp [List.any_eq_true]
/-- The flags of the first k reports. -/
def flR (Q : List Rp) (S P : Int → Int) (i : Nat) (r : Rp) : List (Nat × Int) := (r.L.filter fun x => Rej Q S P i r.nm x.1).map fun x => (i, x.1)
def flK (Q : List Rp) (S P : Int → Int) : Nat → List (Nat × Int)
  | 0 => []
  | k + 1 => flK Q S P k ++ (match Q[k]? with | none => [] | some r => flR Q S P k r)
def flg (Q : List Rp) (S P : Int → Int) : List (Nat × Int) := flK Q S P Q.length
theorem flK_mem (Q : List Rp) (S P : Int → Int) (q : Nat × Int) : ∀ k, k ≤ Q.length → (q ∈ flK Q S P k ↔ ∃ h : q.1 < Q.length, q.1 < k ∧ (∃ x ∈ Q[q.1].L, x.1 = q.2) ∧ Rej Q S P q.1 Q[q.1].nm q.2 = true)
  | 0, _ => by simp [flK]
  | k + 1, hk => by
    have ih := flK_mem Q S P q k (by omega)
    have hk' : k < Q.length := by omega
    unfold flK
    rw [List.getElem?_eq_getElem hk']
    dsimp only
    rw [List.mem_append, ih]
    unfold flR
    constructor
    · rintro (⟨h, h1, h2⟩ | h)
      · exact ⟨h, by omega, h2⟩
      · obtain ⟨x, hx, rfl⟩ := List.mem_map.1 h
        obtain ⟨h1, h2⟩ := List.mem_filter.1 hx
        exact ⟨hk', by show k < k + 1; omega, ⟨x, h1, rfl⟩, h2⟩
    · rintro ⟨h, h1, h2, h3⟩
      rcases (by omega : q.1 < k ∨ q.1 = k) with e | e
      · exact .inl ⟨h, e, h2, h3⟩
      · right
        obtain ⟨qi, qc⟩ := q
        dsimp only at e h2 h3 ⊢
        subst e
        obtain ⟨x, hx, rfl⟩ := h2
        exact List.mem_map.2 ⟨x, List.mem_filter.2 ⟨hx, h3⟩, rfl⟩
theorem flg_mem (Q : List Rp) (S P : Int → Int) (q : Nat × Int) : q ∈ flg Q S P ↔ ∃ h : q.1 < Q.length, (∃ x ∈ Q[q.1].L, x.1 = q.2) ∧ Rej Q S P q.1 Q[q.1].nm q.2 = true := by
  unfold flg
  rw [flK_mem Q S P q _ (Nat.le_refl _)]
  exact ⟨fun ⟨h, _, h2⟩ => ⟨h, h2⟩, fun ⟨h, h2⟩ => ⟨h, h, h2⟩⟩
/-- The order of flags. -/
def ltF (a b : Nat × Int) : Prop := a.1 < b.1 ∨ a.1 = b.1 ∧ a.2 < b.2
def SrtF (F : List (Nat × Int)) : Prop := F.Pairwise ltF
theorem ltF_irr {a : Nat × Int} : ¬ ltF a a := by rintro (h | ⟨_, h⟩) <;> omega
theorem ltF_trans {a b c : Nat × Int} (h : ltF a b) (k : ltF b c) : ltF a c := by
  rcases h with h | ⟨h1, h2⟩ <;> rcases k with k | ⟨k1, k2⟩
  · exact .inl (by omega)
  · exact .inl (by omega)
  · exact .inl (by omega)
  · exact .inr ⟨by omega, by omega⟩
theorem ltF_tri (a b : Nat × Int) : ltF a b ∨ a = b ∨ ltF b a := by
  obtain ⟨a1, a2⟩ := a
  obtain ⟨b1, b2⟩ := b
  unfold ltF
  dsimp only
  rcases (by omega : a1 < b1 ∨ b1 < a1 ∨ a1 = b1) with h | h | h
  · exact .inl (.inl h)
  · exact .inr (.inr (.inl h))
  · subst h
    rcases (by omega : a2 < b2 ∨ b2 < a2 ∨ a2 = b2) with h | h | h
    · exact .inl (.inr ⟨rfl, h⟩)
    · exact .inr (.inr (.inr ⟨rfl, h⟩))
    · subst h; exact .inr (.inl rfl)
theorem srtF_ext : ∀ {L M : List (Nat × Int)}, SrtF L → SrtF M → (∀ x, x ∈ L ↔ x ∈ M) → L = M
  | [], [], _, _, _ => rfl
  | [], y :: M, _, _, h => by have := (h y).2 (by simp); simp at this
  | x :: L, [], _, _, h => by have := (h x).1 (by simp); simp at this
  | x :: L, y :: M, hL, hM, h => by
    have hL' := List.pairwise_cons.1 hL
    have hM' := List.pairwise_cons.1 hM
    have hxy : x = y := by
      rcases List.mem_cons.1 ((h x).1 (by simp)) with e | e
      · exact e
      · rcases List.mem_cons.1 ((h y).2 (by simp)) with e' | e'
        · exact e'.symm
        · exact absurd (ltF_trans (hL'.1 y e') (hM'.1 x e)) ltF_irr
    subst hxy
    have : L = M := srtF_ext hL'.2 hM'.2 fun z => by
      constructor
      · intro hz
        rcases List.mem_cons.1 ((h z).1 (by simp [hz])) with e | e
        · subst e; exact absurd (hL'.1 z hz) ltF_irr
        · exact e
      · intro hz
        rcases List.mem_cons.1 ((h z).2 (by simp [hz])) with e | e
        · subst e; exact absurd (hM'.1 z hz) ltF_irr
        · exact e
    rw [this]
/-- Strictly ascending elements. -/
def Asc' (L : List R) : Prop := L.Pairwise fun x y => x.1 < y.1
theorem flK_srt {Q : List Rp} (S P : Int → Int) (ha : ∀ r ∈ Q, Asc' r.L) : ∀ k, k ≤ Q.length → SrtF (flK Q S P k)
  | 0, _ => List.Pairwise.nil
  | k + 1, hk => by
    have ih := flK_srt S P ha k (by omega)
    have hk' : k < Q.length := by omega
    unfold flK
    rw [List.getElem?_eq_getElem hk']
    dsimp only
    refine List.pairwise_append.2 ⟨ih, ?_, fun a ha' b hb => ?_⟩
    · unfold flR
      refine List.Pairwise.map _ (fun x y h => ?_) ((ha Q[k] (List.getElem_mem hk')).filter _)
      exact .inr ⟨rfl, h⟩
    · obtain ⟨h, h1, -⟩ := (flK_mem Q S P a k (by omega)).1 ha'
      unfold flR at hb
      obtain ⟨x, -, rfl⟩ := List.mem_map.1 hb
      exact .inl h1
theorem flg_srt {Q : List Rp} (S P : Int → Int) (ha : ∀ r ∈ Q, Asc' r.L) : SrtF (flg Q S P) := flK_srt S P ha _ (Nat.le_refl _)
end Go.Proofs.YtlakgkoohdfiaaaDoor.Tm

namespace Go.Proofs.YtlakgkoohdfiaaaDoor
open Go.RowKit

theorem row_own {W : World} {base size n : Nat} {e : TypeId} {v : Value} {xs : List Value} (h : W.ownsRow base e size v n xs) {i : Nat} (hi : v.ownBlock = some i) : ∃ cur, W.heap[i]? = some (.cells cur e (0, 0)) ∧ i < W.heap.size := by
  rcases h.2 with ⟨rfl, -⟩ | ⟨g, cap, cur, rfl, hb, hg, -⟩
  · cases hi
  · cases hi
    exact ⟨cur, hg, (Array.getElem?_eq_some_iff.1 hg).1⟩
theorem row_size {W : World} {base size n : Nat} {e : TypeId} {v : Value} {xs : List Value} (h : W.ownsRow base e size v n xs) {i : Nat} (hi : v.ownBlock = some i) : i < W.heap.size := by
  obtain ⟨_, -, q⟩ := row_own h hi
  exact q
theorem row_base {W : World} {base size n : Nat} {e : TypeId} {v : Value} {xs : List Value} (h : W.ownsRow base e size v n xs) {i : Nat} (hi : v.ownBlock = some i) : base ≤ i := by
  rcases h.2 with ⟨rfl, -⟩ | ⟨g, cap, cur, rfl, hb, hg, -⟩
  · cases hi
  · cases hi; exact hb
theorem row_form {W : World} {base size n : Nat} {e : TypeId} {v : Value} {xs : List Value} (h : W.ownsRow base e size v n xs) : ∃ A cap, v = .slice A n cap := by
  rcases h.2 with ⟨rfl, rfl⟩ | ⟨g, cap, cur, rfl, hb, hg, -⟩
  · exact ⟨_, _, rfl⟩
  · exact ⟨_, _, rfl⟩
theorem own_heap {W W' : World} {base size n : Nat} {e : TypeId} {v : Value} {xs : List Value} (h : W.ownsRow base e size v n xs) (hk : ∀ i, v.ownBlock = some i → W'.heap[i]? = W.heap[i]?) : W'.ownsRow base e size v n xs := by
  refine ⟨h.1, ?_⟩
  rcases h.2 with h0 | ⟨g, cap, cur, rfl, h1, h2, h3⟩
  · exact .inl h0
  · exact .inr ⟨g, cap, cur, rfl, h1, (hk g rfl).trans h2, h3⟩
theorem row_not {W : World} {base size n g : Nat} {e t : TypeId} {v : Value} {xs : List Value} {cs : Array Value} (h : W.ownsRow base e size v n xs) (hr : Row W g t cs) (ht : t ≠ e) : v.ownBlock ≠ some g := fun q => by
  obtain ⟨cur, hc, -⟩ := row_own h q
  have := hc.symm.trans hr
  injection this with this
  injection this with _ this
  exact ht this.symm
theorem eight_at {Y : World} {g : Nat} {t : TypeId} {r : Rp} (h : Row Y g t (repC r.k r.nm r.t r.F r.A r.B r.C r.u)) : ∀ (j : Nat) (z : Value), (rpCells r)[j]? = some z → Y.cell? ((⟨g, 0, none⟩ : Addr).add j) = some z := fun j z hz => by
  have hj : j < 8 := (List.getElem?_eq_some_iff.1 hz).1
  have e : ((⟨g, 0, none⟩ : Addr).add j) = ⟨g, j, none⟩ := by rw [Addr.add_lit, Nat.zero_add]
  rw [e, h.cell j, ← hz]
  rcases (by omega : j = 0 ∨ j = 1 ∨ j = 2 ∨ j = 3 ∨ j = 4 ∨ j = 5 ∨ j = 6 ∨ j = 7) with rfl | rfl | rfl | rfl | rfl | rfl | rfl | rfl <;> rfl
theorem infoReport : (Tryd.prog.info? 38).map (fun i => (i.zero, i.size, i.bytes)) = some (some (repV 0 ⟨#[]⟩ 0 0 0 0 0 (.slice none 0 0)), 8, 88) := by kernel_rfl
theorem rpc_app (R : List Rp) (r : Rp) : rpc (R ++ [r]) = rpc R ++ rpCells r := by simp [rpc]
/-- APPEND TO AN OWNED ROW, NOTHING OR MORE, FOR THE WALK. -/
theorem wpList_append_own' {P : Program} {ops : Array Oper} {rest : List Oper} {o : Oper} {a : Act} {w : World} {Q : Exit → Act → World → Prop} (hgd : o.guard = none) (s x : Operand) (t : TypeId)
    (ho : o.op = .call { callee := .builtin .append, args := #[s, x], argTypes := #[t, t] })
    (base : Nat) (e : TypeId) (i : TypeInfo) (z : Value) (size bytes : Nat) (ht : P.underlying t = some (.slice e)) (hi : P.info? e = some i) (hz : i.zero = some z)
    (hsize : i.size = size) (hby : i.bytes = bytes) (hzs : z.cells.size = size) (hsz : 0 < size)
    (v : Value) (n : Nat) (xs : List Value) (hs : a.eval s = v) (hown : w.ownsRow base e size v n xs)
    (ad : Addr) (m c : Nat) (news : List Value) (hx : a.eval x = .slice (some ad) m c) (hl : news.length = m * size) (hnews : ∀ j u, news[j]? = some u → w.cell? (ad.add j) = some u) (h1 : ∀ u ∈ news, u.oneCell' = true)
    (h63 : n + m ≤ maxLen) (hbytes : (n + m) * bytes ≤ 140737488355328) (hbase : base ≤ w.heap.size)
    (h : ∀ v' w', w'.ownsRow base e size v' (n + m) (xs ++ news) → w.grownBy w' v.ownBlock → wpList P ops Q rest (a.put o.dst v') w') : wpList P ops Q (o :: rest) a w := by
  refine wpList_plain hgd fun _ hK => ?_
  obtain ⟨v', w', hr, h2, h3, -⟩ := run_append_own (P := P) w base t o.type e i z size bytes ht hi hz hsize hby hzs hsz v n xs hown ad m c news hl hnews h1 h63 hbytes hbase
  unfold Oper.wp execOp
  simp only [ho, resolve, invoke, builtin, Sem.run_bind, Sem.run_pure, Result.andThen_ok, List.map_toArray, List.map_cons, List.map_nil, hs, hx, hr]
  exact hK _ _ (h v' w' h2 h3)
theorem grown_tr {a c d : World} {r : Option Nat} (h : a.grownBy c r) (k : c.grownBy d r) : a.grownBy d r :=
  ⟨k.os.trans h.os, k.tape.trans h.tape, k.output.trans h.output, Nat.le_trans h.size k.size, fun i hi hr => (k.block i (Nat.lt_of_lt_of_le hi h.size) hr).trans (h.block i hi hr)⟩
/-- A report that is drawn at a place. -/
def Pd (m : Int) (r : Rp) : Prop := nameOk r.nm = true ∧ (0 ≤ r.t ∧ r.t ≤ 52595999) ∧ El.Elt.vld r.L = 0 ∧ nrm r.F r.A r.B r.C = true ∧ (m - 20160 < r.t ∧ r.t < m + 20160) ∧ 1 ≤ r.k ∧ r.k ≤ 3
/-- A list of such reports. -/
structure PL (W : World) (b : Nat) (w : World) (m : Int) (R : List Rp) (v : Value) (Y : World) : Prop where
  src : Src W b Y
  gro : w.grownBy Y (some b)
  own : Y.ownsRow w.heap.size 38 8 v R.length (rpc R)
  rds : ∀ r ∈ R, ∃ base, b < base ∧ Y.ownsRow base 81 2 r.u r.L.length (El.rdc r.L)
  val : ∀ r ∈ R, Pd m r
section
variable {W w Y Y' w9 : World} {b : Nat} {m : Int} {R : List Rp} {v : Value}
theorem PL.step (h : PL W b w m R v Y) (hb : b < w.heap.size) (hs : Src W b Y') (hg : Y.grownBy Y' (some b)) : PL W b w m R v Y' :=
  ⟨hs, grown_tr h.gro hg, own_heap h.own (fun i hi => hg.block i (row_size h.own hi) (fun e => by injection e with e; have := row_base h.own hi; omega)),
    fun r hr => by
      obtain ⟨base, hbb, ho⟩ := h.rds r hr
      exact ⟨base, hbb, own_heap ho (fun i hi => hg.block i (row_size ho hi) (fun e => by injection e with e; have := row_base ho hi; omega))⟩, h.val⟩
theorem PL.ins (h : PL W b w m R v Y) : RpsIn Y v R := RpsIn.own h.own (fun r hr => by obtain ⟨base, -, ho⟩ := h.rds r hr; exact El.RdIn.own ho)
theorem PL.set (h : PL W b w m R v Y) (hb : b < w.heap.size) (hW : W.heap.size ≤ w.heap.size) {g : Nat} (j : Nat) (x : Value) (hg : w.heap.size ≤ g) (hne : v.ownBlock ≠ some g) {cs : Array Value} (hr : Row Y g 38 cs) : PL W b w m R v (Y.setCell ⟨g, j, none⟩ x) := by
  have key : ∀ i, i ≠ g → (Y.setCell ⟨g, j, none⟩ x).heap[i]? = Y.heap[i]? := fun i hi => Below.heap_setCell Y ⟨g, j, none⟩ x i hi
  have hgb : Y.grownBy (Y.setCell ⟨g, j, none⟩ x) (some g) := ⟨rfl, rfl, rfl, by simp [World.setCell], fun i _ hi => key i (fun e => hi (by rw [e]))⟩
  refine ⟨Pl.src_set h.src g j x (Nat.le_trans hW hg) (by omega), ?_, own_heap h.own (fun i hi => key i (fun e => hne (by rw [← e]; exact hi))), fun r hr' => ?_, h.val⟩
  · exact ⟨h.gro.os, h.gro.tape, h.gro.output, Nat.le_trans h.gro.size hgb.size, fun i hi hne' => (key i (by omega)).trans (h.gro.block i hi hne')⟩
  · obtain ⟨base, hbb, ho⟩ := h.rds r hr'
    exact ⟨base, hbb, own_heap ho (fun i hi => key i (fun e => row_not ho hr (by decide) (e ▸ hi)))⟩
theorem PL.under (h : PL W b w m R v Y) (hbw : b < w.heap.size) (hb : Below Y.heap.size Y Y') : PL W b w m R v Y' := h.step hbw (h.src.under hb) (grown_below hb)
theorem PL.app (h : PL W b w m R v Y) (hbw : b < w.heap.size) (hW : W.heap.size ≤ w.heap.size) {tmp : Obj} {r : Rp} {v' : Value} {base : Nat} (hbb : b < base) (hr : Y.ownsRow base 81 2 r.u r.L.length (El.rdc r.L)) (hv : Pd m r)
    (ho : w9.ownsRow w.heap.size 38 8 v' (R.length + 1) (rpc R ++ rpCells r)) (hg : (Y.alloc tmp).grownBy w9 v.ownBlock) : PL W b w m (R ++ [r]) v' w9 := by
  have hal : Below Y.heap.size Y (Y.alloc tmp) := (Below.refl _ _).alloc (Nat.le_refl _) _
  have hs := h.src.under hal
  obtain ⟨cs, hrow⟩ := El.src_row hs
  have hnb : v.ownBlock ≠ some b := fun e => by have := row_base h.own e; omega
  refine ⟨El.src_kept hs hg hnb (fun i e => Nat.le_trans hW (row_base h.own e)), ?_, by rw [rpc_app, List.length_append]; exact ho, ?_, ?_⟩
  · have h1 := h.gro.size
    refine ⟨hg.os.trans h.gro.os, hg.tape.trans h.gro.tape, hg.output.trans h.gro.output, Nat.le_trans h1 (Nat.le_trans hal.size hg.size), fun i hi hne => ?_⟩
    exact (hg.block i (by have := hal.size; omega) (fun e => by have := row_base h.own e.symm; omega)).trans ((Below.heap_alloc Y _ i (by omega)).trans (h.gro.block i hi hne))
  · intro r' hr'
    have key : ∀ {r0 : Rp} {base0 : Nat}, Y.ownsRow base0 81 2 r0.u r0.L.length (El.rdc r0.L) → w9.ownsRow base0 81 2 r0.u r0.L.length (El.rdc r0.L) := fun {r0 base0} hq =>
      own_heap hq (fun i hi => (hg.block i (by have := row_size hq hi; have := hal.size; omega) (fun e => by
        obtain ⟨c1, h1, -⟩ := row_own h.own e.symm
        obtain ⟨c2, h2, -⟩ := row_own hq hi
        rw [h1] at h2; injection h2 with h2; injection h2 with _ h2; exact absurd h2 (by decide))).trans (Below.heap_alloc Y _ i (row_size hq hi)))
    rcases List.mem_append.1 hr' with q | q
    · obtain ⟨base0, hb0, ho0⟩ := h.rds r' q
      exact ⟨base0, hb0, key ho0⟩
    · rw [List.mem_singleton.1 q]; exact ⟨base, hbb, key hr⟩
  · intro r' hr'
    rcases List.mem_append.1 hr' with q | q
    · exact h.val r' q
    · rw [List.mem_singleton.1 q]; exact hv
/-- What is known while a report is moved to its place. -/
structure Pw (W : World) (b : Nat) (w : World) (m : Int) (R : List Rp) (v : Value) (gp gt : Nat) (p1 p2 p3 p4 : Int) (r : Rp) (Y : World) : Prop where
  pl : PL W b w m R v Y
  pb : Row Y gp 27 #[.int .i64 p1, .int .i64 p2, .int .i64 p3, .int .i64 p4]
  rb : Row Y gt 38 (repC r.k r.nm r.t r.F r.A r.B r.C r.u)
  rd : ∃ base, b < base ∧ Y.ownsRow base 81 2 r.u r.L.length (El.rdc r.L)
  ne : v.ownBlock ≠ some gt
  bw : b < w.heap.size
  hW : W.heap.size ≤ w.heap.size
  hp : w.heap.size ≤ gp
  ht : w.heap.size ≤ gt
variable {gp gt : Nat} {p1 p2 p3 p4 : Int} {r : Rp}
theorem Pw.step (h : Pw W b w m R v gp gt p1 p2 p3 p4 r Y) (hs : Src W b Y') (hg : Y.grownBy Y' (some b)) : Pw W b w m R v gp gt p1 p2 p3 p4 r Y' := by
  have hb := h.bw
  have hp := h.hp
  have ht := h.ht
  refine ⟨h.pl.step h.bw hs hg, h.pb.grown hg (fun e => by injection e with e; omega), h.rb.grown hg (fun e => by injection e with e; omega), ?_, h.ne, h.bw, h.hW, h.hp, h.ht⟩
  obtain ⟨base, hbb, ho⟩ := h.rd
  exact ⟨base, hbb, own_heap ho (fun i hi => hg.block i (row_size ho hi) (fun e => by injection e with e; have := row_base ho hi; omega))⟩
theorem Pw.under (h : Pw W b w m R v gp gt p1 p2 p3 p4 r Y) (hb : Below Y.heap.size Y Y') : Pw W b w m R v gp gt p1 p2 p3 p4 r Y' := h.step (h.pl.src.under hb) (grown_below hb)
theorem Pw.set1 (h : Pw W b w m R v gp gt p1 p2 p3 p4 r Y) (j : Nat) (x : Value) (r' : Rp) (hu : r'.u = r.u) (hL : r'.L = r.L) (hc : (repC r.k r.nm r.t r.F r.A r.B r.C r.u).setIfInBounds j x = repC r'.k r'.nm r'.t r'.F r'.A r'.B r'.C r'.u) : Pw W b w m R v gp gt p1 p2 p3 p4 r' (Y.setCell ⟨gt, j, none⟩ x) := by
  have hne : gp ≠ gt := fun e => by
    have h1 := h.pb; have h2 := h.rb
    rw [e] at h1
    unfold Row at h1 h2
    rw [h1] at h2
    injection h2 with h2; injection h2 with _ h2; exact absurd h2 (by decide)
  refine ⟨h.pl.set h.bw h.hW j x h.ht h.ne h.rb, h.pb.far (p := ⟨gt, j, none⟩) (Ne.symm hne) x, hc ▸ h.rb.put j x, ?_, h.ne, h.bw, h.hW, h.hp, h.ht⟩
  obtain ⟨base, hbb, ho⟩ := h.rd
  rw [hu, hL]
  exact ⟨base, hbb, own_heap ho (fun i hi => Below.heap_setCell Y ⟨gt, j, none⟩ x i (fun e => row_not ho h.rb (by decide) (by have e' : i = gt := e; rw [← e']; exact hi)))⟩
theorem Pw.put (h : Pw W b w m R v gp gt p1 p2 p3 p4 r Y) (F A B C : Int) : Pw W b w m R v gp gt p1 p2 p3 p4 ⟨r.k, r.nm, r.t, F, A, B, C, r.u, r.L⟩ ((((Y.setCell ⟨gt, 3, none⟩ (.int .i64 F)).setCell ⟨gt, 4, none⟩ (.int .i64 A)).setCell ⟨gt, 5, none⟩ (.int .i64 B)).setCell ⟨gt, 6, none⟩ (.int .i64 C)) :=
  (((h.set1 3 (.int .i64 F) ⟨r.k, r.nm, r.t, F, r.A, r.B, r.C, r.u, r.L⟩ rfl rfl rfl).set1 4 (.int .i64 A) ⟨r.k, r.nm, r.t, F, A, r.B, r.C, r.u, r.L⟩ rfl rfl rfl).set1 5 (.int .i64 B) ⟨r.k, r.nm, r.t, F, A, B, r.C, r.u, r.L⟩ rfl rfl rfl).set1 6 (.int .i64 C) ⟨r.k, r.nm, r.t, F, A, B, C, r.u, r.L⟩ rfl rfl rfl
end
/-- What Placed leaves. -/
def PlO (W : World) (b : Nat) (m : Int) (n : Nat) (w : World) (e : Ending) (w' : World) : Prop := ∃ (R : List Rp) (v : Value), e = .returned v ∧ R.length ≤ n ∧ PL W b w m R v w'
end Go.Proofs.YtlakgkoohdfiaaaDoor
