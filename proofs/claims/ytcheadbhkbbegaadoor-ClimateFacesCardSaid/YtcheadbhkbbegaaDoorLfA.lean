/- ClimateFaces: both lists of reports while their places are changed. -/
import Derived.Test.YtcheadbhkbbegaaDoorLfP
import Derived.Test.YtcheadbhkbbegaaDoorSnL
namespace Go.Proofs.YtcheadbhkbbegaaDoor
open Go.RowKit Go.Maps

/-- The first k faces are even (c = 0) or odd (c = 1). -/
def Ev (c : Int) (R : List Rp) (k : Nat) : Prop := ∀ j, ∀ h : j < R.length, j < k → ∃ q, 0 ≤ q ∧ q ≤ 9 ∧ (R[j]).F = 2 * q + c
theorem Ev.set {c : Int} {R : List Rp} {k : Nat} (h : Ev c R k) (hk : k < R.length) {x : Int} (h0 : 0 ≤ x) (h1 : x < 10) : Ev c (R.set k (atP R[k] (2 * x + c))) (k + 1) := by
  intro j hj hjk
  rw [List.length_set] at hj
  rw [List.getElem_set]
  by_cases e : k = j
  · rw [if_pos e]; exact ⟨x, h0, by omega, rfl⟩
  · rw [if_neg e]; exact h j hj (by omega)
theorem ev_dis {R S : List Rp} (h : Ev 0 R R.length) (h2 : Ev 1 S S.length) : ∀ r ∈ R, ∀ s ∈ S, r.F ≠ s.F := by
  intro r hr s hs e
  obtain ⟨i, hi, rfl⟩ := List.getElem_of_mem hr
  obtain ⟨j, hj, rfl⟩ := List.getElem_of_mem hs
  obtain ⟨q, -, -, e1⟩ := h i hi hi
  obtain ⟨q2, -, -, e2⟩ := h2 j hj hj
  omega
theorem mem_set {R : List Rp} {k : Nat} {x r : Rp} (h : r ∈ R.set k x) : r ∈ R ∨ r = x := List.mem_or_eq_of_mem_set h
/-- Both lists. -/
structure Fw (W : World) (b : Nat) (m : Int) (b1 : Nat) (A : Option Addr) (n1 c1 : Nat) (R : List Rp) (b2 : Nat) (B : Option Addr) (n2 c2 : Nat) (S : List Rp) (Y : World) : Prop where
  src : Src W b Y
  l1 : R.length = n1
  l2 : S.length = n2
  o1 : Y.ownsRow b1 38 8 (.slice A n1 c1) n1 (rpc R)
  o2 : Y.ownsRow b2 38 8 (.slice B n2 c2) n2 (rpc S)
  d1 : ∀ r ∈ R, ∃ base, b < base ∧ Y.ownsRow base 60 2 r.u r.L.length (El.rdc r.L)
  d2 : ∀ r ∈ S, ∃ base, b < base ∧ Y.ownsRow base 60 2 r.u r.L.length (El.rdc r.L)
  p1 : ∀ r ∈ R, Pd m r
  p2 : ∀ r ∈ S, Pd m r
  h1 : b < b1
  h2 : b < b2
  lo : ∀ i, (Value.slice A n1 c1).ownBlock = some i → i < b2
section
variable {W Y Y' : World} {b b1 b2 n1 c1 n2 c2 : Nat} {m : Int} {A B : Option Addr} {R S : List Rp}
theorem Fw.step (h : Fw W b m b1 A n1 c1 R b2 B n2 c2 S Y) (hs : Src W b Y') (hg : Y.grownBy Y' (some b)) : Fw W b m b1 A n1 c1 R b2 B n2 c2 S Y' := by
  have hb1 := h.h1
  have hb2 := h.h2
  have key : ∀ {base size n : Nat} {e : TypeId} {v : Value} {xs : List Value}, b < base → Y.ownsRow base e size v n xs → Y'.ownsRow base e size v n xs := fun hb ho =>
    own_heap ho (fun i hi => hg.block i (row_size ho hi) (fun e => by injection e with e; have := row_base ho hi; omega))
  exact ⟨hs, h.l1, h.l2, key hb1 h.o1, key hb2 h.o2, fun r hr => by obtain ⟨base, hb, ho⟩ := h.d1 r hr; exact ⟨base, hb, key hb ho⟩, fun r hr => by obtain ⟨base, hb, ho⟩ := h.d2 r hr; exact ⟨base, hb, key hb ho⟩, h.p1, h.p2, h.h1, h.h2, h.lo⟩
theorem Fw.under (h : Fw W b m b1 A n1 c1 R b2 B n2 c2 S Y) (hb : Below Y.heap.size Y Y') : Fw W b m b1 A n1 c1 R b2 B n2 c2 S Y' := h.step (h.src.under hb) (grown_below hb)
theorem Fw.in1 (h : Fw W b m b1 A n1 c1 R b2 B n2 c2 S Y) : RpsIn Y (.slice A n1 c1) R := by
  have ho := h.o1
  rw [← h.l1] at ho ⊢
  exact RpsIn.own ho (fun r hr => by obtain ⟨base, -, ho⟩ := h.d1 r hr; exact El.RdIn.own ho)
theorem Fw.in2 (h : Fw W b m b1 A n1 c1 R b2 B n2 c2 S Y) : RpsIn Y (.slice B n2 c2) S := by
  have ho := h.o2
  rw [← h.l2] at ho ⊢
  exact RpsIn.own ho (fun r hr => by obtain ⟨base, -, ho⟩ := h.d2 r hr; exact El.RdIn.own ho)
/-- The world with another place at the i-th report of a row. -/
def putP (Y : World) (g i : Nat) (F : Int) : World := (((Y.setCell ⟨g, i * 8 + 3, none⟩ (.int .i64 F)).setCell ⟨g, i * 8 + 4, none⟩ (.int .i64 280)).setCell ⟨g, i * 8 + 5, none⟩ (.int .i64 280)).setCell ⟨g, i * 8 + 6, none⟩ (.int .i64 280)
theorem putP_far (Y : World) (g i : Nat) (F : Int) (k : Nat) (hk : k ≠ g) : (putP Y g i F).heap[k]? = Y.heap[k]? := by
  unfold putP
  rw [Below.heap_setCell _ ⟨g, i * 8 + 6, none⟩ _ k hk, Below.heap_setCell _ ⟨g, i * 8 + 5, none⟩ _ k hk, Below.heap_setCell _ ⟨g, i * 8 + 4, none⟩ _ k hk, Below.heap_setCell _ ⟨g, i * 8 + 3, none⟩ _ k hk]
theorem putP_src (h : Src W b Y) {g i : Nat} {F : Int} (hg : b < g) : Src W b (putP Y g i F) := by
  have h2 := h.base
  exact Pl.src_set (Pl.src_set (Pl.src_set (Pl.src_set h g _ _ (by omega) (by omega)) g _ _ (by omega) (by omega)) g _ _ (by omega) (by omega)) g _ _ (by omega) (by omega)
theorem putP_own {base g n c i : Nat} {F : Int} (h : Y.ownsRow base 38 8 (.slice (some ⟨g, 0, none⟩) n c) n (rpc R)) (hi : i < R.length) :
    (putP Y g i F).ownsRow base 38 8 (.slice (some ⟨g, 0, none⟩) n c) n (rpc (R.set i (atP R[i] F))) := by
  have := own_setN (own_setN (own_setN (own_setN h (i * 8 + 3) (.int .i64 F)) (i * 8 + 4) (.int .i64 280)) (i * 8 + 5) (.int .i64 280)) (i * 8 + 6) (.int .i64 280)
  rw [rpc_put R i hi F] at this
  exact this
theorem own_row' {base g n c size : Nat} {e : TypeId} {xs : List Value} (h : Y.ownsRow base e size (.slice (some ⟨g, 0, none⟩) n c) n xs) : ∃ cs, Row Y g e cs := by
  obtain ⟨cur, hc, -⟩ := row_own h rfl
  exact ⟨cur, hc⟩
theorem Fw.put1 {g i : Nat} {F : Int} (h : Fw W b m b1 (some ⟨g, 0, none⟩) n1 c1 R b2 B n2 c2 S Y) (hi : i < R.length) (f0 : 0 ≤ F) (f1 : F ≤ 19) : Fw W b m b1 (some ⟨g, 0, none⟩) n1 c1 (R.set i (atP R[i] F)) b2 B n2 c2 S (putP Y g i F) := by
  have hb1 := h.h1
  have hg : b1 ≤ g := row_base h.o1 rfl
  have hl := h.lo g rfl
  obtain ⟨cs, hr⟩ := own_row' h.o1
  have far : ∀ {base size n : Nat} {v : Value} {xs : List Value}, Y.ownsRow base 60 size v n xs → (putP Y g i F).ownsRow base 60 size v n xs := fun ho =>
    own_heap ho (fun k hk => putP_far Y g i F k (fun e => row_not ho hr (by decide) (by rw [← e]; exact hk)))
  refine ⟨putP_src h.src (by omega), by rw [List.length_set]; exact h.l1, h.l2, putP_own h.o1 hi, own_heap h.o2 (fun k hk => putP_far Y g i F k (fun e => by have := row_base h.o2 hk; omega)), fun r hm => ?_, fun r hm => ?_, fun r hm => ?_, h.p2, h.h1, h.h2, h.lo⟩
  · rcases mem_set hm with hm | rfl
    · obtain ⟨base, hb, ho⟩ := h.d1 r hm; exact ⟨base, hb, far ho⟩
    · obtain ⟨base, hb, ho⟩ := h.d1 _ (List.getElem_mem hi); exact ⟨base, hb, far ho⟩
  · obtain ⟨base, hb, ho⟩ := h.d2 r hm; exact ⟨base, hb, far ho⟩
  · rcases mem_set hm with hm | rfl
    · exact h.p1 r hm
    · exact pd_at (h.p1 _ (List.getElem_mem hi)) f0 f1
theorem Fw.put2 {g i : Nat} {F : Int} (h : Fw W b m b1 A n1 c1 R b2 (some ⟨g, 0, none⟩) n2 c2 S Y) (hi : i < S.length) (f0 : 0 ≤ F) (f1 : F ≤ 19) : Fw W b m b1 A n1 c1 R b2 (some ⟨g, 0, none⟩) n2 c2 (S.set i (atP S[i] F)) (putP Y g i F) := by
  have hb2 := h.h2
  have hg : b2 ≤ g := row_base h.o2 rfl
  obtain ⟨cs, hr⟩ := own_row' h.o2
  have far : ∀ {base size n : Nat} {v : Value} {xs : List Value}, Y.ownsRow base 60 size v n xs → (putP Y g i F).ownsRow base 60 size v n xs := fun ho =>
    own_heap ho (fun k hk => putP_far Y g i F k (fun e => row_not ho hr (by decide) (by rw [← e]; exact hk)))
  refine ⟨putP_src h.src (by omega), h.l1, by rw [List.length_set]; exact h.l2, own_heap h.o1 (fun k hk => putP_far Y g i F k (fun e => by have := h.lo k hk; omega)), putP_own h.o2 hi, fun r hm => ?_, fun r hm => ?_, h.p1, fun r hm => ?_, h.h1, h.h2, h.lo⟩
  · obtain ⟨base, hb, ho⟩ := h.d1 r hm; exact ⟨base, hb, far ho⟩
  · rcases mem_set hm with hm | rfl
    · obtain ⟨base, hb, ho⟩ := h.d2 r hm; exact ⟨base, hb, far ho⟩
    · obtain ⟨base, hb, ho⟩ := h.d2 _ (List.getElem_mem hi); exact ⟨base, hb, far ho⟩
  · rcases mem_set hm with hm | rfl
    · exact h.p2 r hm
    · exact pd_at (h.p2 _ (List.getElem_mem hi)) f0 f1
/-- The cells that are written. -/
theorem own_cells8 {base g n c i : Nat} (h : Y.ownsRow base 38 8 (.slice (some ⟨g, 0, none⟩) n c) n (rpc R)) (hn : R.length = n) (hi : i < R.length) (j : Nat) (hj : j < 8) : (∃ u, Y.cell? ⟨g, i * 8 + j, none⟩ = some u) ∧ Y.frozen? ⟨g, i * 8 + j, none⟩ = false := by
  obtain ⟨cs, hr⟩ := own_row' h
  refine ⟨?_, hr.thaw _⟩
  have h1 := h.1
  rw [h.cellAt _ (by omega)]
  have hl := rpc_len R
  exact ⟨_, List.getElem?_eq_getElem (by omega)⟩
/-- What an append takes of the row. -/
theorem own_news8 {base n c : Nat} (h : Y.ownsRow base 38 8 (.slice A n c) n (rpc R)) (hn : R.length = n) : (A = none → n = 0) ∧ ∀ ad, A = some ad → ∀ (j : Nat) u, (rpc R)[j]? = some u → Y.cell? (ad.add j) = some u := by
  rcases h.2 with ⟨h0, h1⟩ | ⟨g', cap', cur, h0, hb, hh, -⟩
  · injection h0 with h0 _ _
    subst h0
    exact ⟨fun _ => h1, fun ad e => by cases e⟩
  · injection h0 with h0 h2 h3
    subst h0
    refine ⟨fun e => (by cases e), fun ad e j u hu => ?_⟩
    injection e with e
    subst e
    have hj := (List.getElem?_eq_some_iff.1 hu).1
    have hl := rpc_len R
    have hx := h.1
    subst h3
    rw [Addr.add_lit, Nat.zero_add, h.cellAt j (by omega)]
    exact hu
end
theorem own_empty8 (w : World) : (w.alloc (.cells #[] 38)).ownsRow w.heap.size 38 8 (.slice (some ⟨w.heap.size, 0, none⟩) 0 0) 0 [] :=
  ⟨rfl, .inr ⟨w.heap.size, 0, #[], rfl, Nat.le_refl _, Row.new w #[] _, Nat.le_refl _, by decide, rfl, rfl⟩⟩
theorem rpc_one {R : List Rp} (h : ∀ r ∈ R, ∃ A n c, r.u = .slice A n c) : ∀ u ∈ rpc R, u.oneCell' = true := by
  intro u hu
  unfold rpc at hu
  obtain ⟨r, hr, hu⟩ := List.mem_flatMap.1 hu
  obtain ⟨A, n, c, e⟩ := h r hr
  simp only [rpCells, List.mem_cons, List.not_mem_nil, or_false] at hu
  rw [e] at hu
  rcases hu with rfl | rfl | rfl | rfl | rfl | rfl | rfl | rfl <;> rfl
theorem rps_one {w : World} {v : Value} {R : List Rp} (h : RpsIn w v R) : ∀ u ∈ rpc R, u.oneCell' = true := rpc_one (fun r hr => by
  obtain ⟨i, hi, rfl⟩ := List.getElem_of_mem hr
  obtain ⟨A, c, -, -, -, hat⟩ := h
  obtain ⟨g, off, -, -, -, hrd⟩ := hat i hi
  obtain ⟨Au, cu, eu, -⟩ := hrd
  exact ⟨_, _, _, eu⟩)
theorem rpc_app2 (R S : List Rp) : rpc (R ++ S) = rpc R ++ rpc S := by unfold rpc; rw [List.flatMap_append]
end Go.Proofs.YtcheadbhkbbegaaDoor
