/- An argument that is a report, opened. -/
import Derived.Test.YtkdjmgdgpbmmpaaGreatDoorMzl
import Derived.Deep.SlicePairs
namespace Go.Proofs.YtkdjmgdgpbmmpaaGreatDoor
open Go.ChangeShapes Go.WideShapes Go.ChangeAt Go.RowKit

theorem eight_of {α : Type} {l : Array α} (h : l.size = 8) : ∃ a b c d e f g i, l = #[a, b, c, d, e, f, g, i] := by
  obtain ⟨l⟩ := l
  match l, h with
  | [a, b, c, d, e, f, g, i], _ => exact ⟨a, b, c, d, e, f, g, i, rfl⟩
set_option maxRecDepth 100000 in
/-- A cell that is a list of readings, as it is trodden. -/
theorem readingsCell {H : Type} {enc : TypeId × Value → H} {W : World} {v : Value} {fuel : Nat} {x : DataW H × List MemPlace}
    (hf : DataW.trod enc Tryz.prog W 0 (fun _ => true) true fuel 24 [v] = some x) : ∃ R : List El.Elt.R, El.RdIn W v R := by
  have hC : Tryz.prog.cellsOf 85 = 2 := by kernel_rfl
  rcases Go.Deep.open_slice_pairs Tryz.underlying24 Tryz.underlying85 hC rfl rfl cellsInt cellsInt hf with ⟨hcs, _⟩ | ⟨a, len, cap, m, n, V0, V1, D0, D1, P0, P1, hcs, _, hl, hm, hmm, _, hx⟩
  · simp only [List.cons.injEq, and_true] at hcs
    subst hcs
    exact ⟨[], El.RdIn.nil W⟩
  · simp only [List.cons.injEq, and_true] at hcs
    subst hcs
    unfold maxLen at hm
    simp only [if_true] at hmm
    subst hmm
    have hz : ∀ i, i < len → ∃ q : Int × Int, W.cell? (a.add (i * 2)) = some (.int .i64 q.1) ∧ W.cell? (a.add (i * 2 + 1)) = some (.int .i64 q.2) := by
      intro i hi
      obtain ⟨e0, e1, t0, t1⟩ := hx i (by omega)
      obtain ⟨x, hx0, _, _⟩ := DataW.trod_int Tryz.underlying3 t0
      obtain ⟨y, hy0, _, _⟩ := DataW.trod_int Tryz.underlying3 t1
      injection hx0 with hx0 _
      injection hy0 with hy0 _
      exact ⟨(x, y), by rw [e0, hx0], by rw [e1, hy0]⟩
    have hz' : ∀ i, ∃ q : Int × Int, i < len → W.cell? (a.add (i * 2)) = some (.int .i64 q.1) ∧ W.cell? (a.add (i * 2 + 1)) = some (.int .i64 q.2) := fun i => by
      by_cases hi : i < len
      · obtain ⟨q, hq⟩ := hz i hi
        exact ⟨q, fun _ => hq⟩
      · exact ⟨(0, 0), fun h => absurd h hi⟩
    have hch : ∃ f : Nat → Int × Int, ∀ i, i < len → W.cell? (a.add (i * 2)) = some (.int .i64 (f i).1) ∧ W.cell? (a.add (i * 2 + 1)) = some (.int .i64 (f i).2) := ⟨fun i => Classical.choose (hz' i), fun i => Classical.choose_spec (hz' i)⟩
    obtain ⟨f, hq⟩ := hch
    refine ⟨(List.range len).map f, some a, _, by simp, by simpa using hl, hm, fun i hi => ?_⟩
    have hi' : i < len := by simpa using hi
    obtain ⟨q0, q1⟩ := hq i hi'
    have qz := (hq 0 (by omega)).1
    obtain ⟨b, off, spot⟩ := a
    have hspot : spot = none := by simpa [Addr.add] using World.cell?_spot qz
    subst hspot
    rw [Addr.add_lit] at q0 q1
    exact ⟨b, off, rfl, World.block_lt_of_cell? W _ q0, by simpa using q0, by simpa [Nat.add_assoc] using q1⟩
set_option maxRecDepth 100000 in
theorem reportIn {H : Type} {enc : TypeId × Value → H} {W : World} {base : Nat} {v : Value} {d : DataW H} {p : List MemPlace} (hval : Value.okWide Tryz.prog W .any base 26 v)
    (h : DataW.Trod enc Tryz.prog W 0 (fun _ => true) true 26 v d p) : ∃ (k : Int) (nm : ByteArray) (t F A B C : Int) (u : Value) (L : List El.Elt.R), v = repV k nm t F A B C u ∧ El.RdIn W u L := by
  have hs : Tryz.prog.underlying 26 = some (.struct (Tryz.prog.fieldsOf 26)) := by kernel_rfl
  have hsP : Tryz.prog.underlying 23 = some (.struct (Tryz.prog.fieldsOf 23)) := by kernel_rfl
  have hC : Tryz.prog.cellsOf 26 = 8 := by kernel_rfl
  have hCP : Tryz.prog.cellsOf 23 = 4 := by kernel_rfl
  have hCR : Tryz.prog.cellsOf 24 = 1 := by kernel_rfl
  obtain ⟨cs, rfl, hsz⟩ := okWide_struct hs hval
  obtain ⟨v0, v1, v2, v3, v4, v5, v6, v7, rfl⟩ := eight_of (hsz.trans hC)
  obtain ⟨fuel, hf⟩ := h
  have h2 : (Value.agg #[v0, v1, v2, v3, v4, v5, v6, v7]).cells.toList = [v0, v1, v2, v3, v4, v5, v6, v7] := rfl
  rw [h2] at hf
  obtain ⟨xs, n, _, _, _, hlen, hg⟩ := DataW.trod_struct hs hf
  have get : ∀ (j t o c : Nat), ((Tryz.prog.fieldsOf 26)[j]?).map (fun f => (f.type, f.offset)) = some (t, o) → Tryz.prog.cellsOf t = c →
      ∃ x, DataW.trod enc Tryz.prog W 0 (fun _ => true) true n t (([v0, v1, v2, v3, v4, v5, v6, v7].drop o).take c) = some x := by
    intro j t o c hj hc
    obtain ⟨f, hfj, hft⟩ := Option.map_eq_some_iff.1 hj
    simp only [Prod.mk.injEq] at hft
    have h1 := hg j f hfj
    rw [hft.1, hft.2, hc] at h1
    have hjl : j < xs.length := by rw [hlen]; exact (Array.getElem?_eq_some_iff.1 hfj).1
    rw [List.getElem?_eq_getElem hjl] at h1
    exact ⟨_, h1⟩
  obtain ⟨x0, g0⟩ := get 0 3 0 1 (by kernel_rfl) cellsInt
  obtain ⟨x1, g1⟩ := get 1 9 1 1 (by kernel_rfl) cellsStr
  obtain ⟨x2, g2⟩ := get 2 3 2 1 (by kernel_rfl) cellsInt
  obtain ⟨x3, g3⟩ := get 3 23 3 4 (by kernel_rfl) hCP
  obtain ⟨x4, g4⟩ := get 4 24 7 1 (by kernel_rfl) hCR
  obtain ⟨k, e0, -, -⟩ := DataW.trod_int Tryz.underlying3 g0
  obtain ⟨nm, e1, -, -⟩ := DataW.trod_string Tryz.underlying9 g1
  obtain ⟨t, e2, -, -⟩ := DataW.trod_int Tryz.underlying3 g2
  obtain ⟨R, hR⟩ := readingsCell (v := v7) g4
  obtain ⟨ys, m, _, _, _, hlenP, hgP⟩ := DataW.trod_struct hsP g3
  have getP : ∀ (j : Nat), ((Tryz.prog.fieldsOf 23)[j]?).map (fun f => (f.type, f.offset)) = some (3, j) →
      ∃ a : Int, (([v3, v4, v5, v6] : List Value).drop j).take 1 = [.int .i64 a] := by
    intro j hj
    obtain ⟨f, hfj, hft⟩ := Option.map_eq_some_iff.1 hj
    simp only [Prod.mk.injEq] at hft
    have h1 := hgP j f hfj
    rw [hft.1, hft.2, cellsInt] at h1
    have hjl : j < ys.length := by rw [hlenP]; exact (Array.getElem?_eq_some_iff.1 hfj).1
    rw [List.getElem?_eq_getElem hjl] at h1
    obtain ⟨a, hc, _, _⟩ := DataW.trod_int Tryz.underlying3 h1
    exact ⟨a, hc⟩
  obtain ⟨F, f0⟩ := getP 0 (by kernel_rfl)
  obtain ⟨A, f1⟩ := getP 1 (by kernel_rfl)
  obtain ⟨B, f2⟩ := getP 2 (by kernel_rfl)
  obtain ⟨C, f3⟩ := getP 3 (by kernel_rfl)
  have E_e0 : v0 = .int .i64 k := by simpa using e0
  have E_e1 : v1 = .string nm := by simpa using e1
  have E_e2 : v2 = .int .i64 t := by simpa using e2
  have E_f0 : v3 = .int .i64 F := by simpa using f0
  have E_f1 : v4 = .int .i64 A := by simpa using f1
  have E_f2 : v5 = .int .i64 B := by simpa using f2
  have E_f3 : v6 = .int .i64 C := by simpa using f3
  subst E_e0
  subst E_e1
  subst E_e2
  subst E_f0
  subst E_f1
  subst E_f2
  subst E_f3
  exact ⟨k, nm, t, F, A, B, C, v7, R, rfl, hR⟩
end Go.Proofs.YtkdjmgdgpbmmpaaGreatDoor
