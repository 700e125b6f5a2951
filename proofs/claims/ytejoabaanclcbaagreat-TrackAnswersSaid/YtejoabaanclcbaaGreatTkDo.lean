/- An argument that is a list of reports, opened. -/
import Derived.Test.YtejoabaanclcbaaGreatQar
import Derived.Test.YtejoabaanclcbaaGreatDoor
import Derived.Deep.Slices
namespace Go.Proofs.YtejoabaanclcbaaGreat.Tk
open Go.ChangeShapes Go.WideShapes Go.ChangeAt Go.RowKit

theorem eight_list {α : Type} {l : List α} (h : l.length = 8) : ∃ a b c d e f g i, l = [a, b, c, d, e, f, g, i] := by
  match l, h with
  | [a, b, c, d, e, f, g, i], _ => exact ⟨a, b, c, d, e, f, g, i, rfl⟩
theorem cellsStr : Tryz.prog.cellsOf 9 = 1 := by kernel_rfl
set_option maxRecDepth 100000 in
/-- A cell that is a list of readings, as it is trodden. -/
theorem rdCell {H : Type} {enc : TypeId × Value → H} {W : World} {v : Value} {fuel : Nat} {x : DataW H × List MemPlace}
    (hf : DataW.trod enc Tryz.prog W 0 (fun _ => true) true fuel 33 [v] = some x) : ∃ ua un uc, v = .slice ua un uc := by
  rcases Go.Deep.open_slice Tryz.underlying33 hf with ⟨hcs, _⟩ | ⟨a, len, cap, m, n, D, Pl, hcs, _⟩
  · simp only [List.cons.injEq, and_true] at hcs
    exact ⟨none, 0, 0, hcs⟩
  · simp only [List.cons.injEq, and_true] at hcs
    exact ⟨some a, len, cap, hcs⟩
set_option maxRecDepth 100000 in
theorem rqCellsIn {H : Type} {enc : TypeId × Value → H} {W : World} {cs : List Value} {fuel : Nat} {x : DataW H × List MemPlace} (hsz : cs.length = 8)
    (hf : DataW.trod enc Tryz.prog W 0 (fun _ => true) true fuel 35 cs = some x) : ∃ r : Rq, cs = rqCells r := by
  have hs : Tryz.prog.underlying 35 = some (.struct (Tryz.prog.fieldsOf 35)) := by kernel_rfl
  have hsP : Tryz.prog.underlying 32 = some (.struct (Tryz.prog.fieldsOf 32)) := by kernel_rfl
  have hCP : Tryz.prog.cellsOf 32 = 4 := by kernel_rfl
  have hCR : Tryz.prog.cellsOf 33 = 1 := by kernel_rfl
  obtain ⟨v0, v1, v2, v3, v4, v5, v6, v7, rfl⟩ := eight_list hsz
  obtain ⟨xs, n, _, _, _, hlen, hg⟩ := DataW.trod_struct hs hf
  have get : ∀ (j t o c : Nat), ((Tryz.prog.fieldsOf 35)[j]?).map (fun f => (f.type, f.offset)) = some (t, o) → Tryz.prog.cellsOf t = c →
      ∃ x, DataW.trod enc Tryz.prog W 0 (fun _ => true) true n t (([v0, v1, v2, v3, v4, v5, v6, v7].drop o).take c) = some x := by
    intro j t o c hj hc
    obtain ⟨f, hfj, hft⟩ := Option.map_eq_some_iff.1 hj
    simp only [Prod.mk.injEq] at hft
    have h1 := hg j f hfj
    rw [hft.1, hft.2, hc] at h1
    have hjl : j < xs.length := by rw [hlen]; exact (Array.getElem?_eq_some_iff.1 hfj).1
    rw [List.getElem?_eq_getElem hjl] at h1
    exact ⟨_, h1⟩
  obtain ⟨x0, g0⟩ := get 0 3 0 1 (by kernel_rfl) cellsInt
  obtain ⟨x1, g1⟩ := get 1 9 1 1 (by kernel_rfl) cellsStr
  obtain ⟨x2, g2⟩ := get 2 3 2 1 (by kernel_rfl) cellsInt
  obtain ⟨x3, g3⟩ := get 3 32 3 4 (by kernel_rfl) hCP
  obtain ⟨x4, g4⟩ := get 4 33 7 1 (by kernel_rfl) hCR
  obtain ⟨k, e0, -, -⟩ := DataW.trod_int Tryz.underlying3 g0
  obtain ⟨nm, e1, -, -⟩ := DataW.trod_string Tryz.underlying9 g1
  obtain ⟨t, e2, -, -⟩ := DataW.trod_int Tryz.underlying3 g2
  obtain ⟨ua, un, uc, rfl⟩ := rdCell (v := v7) g4
  obtain ⟨ys, m, _, _, _, hlenP, hgP⟩ := DataW.trod_struct hsP g3
  have getP : ∀ (j : Nat), ((Tryz.prog.fieldsOf 32)[j]?).map (fun f => (f.type, f.offset)) = some (3, j) →
      ∃ a : Int, (([v3, v4, v5, v6] : List Value).drop j).take 1 = [.int .i64 a] := by
    intro j hj
    obtain ⟨f, hfj, hft⟩ := Option.map_eq_some_iff.1 hj
    simp only [Prod.mk.injEq] at hft
    have h1 := hgP j f hfj
    rw [hft.1, hft.2, cellsInt] at h1
    have hjl : j < ys.length := by rw [hlenP]; exact (Array.getElem?_eq_some_iff.1 hfj).1
    rw [List.getElem?_eq_getElem hjl] at h1
    obtain ⟨a, hc, _, _⟩ := DataW.trod_int Tryz.underlying3 h1
    exact ⟨a, hc⟩
  obtain ⟨F, f0⟩ := getP 0 (by kernel_rfl)
  obtain ⟨A, f1⟩ := getP 1 (by kernel_rfl)
  obtain ⟨B, f2⟩ := getP 2 (by kernel_rfl)
  obtain ⟨C, f3⟩ := getP 3 (by kernel_rfl)
  have E_e0 : v0 = .int .i64 k := by simpa using e0
  have E_e1 : v1 = .string nm := by simpa using e1
  have E_e2 : v2 = .int .i64 t := by simpa using e2
  have E_f0 : v3 = .int .i64 F := by simpa using f0
  have E_f1 : v4 = .int .i64 A := by simpa using f1
  have E_f2 : v5 = .int .i64 B := by simpa using f2
  have E_f3 : v6 = .int .i64 C := by simpa using f3
  subst E_e0
  subst E_e1
  subst E_e2
  subst E_f0
  subst E_f1
  subst E_f2
  subst E_f3
  exact ⟨⟨k, nm, t, F, A, B, C, ua, un, uc⟩, rfl⟩
set_option maxRecDepth 100000 in
/-- A cell that is a list of reports, as it is trodden. -/
theorem rqsCell {H : Type} {enc : TypeId × Value → H} {W : World} {v : Value} {fuel : Nat} {x : DataW H × List MemPlace}
    (hf : DataW.trod enc Tryz.prog W 0 (fun _ => true) true fuel 22 [v] = some x) : ∃ R : List Rq, RqIn W v R := by
  have hC : Tryz.prog.cellsOf 35 = 8 := by kernel_rfl
  rcases Go.Deep.open_slice Tryz.underlying22 hf with ⟨hcs, _⟩ | ⟨a, len, cap, m, n, D, Pl, hcs, _, hl, hm, hmm, _, hx⟩
  · simp only [List.cons.injEq, and_true] at hcs
    subst hcs
    exact ⟨[], none, 0, rfl, Nat.le_refl _, by omega, fun i h => absurd h (Nat.not_lt_zero _)⟩
  · simp only [List.cons.injEq, and_true] at hcs
    subst hcs
    unfold maxLen at hm
    simp only [if_true] at hmm
    subst hmm
    have hz : ∀ i, i < len → ∃ r : Rq, (∀ j, j < 8 → W.cell? ((a.add (i * 8)).add j) = (rqCells r)[j]?) := by
      intro i hi
      obtain ⟨cs', h1, h2⟩ := hx i (by omega)
      rw [hC] at h1
      obtain ⟨_, hlen, hcell⟩ := World.cells?_some h1
      obtain ⟨r, rfl⟩ := rqCellsIn hlen h2
      exact ⟨r, fun j hj => hcell j hj⟩
    have hz' : ∀ i, ∃ r : Rq, i < len → (∀ j, j < 8 → W.cell? ((a.add (i * 8)).add j) = (rqCells r)[j]?) := fun i => by
      by_cases hi : i < len
      · obtain ⟨q, hq⟩ := hz i hi
        exact ⟨q, fun _ => hq⟩
      · exact ⟨⟨0, ⟨#[]⟩, 0, 0, 0, 0, 0, none, 0, 0⟩, fun h => absurd h hi⟩
    have hch : ∃ f : Nat → Rq, ∀ i, i < len → (∀ j, j < 8 → W.cell? ((a.add (i * 8)).add j) = (rqCells (f i))[j]?) := ⟨fun i => Classical.choose (hz' i), fun i => Classical.choose_spec (hz' i)⟩
    obtain ⟨f, hq⟩ := hch
    refine ⟨(List.range len).map f, some a, _, by simp, by simpa using hl, hm, fun i hi => ?_⟩
    have hi' : i < len := by simpa using hi
    have q := hq i hi'
    have qz := (hq 0 (by omega)) 0 (by omega)
    obtain ⟨b, off, spot⟩ := a
    have hspot : spot = none := by
      have : W.cell? ((Addr.add ⟨b, off, spot⟩ (0 * 8)).add 0) = some (.int .i64 (f 0).k) := qz
      simpa [Addr.add] using World.cell?_spot this
    subst hspot
    have q' : ∀ j, j < 8 → W.cell? ⟨b, off + i * 8 + j, none⟩ = (rqCells (f i))[j]? := fun j hj => by
      have := q j hj
      rwa [Addr.add_lit, Addr.add_lit] at this
    have q0 : W.cell? ⟨b, off + i * 8, none⟩ = (rqCells (f i))[0]? := q' 0 (by omega)
    have e : ((List.range len).map f)[i] = f i := by simp
    refine ⟨b, off, rfl, World.block_lt_of_cell? W _ (q0.trans rfl), ?_⟩
    rw [e]
    exact ⟨q0, q' 1 (by omega), q' 2 (by omega), q' 3 (by omega), q' 4 (by omega), q' 5 (by omega), q' 6 (by omega), q' 7 (by omega)⟩
set_option maxRecDepth 100000 in
/-- An argument that is a list of reports. -/
theorem rqsIn {H : Type} {enc : TypeId × Value → H} {W : World} {base : Nat} {v : Value} {d : DataW H} {p : List MemPlace} (hval : Value.okWide Tryz.prog W .any base 22 v)
    (h : DataW.Trod enc Tryz.prog W 0 (fun _ => true) true 22 v d p) : ∃ R, RqIn W v R := by
  obtain ⟨a0, len, cap, rfl⟩ := okWide_slice Tryz.underlying22 hval
  obtain ⟨fuel, hf⟩ := h
  exact rqsCell hf
end Go.Proofs.YtejoabaanclcbaaGreat.Tk

