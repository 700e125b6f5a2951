/- Arguments that are reports, lists of reports and climates, opened. -/
import Derived.Test.YtlakgkoohdfiaaaDoorDoor
import Derived.Test.YtlakgkoohdfiaaaDoorQal
import Derived.Test.YtlakgkoohdfiaaaDoorQak
import Derived.Deep.SlicePairs
namespace Go.Proofs.YtlakgkoohdfiaaaDoor
open Go.ChangeShapes Go.WideShapes Go.ChangeAt Go.RowKit

theorem cellsStr : Tryd.prog.cellsOf 9 = 1 := by kernel_rfl
theorem eight_list {α : Type} {l : List α} (h : l.length = 8) : ∃ a b c d e f g i, l = [a, b, c, d, e, f, g, i] := by
  match l, h with
  | [a, b, c, d, e, f, g, i], _ => exact ⟨a, b, c, d, e, f, g, i, rfl⟩
theorem five_of {α : Type} {l : Array α} (h : l.size = 5) : ∃ a b c d e, l = #[a, b, c, d, e] := by
  obtain ⟨l⟩ := l
  match l, h with
  | [a, b, c, d, e], _ => exact ⟨a, b, c, d, e, rfl⟩
theorem eight_of {α : Type} {l : Array α} (h : l.size = 8) : ∃ a b c d e f g i, l = #[a, b, c, d, e, f, g, i] := by
  obtain ⟨l⟩ := l
  match l, h with
  | [a, b, c, d, e, f, g, i], _ => exact ⟨a, b, c, d, e, f, g, i, rfl⟩
set_option maxRecDepth 100000 in
/-- A cell that is a list of readings, as it is trodden. -/
theorem readingsCell {H : Type} {enc : TypeId × Value → H} {W : World} {v : Value} {fuel : Nat} {x : DataW H × List MemPlace}
    (hf : DataW.trod enc Tryd.prog W 0 (fun _ => true) true fuel 36 [v] = some x) : ∃ R : List El.Elt.R, El.RdIn W v R := by
  have hC : Tryd.prog.cellsOf 81 = 2 := by kernel_rfl
  rcases Go.Deep.open_slice_pairs Tryd.underlying36 Tryd.underlying81 hC rfl rfl cellsInt cellsInt hf with ⟨hcs, _⟩ | ⟨a, len, cap, m, n, V0, V1, D0, D1, P0, P1, hcs, _, hl, hm, hmm, _, hx⟩
  · simp only [List.cons.injEq, and_true] at hcs
    subst hcs
    exact ⟨[], El.RdIn.nil W⟩
  · simp only [List.cons.injEq, and_true] at hcs
    subst hcs
    unfold maxLen at hm
    simp only [if_true] at hmm
    subst hmm
    have hz : ∀ i, i < len → ∃ q : Int × Int, W.cell? (a.add (i * 2)) = some (.int .i64 q.1) ∧ W.cell? (a.add (i * 2 + 1)) = some (.int .i64 q.2) := by
      intro i hi
      obtain ⟨e0, e1, t0, t1⟩ := hx i (by omega)
      obtain ⟨x, hx0, _, _⟩ := DataW.trod_int Tryd.underlying3 t0
      obtain ⟨y, hy0, _, _⟩ := DataW.trod_int Tryd.underlying3 t1
      injection hx0 with hx0 _
      injection hy0 with hy0 _
      exact ⟨(x, y), by rw [e0, hx0], by rw [e1, hy0]⟩
    have hz' : ∀ i, ∃ q : Int × Int, i < len → W.cell? (a.add (i * 2)) = some (.int .i64 q.1) ∧ W.cell? (a.add (i * 2 + 1)) = some (.int .i64 q.2) := fun i => by
      by_cases hi : i < len
      · obtain ⟨q, hq⟩ := hz i hi
        exact ⟨q, fun _ => hq⟩
      · exact ⟨(0, 0), fun h => absurd h hi⟩
    have hch : ∃ f : Nat → Int × Int, ∀ i, i < len → W.cell? (a.add (i * 2)) = some (.int .i64 (f i).1) ∧ W.cell? (a.add (i * 2 + 1)) = some (.int .i64 (f i).2) := ⟨fun i => Classical.choose (hz' i), fun i => Classical.choose_spec (hz' i)⟩
    obtain ⟨f, hq⟩ := hch
    refine ⟨(List.range len).map f, some a, _, by simp, by simpa using hl, hm, fun i hi => ?_⟩
    have hi' : i < len := by simpa using hi
    obtain ⟨q0, q1⟩ := hq i hi'
    have qz := (hq 0 (by omega)).1
    obtain ⟨b, off, spot⟩ := a
    have hspot : spot = none := by simpa [Addr.add] using World.cell?_spot qz
    subst hspot
    rw [Addr.add_lit] at q0 q1
    exact ⟨b, off, rfl, World.block_lt_of_cell? W _ q0, by simpa using q0, by simpa [Nat.add_assoc] using q1⟩
set_option maxRecDepth 100000 in
theorem reportIn {H : Type} {enc : TypeId × Value → H} {W : World} {base : Nat} {v : Value} {d : DataW H} {p : List MemPlace} (hval : Value.okWide Tryd.prog W .any base 38 v)
    (h : DataW.Trod enc Tryd.prog W 0 (fun _ => true) true 38 v d p) : ∃ (k : Int) (nm : ByteArray) (t F A B C : Int) (u : Value) (L : List El.Elt.R), v = repV k nm t F A B C u ∧ El.RdIn W u L := by
  have hs : Tryd.prog.underlying 38 = some (.struct (Tryd.prog.fieldsOf 38)) := by kernel_rfl
  have hsP : Tryd.prog.underlying 27 = some (.struct (Tryd.prog.fieldsOf 27)) := by kernel_rfl
  have hC : Tryd.prog.cellsOf 38 = 8 := by kernel_rfl
  have hCP : Tryd.prog.cellsOf 27 = 4 := by kernel_rfl
  have hCR : Tryd.prog.cellsOf 36 = 1 := by kernel_rfl
  obtain ⟨cs, rfl, hsz⟩ := okWide_struct hs hval
  obtain ⟨v0, v1, v2, v3, v4, v5, v6, v7, rfl⟩ := eight_of (hsz.trans hC)
  obtain ⟨fuel, hf⟩ := h
  have h2 : (Value.agg #[v0, v1, v2, v3, v4, v5, v6, v7]).cells.toList = [v0, v1, v2, v3, v4, v5, v6, v7] := rfl
  rw [h2] at hf
  obtain ⟨xs, n, _, _, _, hlen, hg⟩ := DataW.trod_struct hs hf
  have get : ∀ (j t o c : Nat), ((Tryd.prog.fieldsOf 38)[j]?).map (fun f => (f.type, f.offset)) = some (t, o) → Tryd.prog.cellsOf t = c →
      ∃ x, DataW.trod enc Tryd.prog W 0 (fun _ => true) true n t (([v0, v1, v2, v3, v4, v5, v6, v7].drop o).take c) = some x := by
    intro j t o c hj hc
    obtain ⟨f, hfj, hft⟩ := Option.map_eq_some_iff.1 hj
    simp only [Prod.mk.injEq] at hft
    have h1 := hg j f hfj
    rw [hft.1, hft.2, hc] at h1
    have hjl : j < xs.length := by rw [hlen]; exact (Array.getElem?_eq_some_iff.1 hfj).1
    rw [List.getElem?_eq_getElem hjl] at h1
    exact ⟨_, h1⟩
  obtain ⟨x0, g0⟩ := get 0 3 0 1 (by kernel_rfl) cellsInt
  obtain ⟨x1, g1⟩ := get 1 9 1 1 (by kernel_rfl) cellsStr
  obtain ⟨x2, g2⟩ := get 2 3 2 1 (by kernel_rfl) cellsInt
  obtain ⟨x3, g3⟩ := get 3 27 3 4 (by kernel_rfl) hCP
  obtain ⟨x4, g4⟩ := get 4 36 7 1 (by kernel_rfl) hCR
  obtain ⟨k, e0, -, -⟩ := DataW.trod_int Tryd.underlying3 g0
  obtain ⟨nm, e1, -, -⟩ := DataW.trod_string Tryd.underlying9 g1
  obtain ⟨t, e2, -, -⟩ := DataW.trod_int Tryd.underlying3 g2
  obtain ⟨R, hR⟩ := readingsCell (v := v7) g4
  obtain ⟨ys, m, _, _, _, hlenP, hgP⟩ := DataW.trod_struct hsP g3
  have getP : ∀ (j : Nat), ((Tryd.prog.fieldsOf 27)[j]?).map (fun f => (f.type, f.offset)) = some (3, j) →
      ∃ a : Int, (([v3, v4, v5, v6] : List Value).drop j).take 1 = [.int .i64 a] := by
    intro j hj
    obtain ⟨f, hfj, hft⟩ := Option.map_eq_some_iff.1 hj
    simp only [Prod.mk.injEq] at hft
    have h1 := hgP j f hfj
    rw [hft.1, hft.2, cellsInt] at h1
    have hjl : j < ys.length := by rw [hlenP]; exact (Array.getElem?_eq_some_iff.1 hfj).1
    rw [List.getElem?_eq_getElem hjl] at h1
    obtain ⟨a, hc, _, _⟩ := DataW.trod_int Tryd.underlying3 h1
    exact ⟨a, hc⟩
  obtain ⟨F, f0⟩ := getP 0 (by kernel_rfl)
  obtain ⟨A, f1⟩ := getP 1 (by kernel_rfl)
  obtain ⟨B, f2⟩ := getP 2 (by kernel_rfl)
  obtain ⟨C, f3⟩ := getP 3 (by kernel_rfl)
  have E_e0 : v0 = .int .i64 k := by simpa using e0
  have E_e1 : v1 = .string nm := by simpa using e1
  have E_e2 : v2 = .int .i64 t := by simpa using e2
  have E_f0 : v3 = .int .i64 F := by simpa using f0
  have E_f1 : v4 = .int .i64 A := by simpa using f1
  have E_f2 : v5 = .int .i64 B := by simpa using f2
  have E_f3 : v6 = .int .i64 C := by simpa using f3
  subst E_e0
  subst E_e1
  subst E_e2
  subst E_f0
  subst E_f1
  subst E_f2
  subst E_f3
  exact ⟨k, nm, t, F, A, B, C, v7, R, rfl, hR⟩
set_option maxRecDepth 100000 in
theorem reportCells {H : Type} {enc : TypeId × Value → H} {W : World} {cs : List Value} {fuel : Nat} {x : DataW H × List MemPlace} (hsz : cs.length = 8)
    (hf : DataW.trod enc Tryd.prog W 0 (fun _ => true) true fuel 38 cs = some x) : ∃ (k : Int) (nm : ByteArray) (t F A B C : Int) (u : Value) (L : List El.Elt.R), cs = [.int .i64 k, .string nm, .int .i64 t, .int .i64 F, .int .i64 A, .int .i64 B, .int .i64 C, u] ∧ El.RdIn W u L := by
  have hs : Tryd.prog.underlying 38 = some (.struct (Tryd.prog.fieldsOf 38)) := by kernel_rfl
  have hsP : Tryd.prog.underlying 27 = some (.struct (Tryd.prog.fieldsOf 27)) := by kernel_rfl
  have hCP : Tryd.prog.cellsOf 27 = 4 := by kernel_rfl
  have hCR : Tryd.prog.cellsOf 36 = 1 := by kernel_rfl
  obtain ⟨v0, v1, v2, v3, v4, v5, v6, v7, rfl⟩ := eight_list hsz
  obtain ⟨xs, n, _, _, _, hlen, hg⟩ := DataW.trod_struct hs hf
  have get : ∀ (j t o c : Nat), ((Tryd.prog.fieldsOf 38)[j]?).map (fun f => (f.type, f.offset)) = some (t, o) → Tryd.prog.cellsOf t = c →
      ∃ x, DataW.trod enc Tryd.prog W 0 (fun _ => true) true n t (([v0, v1, v2, v3, v4, v5, v6, v7].drop o).take c) = some x := by
    intro j t o c hj hc
    obtain ⟨f, hfj, hft⟩ := Option.map_eq_some_iff.1 hj
    simp only [Prod.mk.injEq] at hft
    have h1 := hg j f hfj
    rw [hft.1, hft.2, hc] at h1
    have hjl : j < xs.length := by rw [hlen]; exact (Array.getElem?_eq_some_iff.1 hfj).1
    rw [List.getElem?_eq_getElem hjl] at h1
    exact ⟨_, h1⟩
  obtain ⟨x0, g0⟩ := get 0 3 0 1 (by kernel_rfl) cellsInt
  obtain ⟨x1, g1⟩ := get 1 9 1 1 (by kernel_rfl) cellsStr
  obtain ⟨x2, g2⟩ := get 2 3 2 1 (by kernel_rfl) cellsInt
  obtain ⟨x3, g3⟩ := get 3 27 3 4 (by kernel_rfl) hCP
  obtain ⟨x4, g4⟩ := get 4 36 7 1 (by kernel_rfl) hCR
  obtain ⟨k, e0, -, -⟩ := DataW.trod_int Tryd.underlying3 g0
  obtain ⟨nm, e1, -, -⟩ := DataW.trod_string Tryd.underlying9 g1
  obtain ⟨t, e2, -, -⟩ := DataW.trod_int Tryd.underlying3 g2
  obtain ⟨R, hR⟩ := readingsCell (v := v7) g4
  obtain ⟨ys, m, _, _, _, hlenP, hgP⟩ := DataW.trod_struct hsP g3
  have getP : ∀ (j : Nat), ((Tryd.prog.fieldsOf 27)[j]?).map (fun f => (f.type, f.offset)) = some (3, j) →
      ∃ a : Int, (([v3, v4, v5, v6] : List Value).drop j).take 1 = [.int .i64 a] := by
    intro j hj
    obtain ⟨f, hfj, hft⟩ := Option.map_eq_some_iff.1 hj
    simp only [Prod.mk.injEq] at hft
    have h1 := hgP j f hfj
    rw [hft.1, hft.2, cellsInt] at h1
    have hjl : j < ys.length := by rw [hlenP]; exact (Array.getElem?_eq_some_iff.1 hfj).1
    rw [List.getElem?_eq_getElem hjl] at h1
    obtain ⟨a, hc, _, _⟩ := DataW.trod_int Tryd.underlying3 h1
    exact ⟨a, hc⟩
  obtain ⟨F, f0⟩ := getP 0 (by kernel_rfl)
  obtain ⟨A, f1⟩ := getP 1 (by kernel_rfl)
  obtain ⟨B, f2⟩ := getP 2 (by kernel_rfl)
  obtain ⟨C, f3⟩ := getP 3 (by kernel_rfl)
  have E_e0 : v0 = .int .i64 k := by simpa using e0
  have E_e1 : v1 = .string nm := by simpa using e1
  have E_e2 : v2 = .int .i64 t := by simpa using e2
  have E_f0 : v3 = .int .i64 F := by simpa using f0
  have E_f1 : v4 = .int .i64 A := by simpa using f1
  have E_f2 : v5 = .int .i64 B := by simpa using f2
  have E_f3 : v6 = .int .i64 C := by simpa using f3
  subst E_e0
  subst E_e1
  subst E_e2
  subst E_f0
  subst E_f1
  subst E_f2
  subst E_f3
  exact ⟨k, nm, t, F, A, B, C, v7, R, rfl, hR⟩
set_option maxRecDepth 100000 in
/-- A cell that is a list of reports, as it is trodden. -/
theorem reportsCell {H : Type} {enc : TypeId × Value → H} {W : World} {v : Value} {fuel : Nat} {x : DataW H × List MemPlace}
    (hf : DataW.trod enc Tryd.prog W 0 (fun _ => true) true fuel 25 [v] = some x) : ∃ R : List Rp, RpsIn W v R := by
  have hC : Tryd.prog.cellsOf 38 = 8 := by kernel_rfl
  rcases Go.Deep.open_slice Tryd.underlying25 hf with ⟨hcs, _⟩ | ⟨a, len, cap, m, n, D, Pl, hcs, _, hl, hm, hmm, _, hx⟩
  · simp only [List.cons.injEq, and_true] at hcs
    subst hcs
    exact ⟨[], none, 0, rfl, Nat.le_refl _, by omega, fun i h => absurd h (Nat.not_lt_zero _)⟩
  · simp only [List.cons.injEq, and_true] at hcs
    subst hcs
    unfold maxLen at hm
    simp only [if_true] at hmm
    subst hmm
    have hz : ∀ i, i < len → ∃ r : Rp, (∀ j, j < 8 → W.cell? ((a.add (i * 8)).add j) = (rpCells r)[j]?) ∧ El.RdIn W r.u r.L := by
      intro i hi
      obtain ⟨cs', h1, h2⟩ := hx i (by omega)
      rw [hC] at h1
      obtain ⟨_, hlen, hcell⟩ := World.cells?_some h1
      obtain ⟨k, nm, t, F, A, B, C, u, L, rfl, hR⟩ := reportCells hlen h2
      exact ⟨⟨k, nm, t, F, A, B, C, u, L⟩, fun j hj => hcell j hj, hR⟩
    have hz' : ∀ i, ∃ r : Rp, i < len → (∀ j, j < 8 → W.cell? ((a.add (i * 8)).add j) = (rpCells r)[j]?) ∧ El.RdIn W r.u r.L := fun i => by
      by_cases hi : i < len
      · obtain ⟨q, hq⟩ := hz i hi
        exact ⟨q, fun _ => hq⟩
      · exact ⟨⟨0, ⟨#[]⟩, 0, 0, 0, 0, 0, .slice none 0 0, []⟩, fun h => absurd h hi⟩
    have hch : ∃ f : Nat → Rp, ∀ i, i < len → (∀ j, j < 8 → W.cell? ((a.add (i * 8)).add j) = (rpCells (f i))[j]?) ∧ El.RdIn W (f i).u (f i).L := ⟨fun i => Classical.choose (hz' i), fun i => Classical.choose_spec (hz' i)⟩
    obtain ⟨f, hq⟩ := hch
    refine ⟨(List.range len).map f, some a, _, by simp, by simpa using hl, hm, fun i hi => ?_⟩
    have hi' : i < len := by simpa using hi
    obtain ⟨q, hr⟩ := hq i hi'
    have qz := (hq 0 (by omega)).1 0 (by omega)
    obtain ⟨b, off, spot⟩ := a
    have hspot : spot = none := by
      have : W.cell? ((Addr.add ⟨b, off, spot⟩ (0 * 8)).add 0) = some (.int .i64 (f 0).k) := qz
      simpa [Addr.add] using World.cell?_spot this
    subst hspot
    have q' : ∀ j, j < 8 → W.cell? ⟨b, off + i * 8 + j, none⟩ = (rpCells (f i))[j]? := fun j hj => by
      have := q j hj
      rwa [Addr.add_lit, Addr.add_lit] at this
    have q0 : W.cell? ⟨b, off + i * 8, none⟩ = (rpCells (f i))[0]? := q' 0 (by omega)
    have e : ((List.range len).map f)[i] = f i := by simp
    refine ⟨b, off, rfl, World.block_lt_of_cell? W _ (q0.trans rfl), ?_, by rw [e]; exact hr⟩
    rw [e]
    exact ⟨q0, q' 1 (by omega), q' 2 (by omega), q' 3 (by omega), q' 4 (by omega), q' 5 (by omega), q' 6 (by omega), q' 7 (by omega)⟩

theorem five_list {α : Type} {l : List α} (h : l.length = 5) : ∃ a b c d e, l = [a, b, c, d, e] := by
  match l, h with
  | [a, b, c, d, e], _ => exact ⟨a, b, c, d, e, rfl⟩
set_option maxRecDepth 100000 in
/-- The cells of a normal. -/
theorem normalCells {H : Type} {enc : TypeId × Value → H} {W : World} {cs : List Value} {fuel : Nat} {x : DataW H × List MemPlace} (hsz : cs.length = 5)
    (hf : DataW.trod enc Tryd.prog W 0 (fun _ => true) true fuel 50 cs = some x) : ∃ n : Cm.N5, cs = encN n := by
  have hs : Tryd.prog.underlying 50 = some (.struct (Tryd.prog.fieldsOf 50)) := by kernel_rfl
  obtain ⟨v0, v1, v2, v3, v4, rfl⟩ := five_list hsz
  obtain ⟨xs, n, _, _, _, hlen, hg⟩ := DataW.trod_struct hs hf
  have key : ∀ (j : Nat) (u : Value), [v0, v1, v2, v3, v4][j]? = some u → ((Tryd.prog.fieldsOf 50)[j]?).map (fun f => (f.type, f.offset)) = some (3, j) → ∃ a : Int, u = .int .i64 a := by
    intro j u hu hj
    obtain ⟨f, hfj, hft⟩ := Option.map_eq_some_iff.1 hj
    simp only [Prod.mk.injEq] at hft
    have h1 := hg j f hfj
    rw [hft.1, hft.2, cellsInt] at h1
    have hjl : j < xs.length := by rw [hlen]; exact (Array.getElem?_eq_some_iff.1 hfj).1
    rw [List.getElem?_eq_getElem hjl] at h1
    obtain ⟨a, hc, _, _⟩ := DataW.trod_int Tryd.underlying3 h1
    refine ⟨a, ?_⟩
    have h4 := congrArg (fun l => l[0]?) hc
    simp only [List.getElem?_take, List.getElem?_drop] at h4
    simp only [Nat.lt_add_one, if_true, Nat.add_zero, hu] at h4
    simpa using h4
  obtain ⟨a, rfl⟩ := key 0 v0 rfl (by kernel_rfl)
  obtain ⟨b, rfl⟩ := key 1 v1 rfl (by kernel_rfl)
  obtain ⟨c, rfl⟩ := key 2 v2 rfl (by kernel_rfl)
  obtain ⟨e, rfl⟩ := key 3 v3 rfl (by kernel_rfl)
  obtain ⟨f, rfl⟩ := key 4 v4 rfl (by kernel_rfl)
  exact ⟨(a, b, c, e, f), rfl⟩
set_option maxRecDepth 100000 in
theorem normalsCell {H : Type} {enc : TypeId × Value → H} {W : World} {v : Value} {fuel : Nat} {x : DataW H × List MemPlace}
    (hf : DataW.trod enc Tryd.prog W 0 (fun _ => true) true fuel 22 [v] = some x) : ∃ N : List Cm.N5, NrIn W v N := by
  have hC : Tryd.prog.cellsOf 50 = 5 := by kernel_rfl
  rcases Go.Deep.open_slice Tryd.underlying22 hf with ⟨hcs, _⟩ | ⟨a, len, cap, m, n, D, Pl, hcs, _, hl, hm, hmm, _, hx⟩
  · simp only [List.cons.injEq, and_true] at hcs
    subst hcs
    exact ⟨[], none, 0, rfl, Nat.le_refl _, by omega, fun i h => absurd h (Nat.not_lt_zero _)⟩
  · simp only [List.cons.injEq, and_true] at hcs
    subst hcs
    unfold maxLen at hm
    simp only [if_true] at hmm
    subst hmm
    have hz : ∀ i, i < len → ∃ r : Cm.N5, ∀ j, j < 5 → W.cell? ((a.add (i * 5)).add j) = (encN r)[j]? := by
      intro i hi
      obtain ⟨cs', h1, h2⟩ := hx i (by omega)
      rw [hC] at h1
      obtain ⟨_, hlen, hcell⟩ := World.cells?_some h1
      obtain ⟨n, rfl⟩ := normalCells hlen h2
      exact ⟨n, fun j hj => hcell j hj⟩
    have hz' : ∀ i, ∃ r : Cm.N5, i < len → ∀ j, j < 5 → W.cell? ((a.add (i * 5)).add j) = (encN r)[j]? := fun i => by
      by_cases hi : i < len
      · obtain ⟨q, hq⟩ := hz i hi
        exact ⟨q, fun _ => hq⟩
      · exact ⟨(0, 0, 0, 0, 0), fun h => absurd h hi⟩
    have hch : ∃ f : Nat → Cm.N5, ∀ i, i < len → ∀ j, j < 5 → W.cell? ((a.add (i * 5)).add j) = (encN (f i))[j]? := ⟨fun i => Classical.choose (hz' i), fun i => Classical.choose_spec (hz' i)⟩
    obtain ⟨f, hq⟩ := hch
    refine ⟨(List.range len).map f, some a, _, by simp, by simpa using hl, hm, fun i hi => ?_⟩
    have hi' : i < len := by simpa using hi
    have q := hq i hi'
    have qz := hq 0 (by omega) 0 (by omega)
    obtain ⟨b, off, spot⟩ := a
    have hspot : spot = none := by
      have : W.cell? ((Addr.add ⟨b, off, spot⟩ (0 * 5)).add 0) = some (.int .i64 (f 0).1) := qz
      simpa [Addr.add] using World.cell?_spot this
    subst hspot
    have q' : ∀ j, j < 5 → W.cell? ⟨b, off + i * 5 + j, none⟩ = (encN (f i))[j]? := fun j hj => by
      have := q j hj
      rwa [Addr.add_lit, Addr.add_lit] at this
    have q0 : W.cell? ⟨b, off + i * 5, none⟩ = (encN (f i))[0]? := q' 0 (by omega)
    have e : ((List.range len).map f)[i] = f i := by simp
    refine ⟨b, off, rfl, World.block_lt_of_cell? W _ (q0.trans rfl), ?_⟩
    rw [e]
    exact ⟨q0, q' 1 (by omega), q' 2 (by omega), q' 3 (by omega), q' 4 (by omega)⟩
theorem one_of {α : Type} {l : Array α} (h : l.size = 1) : ∃ a, l = #[a] := by
  obtain ⟨l⟩ := l
  match l, h with
  | [a], _ => exact ⟨a, rfl⟩
set_option maxRecDepth 100000 in
theorem climateIn {H : Type} {enc : TypeId × Value → H} {W : World} {base : Nat} {v : Value} {d : DataW H} {p : List MemPlace} (hval : Value.okWide Tryd.prog W .any base 24 v)
    (h : DataW.Trod enc Tryd.prog W 0 (fun _ => true) true 24 v d p) : ∃ (u : Value) (N : List Cm.N5), v = clV u ∧ NrIn W u N := by
  have hs : Tryd.prog.underlying 24 = some (.struct (Tryd.prog.fieldsOf 24)) := by kernel_rfl
  have hC : Tryd.prog.cellsOf 24 = 1 := by kernel_rfl
  have hCN : Tryd.prog.cellsOf 22 = 1 := by kernel_rfl
  obtain ⟨cs, rfl, hsz⟩ := okWide_struct hs hval
  obtain ⟨v0, rfl⟩ := one_of (hsz.trans hC)
  obtain ⟨fuel, hf⟩ := h
  have h2 : (Value.agg #[v0]).cells.toList = [v0] := rfl
  rw [h2] at hf
  obtain ⟨xs, n, _, _, _, hlen, hg⟩ := DataW.trod_struct hs hf
  have hj : ((Tryd.prog.fieldsOf 24)[0]?).map (fun f => (f.type, f.offset)) = some (22, 0) := by kernel_rfl
  obtain ⟨f, hfj, hft⟩ := Option.map_eq_some_iff.1 hj
  simp only [Prod.mk.injEq] at hft
  have h1 := hg 0 f hfj
  rw [hft.1, hft.2, hCN] at h1
  have hjl : 0 < xs.length := by rw [hlen]; exact (Array.getElem?_eq_some_iff.1 hfj).1
  rw [List.getElem?_eq_getElem hjl] at h1
  obtain ⟨N, hN⟩ := normalsCell (v := v0) h1
  exact ⟨v0, N, rfl, hN⟩
end Go.Proofs.YtlakgkoohdfiaaaDoor
