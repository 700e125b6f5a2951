/- An argument that is a table, opened. An argument that is a list of numbers, opened; what one argument weighs. -/
import Derived.Test.YtjaopjhfjijdaaaDoorDoor
import Derived.Test.YtjaopjhfjijdaaaDoorCo
namespace Go.Proofs.YtjaopjhfjijdaaaDoor
open Go.ChangeShapes Go.WideShapes Go.ChangeAt Go.RowKit

theorem take1 {cs : List Value} {j : Nat} {u : Value} (h : (cs.drop j).take 1 = [u]) : cs[j]? = some u := by
  have h0 := congrArg (fun l => l[0]?) h
  simpa [List.getElem?_take, List.getElem?_drop] using h0
section
variable {H : Type} {enc : TypeId × Value → H} {W : World}
theorem weights_mem {P : Program} {e : TypeId} : ∀ {l : List (DataW H)} {d : DataW H}, d ∈ l → ∀ n ∈ d.weights P e, n ∈ DataW.weightsAll P e l
  | x :: r, d, hd, n, hn => by
    rw [DataW.weightsAll]
    rcases List.mem_cons.1 hd with rfl | hd
    · exact List.mem_append_left _ hn
    · exact List.mem_append_right _ (weights_mem hd n hn)
theorem fieldTrod {t : TypeId} {fs : Array Field} {fuel : Nat} {cs : List Value} {x : DataW H × List MemPlace} (hs : Tryd.prog.underlying t = some (.struct fs))
    (h : DataW.trod enc Tryd.prog W 0 (fun _ => true) true fuel t cs = some x) : ∃ n, ∀ (j : Nat) (tt : TypeId) (o : Nat), (fs[j]?).map (fun f : Field => (f.type, f.offset)) = some (tt, o) → ∃ y, DataW.trod enc Tryd.prog W 0 (fun _ => true) true n tt ((cs.drop o).take (Tryd.prog.cellsOf tt)) = some y := by
  obtain ⟨xs, n, _, _, _, hlen, hg⟩ := DataW.trod_struct hs h
  refine ⟨n, fun j tt o hj => ?_⟩
  obtain ⟨f, hfj, hft⟩ := Option.map_eq_some_iff.1 hj
  simp only [Prod.mk.injEq] at hft
  have h1 := hg j f hfj
  rw [hft.1, hft.2] at h1
  have hjl : j < xs.length := by rw [hlen]; exact (Array.getElem?_eq_some_iff.1 hfj).1
  rw [List.getElem?_eq_getElem hjl] at h1
  exact ⟨_, h1⟩
theorem fieldTrod2 {t : TypeId} {fs : Array Field} {fuel : Nat} {cs : List Value} {x : DataW H × List MemPlace} (hs : Tryd.prog.underlying t = some (.struct fs))
    (h : DataW.trod enc Tryd.prog W 0 (fun _ => true) true fuel t cs = some x) : ∃ (n : Nat) (xs : List (DataW H × List MemPlace)), x.1 = .agg (xs.map (·.1)) ∧ xs.length = fs.size ∧ ∀ (j : Nat) (tt : TypeId) (o : Nat), (fs[j]?).map (fun f : Field => (f.type, f.offset)) = some (tt, o) → ∃ y, xs[j]? = some y ∧ DataW.trod enc Tryd.prog W 0 (fun _ => true) true n tt ((cs.drop o).take (Tryd.prog.cellsOf tt)) = some y := by
  obtain ⟨xs, n, _, hx, _, hlen, hg⟩ := DataW.trod_struct hs h
  refine ⟨n, xs, by rw [hx], hlen, fun j tt o hj => ?_⟩
  obtain ⟨f, hfj, hft⟩ := Option.map_eq_some_iff.1 hj
  simp only [Prod.mk.injEq] at hft
  have h1 := hg j f hfj
  rw [hft.1, hft.2] at h1
  have hjl : j < xs.length := by rw [hlen]; exact (Array.getElem?_eq_some_iff.1 hfj).1
  rw [List.getElem?_eq_getElem hjl] at h1
  exact ⟨_, List.getElem?_eq_getElem hjl, h1⟩
set_option maxRecDepth 100000 in
/-- A cell that is a list of entries, as it is trodden. -/
theorem entsCell {v : Value} {fuel : Nat} {x : DataW H × List MemPlace} (hf : DataW.trod enc Tryd.prog W 0 (fun _ => true) true fuel 22 [v] = some x) : ∃ es, EnIn W v es ∧ ((∀ k ∈ x.1.weights Tryd.prog 22, k ≤ reachBytes) → es.length ≤ 281474976710656) := by
  have hs : Tryd.prog.underlying 47 = some (.struct (Tryd.prog.fieldsOf 47)) := by kernel_rfl
  have hC : Tryd.prog.cellsOf 47 = 5 := by kernel_rfl
  rcases DataW.trod_slice Tryd.underlying22 hf with ⟨hcs, _⟩ | ⟨a, len, cap, elems, rest, n, _, hcs, hxx, _, hl, hm, hlen, hel, _, _⟩
  · simp only [List.cons.injEq, and_true] at hcs
    subst hcs
    exact ⟨[], ⟨none, 0, rfl, Nat.le_refl _, by omega, fun i hi => absurd hi (Nat.not_lt_zero _)⟩, fun _ => Nat.zero_le _⟩
  · simp only [List.cons.injEq, and_true] at hcs
    subst hcs
    unfold maxLen at hm
    have hz : ∀ i, i < len → ∃ e : En, I64 e.1 ∧ ∀ j u, (encE e)[j]? = some u → W.cell? ((a.add (i * 5)).add j) = some u := by
      intro i hi
      have h0 := hel i hi
      rw [List.getElem?_eq_getElem (by omega), Option.bind_eq_some_iff, hC] at h0
      obtain ⟨cs, hcs, ht⟩ := h0
      obtain ⟨-, hcl, hcc⟩ := World.cells?_some hcs
      obtain ⟨m, hg⟩ := fieldTrod hs ht
      have key : ∀ j, (Tryd.prog.fieldsOf 47)[j]?.map (fun f : Field => (f.type, f.offset)) = some (3, j) → ∃ z : Int, I64 z ∧ cs[j]? = some (.int .i64 z) := by
        intro j hj
        obtain ⟨y, hy⟩ := hg j 3 j hj
        rw [cellsInt] at hy
        obtain ⟨z, hc, _, hw⟩ := DataW.trod_int Tryd.underlying3 hy
        exact ⟨z, bounds_i64 hw, take1 hc⟩
      obtain ⟨z0, i0, k0⟩ := key 0 (by kernel_rfl)
      obtain ⟨z1, -, k1⟩ := key 1 (by kernel_rfl)
      obtain ⟨z2, -, k2⟩ := key 2 (by kernel_rfl)
      obtain ⟨z3, -, k3⟩ := key 3 (by kernel_rfl)
      obtain ⟨z4, -, k4⟩ := key 4 (by kernel_rfl)
      refine ⟨(z0, z1, z2, z3, z4), i0, fun j u hu => ?_⟩
      have hj : j < 5 := by
        have := (List.getElem?_eq_some_iff.1 hu).1
        simpa [encE] using this
      rw [hcc j hj, ← hu]
      rcases (by omega : j = 0 ∨ j = 1 ∨ j = 2 ∨ j = 3 ∨ j = 4) with rfl | rfl | rfl | rfl | rfl
      · exact k0
      · exact k1
      · exact k2
      · exact k3
      · exact k4
    have hz' : ∀ i, ∃ e : En, i < len → I64 e.1 ∧ ∀ j u, (encE e)[j]? = some u → W.cell? ((a.add (i * 5)).add j) = some u := fun i => by
      by_cases hi : i < len
      · obtain ⟨q, hq⟩ := hz i hi
        exact ⟨q, fun _ => hq⟩
      · exact ⟨(0, 0, 0, 0, 0), fun h => absurd h hi⟩
    obtain ⟨f, hq⟩ : ∃ f : Nat → En, ∀ i, i < len → I64 (f i).1 ∧ ∀ j u, (encE (f i))[j]? = some u → W.cell? ((a.add (i * 5)).add j) = some u := ⟨fun i => Classical.choose (hz' i), fun i => Classical.choose_spec (hz' i)⟩
    refine ⟨(List.range len).map f, ⟨some a, cap, by simp, by simpa using hl, hm, fun i hi => ?_⟩, fun hw => ?_⟩
    rotate_left
    · have h9 := hw ((elems.length + rest.length) * Tryd.prog.bytesOf 47) (by rw [hxx]; simp [DataW.weights, Tryd.underlying22])
      rw [show Tryd.prog.bytesOf 47 = 40 by kernel_rfl] at h9
      unfold reachBytes at h9
      simp only [List.length_map, List.length_range]
      omega
    have hi' : i < len := by simpa using hi
    obtain ⟨hI, hc⟩ := hq i hi'
    have z0 := (hq 0 (by omega)).2 0 _ rfl
    have c0 := hc 0 _ rfl
    have c1 := hc 1 _ rfl
    have c2 := hc 2 _ rfl
    have c3 := hc 3 _ rfl
    have c4 := hc 4 _ rfl
    obtain ⟨b, off, spot⟩ := a
    have hspot : spot = none := by simpa [Addr.add] using World.cell?_spot z0
    subst hspot
    rw [Addr.add_lit, Addr.add_lit] at c0 c1 c2 c3 c4
    have hx : ((List.range len).map f)[i] = f i := by simp
    exact ⟨b, off, rfl, World.block_lt_of_cell? W _ c0, by rw [hx]; exact ⟨c0, c1, c2, c3, c4⟩, by rw [hx]; exact hI⟩
/-- A cell that is a list of numbers, as it is trodden. -/
theorem numsCell {v : Value} {fuel : Nat} {x : DataW H × List MemPlace} (hf : DataW.trod enc Tryd.prog W 0 (fun _ => true) true fuel 26 [v] = some x) : ∃ C, NmIn W v C ∧ ((∀ k ∈ x.1.weights Tryd.prog 26, k ≤ reachBytes) → C.length ≤ 281474976710656) := by
  rcases open_ints Tryd.underlying26 Tryd.underlying3 cellsInt hf with ⟨hcs, _⟩ | ⟨a, len, cap, zs, hcs, _, hl, hm, hz, hxx, hcell, hwz⟩
  · simp only [List.cons.injEq, and_true] at hcs
    subst hcs
    exact ⟨[], ⟨none, 0, rfl, Nat.le_refl _, by omega, fun i hi => absurd hi (Nat.not_lt_zero _)⟩, fun _ => Nat.zero_le _⟩
  · simp only [List.cons.injEq, and_true] at hcs
    subst hcs
    unfold maxLen at hm
    simp only [if_true] at hz
    have hL : (zs.take len).length = len := by rw [List.length_take]; omega
    refine ⟨zs.take len, ⟨some a, cap, by rw [hL], by omega, hm, fun i hi => ?_⟩, fun hw => ?_⟩
    rotate_left
    · have h9 := hw (((lits (H := H) .i64 (zs.take len)).length + (lits (H := H) .i64 (zs.drop len)).length) * Tryd.prog.bytesOf 3) (by rw [hxx]; simp [DataW.weights, Tryd.underlying26])
      rw [show Tryd.prog.bytesOf 3 = 8 by kernel_rfl] at h9
      unfold reachBytes at h9
      simp only [lits, List.length_map] at h9
      omega
    rw [hL] at hi
    obtain ⟨bk, off, rfl, hc⟩ := ints_at hcell (by omega)
    have hci := hc i (by omega)
    have hx : (zs.take len)[i]'(by omega) = zs.getD i 0 := by
      rw [List.getElem_take, List.getD_eq_getElem?_getD, List.getElem?_eq_getElem (by omega), Option.getD_some]
    refine ⟨bk, off, rfl, World.block_lt_of_cell? W _ hci, by rw [hx]; exact hci, ?_⟩
    rw [hx]
    refine bounds_i64 (hwz _ ?_)
    rw [List.getD_eq_getElem?_getD, List.getElem?_eq_getElem (by omega)]
    exact List.getElem_mem _
set_option maxRecDepth 100000 in
/-- A cell that is a list of sequences, as it is trodden. -/
theorem seqsCell {v : Value} {fuel : Nat} {x : DataW H × List MemPlace} (hf : DataW.trod enc Tryd.prog W 0 (fun _ => true) true fuel 23 [v] = some x) : ∃ ss, SqIn W v ss ∧ ((∀ k ∈ x.1.weights Tryd.prog 23, k ≤ reachBytes) → ss.length ≤ 281474976710656 ∧ ∀ s ∈ ss, s.2.length ≤ 281474976710656) := by
  have hs : Tryd.prog.underlying 58 = some (.struct (Tryd.prog.fieldsOf 58)) := by kernel_rfl
  have hC : Tryd.prog.cellsOf 58 = 2 := by kernel_rfl
  have hC1 : Tryd.prog.cellsOf 26 = 1 := by kernel_rfl
  rcases DataW.trod_slice Tryd.underlying23 hf with ⟨hcs, _⟩ | ⟨a, len, cap, elems, rest, n, _, hcs, hxx, _, hl, hm, hlen, hel, _, _⟩
  · simp only [List.cons.injEq, and_true] at hcs
    subst hcs
    exact ⟨[], ⟨none, 0, rfl, Nat.le_refl _, by omega, fun i hi => absurd hi (Nat.not_lt_zero _)⟩, fun _ => ⟨Nat.zero_le _, fun s hs => by cases hs⟩⟩
  · simp only [List.cons.injEq, and_true] at hcs
    subst hcs
    unfold maxLen at hm
    have hz : ∀ i, i < len → ∃ e : Sq, I64 e.1 ∧ ∃ u, NmIn W u e.2 ∧ W.cell? ((a.add (i * 2)).add 0) = some (.int .i64 e.1) ∧ W.cell? ((a.add (i * 2)).add 1) = some u ∧ ((∀ k ∈ x.1.weights Tryd.prog 23, k ≤ reachBytes) → e.2.length ≤ 281474976710656) := by
      intro i hi
      have h0 := hel i hi
      rw [List.getElem?_eq_getElem (by omega), Option.bind_eq_some_iff, hC] at h0
      obtain ⟨cs, hcs, ht⟩ := h0
      obtain ⟨-, hcl, hcc⟩ := World.cells?_some hcs
      obtain ⟨m, xs, hx9, hl9, hg⟩ := fieldTrod2 hs ht
      obtain ⟨y, hy0, hy⟩ := hg 0 3 0 (by kernel_rfl)
      obtain ⟨y', hy1, hy'⟩ := hg 1 26 1 (by kernel_rfl)
      have hxs : xs = [y, y'] := by
        have h2 : xs.length = 2 := hl9.trans (by kernel_rfl)
        match xs, h2 with
        | [p, q], _ =>
          simp only [List.getElem?_cons_zero, List.getElem?_cons_succ, Option.some.injEq] at hy0 hy1
          rw [hy0, hy1]
      subst hxs
      rw [cellsInt] at hy
      rw [hC1] at hy'
      obtain ⟨z, hc, _, hw⟩ := DataW.trod_int Tryd.underlying3 hy
      obtain ⟨u, hu⟩ : ∃ u, (cs.drop 1).take 1 = [u] := by
        match cs, hcl with
        | [p, q], _ => exact ⟨q, rfl⟩
      rw [hu] at hy'
      obtain ⟨C, hN, hCb⟩ := numsCell hy'
      have hW : (∀ k ∈ x.1.weights Tryd.prog 23, k ≤ reachBytes) → C.length ≤ 281474976710656 := fun hk => hCb fun k hk9 => hk k (by
        rw [hxx]
        have hm9 : elems[i]'(by omega) ∈ elems := List.getElem_mem _
        have h3 : k ∈ (elems[i]'(by omega)).1.weights Tryd.prog 58 := by
          rw [hx9]
          simp only [DataW.weights, hs]
          rw [show (Tryd.prog.fieldsOf 58).toList.map (·.type) = [3, 26] by kernel_rfl]
          simp only [List.map_cons, List.map_nil, DataW.weightsEach, List.append_nil]
          exact List.mem_append_right _ hk9
        have h4 := weights_mem (P := Tryd.prog) (e := 58) (List.mem_map_of_mem (f := (·.1)) hm9) k h3
        simp only [DataW.weights, Tryd.underlying23]
        exact List.mem_cons_of_mem _ (List.mem_append_left _ h4))
      exact ⟨(z, C), bounds_i64 hw, u, hN, by rw [hcc 0 (by omega)]; exact take1 hc, by rw [hcc 1 (by omega)]; exact take1 hu, hW⟩
    have hz' : ∀ i, ∃ e : Sq, i < len → I64 e.1 ∧ ∃ u, NmIn W u e.2 ∧ W.cell? ((a.add (i * 2)).add 0) = some (.int .i64 e.1) ∧ W.cell? ((a.add (i * 2)).add 1) = some u ∧ ((∀ k ∈ x.1.weights Tryd.prog 23, k ≤ reachBytes) → e.2.length ≤ 281474976710656) := fun i => by
      by_cases hi : i < len
      · obtain ⟨q, hq⟩ := hz i hi
        exact ⟨q, fun _ => hq⟩
      · exact ⟨(0, []), fun h => absurd h hi⟩
    obtain ⟨f, hq⟩ : ∃ f : Nat → Sq, ∀ i, i < len → I64 (f i).1 ∧ ∃ u, NmIn W u (f i).2 ∧ W.cell? ((a.add (i * 2)).add 0) = some (.int .i64 (f i).1) ∧ W.cell? ((a.add (i * 2)).add 1) = some u ∧ ((∀ k ∈ x.1.weights Tryd.prog 23, k ≤ reachBytes) → (f i).2.length ≤ 281474976710656) := ⟨fun i => Classical.choose (hz' i), fun i => Classical.choose_spec (hz' i)⟩
    refine ⟨(List.range len).map f, ⟨some a, cap, by simp, by simpa using hl, hm, fun i hi => ?_⟩, fun hw => ⟨?_, fun s hs9 => ?_⟩⟩
    rotate_left
    · have h9 := hw ((elems.length + rest.length) * Tryd.prog.bytesOf 58) (by rw [hxx]; simp [DataW.weights, Tryd.underlying23])
      rw [show Tryd.prog.bytesOf 58 = 32 by kernel_rfl] at h9
      unfold reachBytes at h9
      simp only [List.length_map, List.length_range]
      omega
    · obtain ⟨i, hi, rfl⟩ := List.mem_map.1 hs9
      obtain ⟨-, u, -, -, -, hk⟩ := hq i (List.mem_range.1 hi)
      exact hk hw
    have hi' : i < len := by simpa using hi
    obtain ⟨hI, u, hN, c0, c1, -⟩ := hq i hi'
    obtain ⟨-, -, -, z0, -⟩ := hq 0 (by omega)
    obtain ⟨b, off, spot⟩ := a
    have hspot : spot = none := by simpa [Addr.add] using World.cell?_spot z0
    subst hspot
    rw [Addr.add_lit, Addr.add_lit] at c0 c1
    have hx : ((List.range len).map f)[i] = f i := by simp
    exact ⟨b, off, u, rfl, World.block_lt_of_cell? W _ c0, by rw [hx]; exact c0, c1, by rw [hx]; exact hN, by rw [hx]; exact hI⟩
set_option maxRecDepth 100000 in
theorem tableIn {base : Nat} {v : Value} {d : DataW H} {p : List MemPlace} (hval : Value.okWide Tryd.prog W .any base 25 v)
    (h : DataW.Trod enc Tryd.prog W 0 (fun _ => true) true 25 v d p) : ∃ ver es ss, I64 ver ∧ TbIn W v ver es ss ∧ ((∀ k ∈ d.weights Tryd.prog 25, k ≤ reachBytes) → es.length ≤ 281474976710656 ∧ ss.length ≤ 281474976710656 ∧ ∀ s ∈ ss, s.2.length ≤ 281474976710656) := by
  have hs : Tryd.prog.underlying 25 = some (.struct (Tryd.prog.fieldsOf 25)) := by kernel_rfl
  have hC : Tryd.prog.cellsOf 25 = 3 := by kernel_rfl
  have hC1 : Tryd.prog.cellsOf 22 = 1 := by kernel_rfl
  have hC2 : Tryd.prog.cellsOf 23 = 1 := by kernel_rfl
  obtain ⟨cs, rfl, hsz⟩ := okWide_struct hs hval
  obtain ⟨v0, v1, v2, rfl⟩ : ∃ a b c, cs = #[a, b, c] := by
    obtain ⟨l⟩ := cs
    have hl : l.length = 3 := hsz.trans hC
    match l, hl with
    | [a, b, c], _ => exact ⟨a, b, c, rfl⟩
  obtain ⟨fuel, hf⟩ := h
  have h2 : (Value.agg #[v0, v1, v2]).cells.toList = [v0, v1, v2] := rfl
  rw [h2] at hf
  obtain ⟨n, xs, hx9, hl9, hg⟩ := fieldTrod2 hs hf
  obtain ⟨y0, e0, g0⟩ := hg 0 3 0 (by kernel_rfl)
  obtain ⟨y1, e1, g1⟩ := hg 1 22 1 (by kernel_rfl)
  obtain ⟨y2, e2, g2⟩ := hg 2 23 2 (by kernel_rfl)
  have hxs : xs = [y0, y1, y2] := by
    have h2 : xs.length = 3 := hl9.trans (by kernel_rfl)
    match xs, h2 with
    | [p, q, r], _ =>
      simp only [List.getElem?_cons_zero, List.getElem?_cons_succ, Option.some.injEq] at e0 e1 e2
      rw [e0, e1, e2]
  subst hxs
  rw [cellsInt] at g0
  rw [hC1] at g1
  rw [hC2] at g2
  obtain ⟨z, hc, _, hw⟩ := DataW.trod_int Tryd.underlying3 g0
  obtain ⟨es, hE, bE⟩ := entsCell (v := v1) g1
  obtain ⟨ss, hS, bS⟩ := seqsCell (v := v2) g2
  injection hc with hc _
  subst hc
  refine ⟨z, es, ss, bounds_i64 hw, ⟨v1, v2, rfl, hE, hS⟩, fun hk => ?_⟩
  have hx8 : d = .agg [y0.1, y1.1, y2.1] := hx9
  rw [hx8] at hk
  simp only [DataW.weights, hs] at hk
  rw [show (Tryd.prog.fieldsOf 25).toList.map (·.type) = [3, 22, 23] by kernel_rfl] at hk
  simp only [DataW.weightsEach, List.append_nil] at hk
  have b2 := bS fun k h9 => hk k (List.mem_append_right _ (List.mem_append_right _ h9))
  exact ⟨bE fun k h9 => hk k (List.mem_append_right _ (List.mem_append_left _ h9)), b2.1, b2.2⟩
end
end Go.Proofs.YtjaopjhfjijdaaaDoor
namespace Go.Proofs.YtjaopjhfjijdaaaDoor
open Go.ChangeShapes Go.WideShapes Go.ChangeAt Go.RowKit

section
variable {H : Type} {enc : TypeId × Value → H} {W : World}
set_option maxRecDepth 100000 in
theorem numsIn {base : Nat} {v : Value} {d : DataW H} {p : List MemPlace} (hval : Value.okWide Tryd.prog W .any base 26 v)
    (h : DataW.Trod enc Tryd.prog W 0 (fun _ => true) true 26 v d p) : ∃ C, NmIn W v C := by
  obtain ⟨a0, len, cap, rfl⟩ := okWide_slice Tryd.underlying26 hval
  obtain ⟨fuel, hf⟩ := h
  obtain ⟨C, hC, -⟩ := numsCell (v := .slice a0 len cap) hf
  exact ⟨C, hC⟩
theorem weighs {P : Program} {t : TypeId} {ts : List TypeId} {d : DataW H} {ds : List (DataW H)} (h : (DataW.weightsEach P (t :: ts) (d :: ds)).all (· ≤ reachBytes) = true) : ∀ k ∈ d.weights P t, k ≤ reachBytes := fun k hk => by
  rw [DataW.weightsEach] at h
  have := List.all_eq_true.1 h k (List.mem_append_left _ hk)
  simpa using this
end
end Go.Proofs.YtjaopjhfjijdaaaDoor
