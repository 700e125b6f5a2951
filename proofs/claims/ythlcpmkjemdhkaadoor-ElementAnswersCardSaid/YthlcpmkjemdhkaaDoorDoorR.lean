/- An argument of type []Reading, opened. -/
import Derived.Test.YthlcpmkjemdhkaaDoorDoor
import Derived.Test.YthlcpmkjemdhkaaDoorRd
import Derived.Deep.SlicePairs
namespace Go.Proofs.YthlcpmkjemdhkaaDoor
open Go.ChangeShapes Go.WideShapes Go.ChangeAt Go.RowKit

set_option maxRecDepth 100000 in
theorem readingsIn {H : Type} {enc : TypeId × Value → H} {W : World} {base : Nat} {v : Value} {d : DataW H} {p : List MemPlace} (hval : Value.okWide Tryd.prog W .any base 22 v)
    (h : DataW.Trod enc Tryd.prog W 0 (fun _ => true) true 22 v d p) : ∃ R : List Elt.R, RdIn W v R := by
  obtain ⟨a0, len, cap, rfl⟩ := okWide_slice Tryd.underlying22 hval
  have hC : Tryd.prog.cellsOf 47 = 2 := by kernel_rfl
  obtain ⟨fuel, hf⟩ := h
  rcases Go.Deep.open_slice_pairs Tryd.underlying22 Tryd.underlying47 hC rfl rfl cellsInt cellsInt hf with ⟨hcs, _⟩ | ⟨a, len', cap', m, n, V0, V1, D0, D1, P0, P1, hcs, _, hl, hm, hmm, _, hx⟩
  · simp [Value.cells] at hcs
    obtain ⟨rfl, rfl, rfl⟩ := hcs
    exact ⟨[], RdIn.nil W⟩
  · simp [Value.cells] at hcs
    obtain ⟨rfl, rfl, rfl⟩ := hcs
    unfold maxLen at hm
    simp only [if_true] at hmm
    subst hmm
    have hz : ∀ i, i < len → ∃ q : Int × Int, W.cell? (a.add (i * 2)) = some (.int .i64 q.1) ∧ W.cell? (a.add (i * 2 + 1)) = some (.int .i64 q.2) := by
      intro i hi
      obtain ⟨e0, e1, t0, t1⟩ := hx i (by omega)
      obtain ⟨x, hx0, _, _⟩ := DataW.trod_int Tryd.underlying3 t0
      obtain ⟨y, hy0, _, _⟩ := DataW.trod_int Tryd.underlying3 t1
      injection hx0 with hx0 _
      injection hy0 with hy0 _
      exact ⟨(x, y), by rw [e0, hx0], by rw [e1, hy0]⟩
    have hz' : ∀ i, ∃ q : Int × Int, i < len → W.cell? (a.add (i * 2)) = some (.int .i64 q.1) ∧ W.cell? (a.add (i * 2 + 1)) = some (.int .i64 q.2) := fun i => by
      by_cases hi : i < len
      · obtain ⟨q, hq⟩ := hz i hi
        exact ⟨q, fun _ => hq⟩
      · exact ⟨(0, 0), fun h => absurd h hi⟩
    have hch : ∃ f : Nat → Int × Int, ∀ i, i < len → W.cell? (a.add (i * 2)) = some (.int .i64 (f i).1) ∧ W.cell? (a.add (i * 2 + 1)) = some (.int .i64 (f i).2) := ⟨fun i => Classical.choose (hz' i), fun i => Classical.choose_spec (hz' i)⟩
    obtain ⟨f, hq⟩ := hch
    refine ⟨(List.range len).map f, some a, _, by simp, by simpa using hl, hm, fun i hi => ?_⟩
    have hi' : i < len := by simpa using hi
    obtain ⟨q0, q1⟩ := hq i hi'
    have qz := (hq 0 (by omega)).1
    obtain ⟨b, off, spot⟩ := a
    have hspot : spot = none := by simpa [Addr.add] using World.cell?_spot qz
    subst hspot
    rw [Addr.add_lit] at q0 q1
    exact ⟨b, off, rfl, World.block_lt_of_cell? W _ q0, by simpa using q0, by simpa [Nat.add_assoc] using q1⟩
end Go.Proofs.YthlcpmkjemdhkaaDoor
