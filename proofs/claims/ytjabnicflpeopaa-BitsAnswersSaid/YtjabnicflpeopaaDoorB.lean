/- A list of bits as an argument. -/
import Derived.Test.YtjabnicflpeopaaDoor
import Derived.Test.YtjabnicflpeopaaAnsLaw
namespace Go.Proofs.Ytjabnicflpeopaa
open Go.ChangeShapes Go.WideShapes Go.ChangeAt Go.RowKit

theorem two_of {α : Type} {l : Array α} (h : l.size = 2) : ∃ a b, l = #[a, b] := by
  obtain ⟨l⟩ := l
  match l, h with
  | [a, b], _ => exact ⟨a, b, rfl⟩
theorem cellsU8 : Try.prog.cellsOf 5 = 1 := by kernel_rfl
theorem cellsBs : Try.prog.cellsOf 22 = 1 := by kernel_rfl
set_option maxRecDepth 100000 in
theorem bitsIn {H : Type} {enc : TypeId × Value → H} {W : World} {base : Nat} {v : Value} {d : DataW H} {p : List MemPlace} (hval : Value.okWide Try.prog W .any base 24 v)
    (h : DataW.Trod enc Try.prog W 0 (fun _ => true) true 24 v d p) : ∃ A c L n, v = btV A c L n ∧ Bys W A c L ∧ I64 n := by
  have hs : Try.prog.underlying 24 = some (.struct (Try.prog.fieldsOf 24)) := by kernel_rfl
  have hC : Try.prog.cellsOf 24 = 2 := by kernel_rfl
  obtain ⟨cs, rfl, hsz⟩ := okWide_struct hs hval
  obtain ⟨v0, v1, rfl⟩ := two_of (hsz.trans hC)
  obtain ⟨fuel, hf⟩ := h
  obtain ⟨xs, n, _, _, _, hlen, hg⟩ := DataW.trod_struct hs hf
  have key : ∀ (j : Nat) (u : Value) (t : TypeId), (#[v0, v1] : Array Value)[j]? = some u → Try.prog.cellsOf t = 1 → ((Try.prog.fieldsOf 24)[j]?).map (fun f => (f.type, f.offset)) = some (t, j) → ∃ x, DataW.trod enc Try.prog W 0 (fun _ => true) true n t [u] = some x := by
    intro j u t hu hc hj
    obtain ⟨f, hfj, hft⟩ := Option.map_eq_some_iff.1 hj
    simp only [Prod.mk.injEq] at hft
    have h1 := hg j f hfj
    rw [hft.1, hft.2, hc] at h1
    have hjl : j < xs.length := by rw [hlen]; exact (Array.getElem?_eq_some_iff.1 hfj).1
    rw [List.getElem?_eq_getElem hjl] at h1
    have h2 : (Value.agg #[v0, v1]).cells.toList = [v0, v1] := rfl
    rw [h2] at h1
    have h3 : [v0, v1][j]? = some u := by simpa using hu
    have h4 : ([v0, v1].drop j).take 1 = [u] := by
      rcases (by have := (List.getElem?_eq_some_iff.1 h3).1; simp at this; omega : j = 0 ∨ j = 1) with rfl | rfl
      · simp at h3 ⊢; exact h3
      · simp at h3 ⊢; exact h3
    rw [h4] at h1
    exact ⟨_, h1⟩
  obtain ⟨x0, t0⟩ := key 0 v0 22 rfl cellsBs (by kernel_rfl)
  obtain ⟨x1, t1⟩ := key 1 v1 3 rfl cellsInt (by kernel_rfl)
  obtain ⟨k, hc1, _, hw1⟩ := DataW.trod_int Try.underlying3 t1
  injection hc1 with hc1 _
  subst hc1
  rcases open_ints Try.underlying22 Try.underlying5 cellsU8 t0 with ⟨hcs, _⟩ | ⟨a, len, cap, zs, hcs, _, hl, hm, hz, _, hcell, hwz⟩
  · injection hcs with hcs _
    subst hcs
    exact ⟨none, 0, [], k, rfl, Bys.none W, bounds_i64 hw1⟩
  · injection hcs with hcs _
    subst hcs
    unfold maxLen at hm
    simp only [if_true] at hz
    have hb : ∀ i, i < zs.length → 0 ≤ zs.getD i 0 ∧ zs.getD i 0 ≤ 255 := fun i hi => by
      refine bounds_u8 (hwz _ ?_)
      rw [List.getD_eq_getElem?_getD, List.getElem?_eq_getElem hi]
      exact List.getElem_mem _
    have hll : ((List.range len).map fun i => (zs.getD i 0).toNat).length = len := by simp
    refine ⟨some a, cap, (List.range len).map fun i => (zs.getD i 0).toNat, k, by rw [btV, hll], ⟨by rw [hll]; exact hl, hm, (fun e => by cases e), fun x hx => ?_, fun i hi => ?_⟩, bounds_i64 hw1⟩
    · obtain ⟨i, hi, rfl⟩ := List.mem_map.1 hx
      have := hb i (by have := List.mem_range.1 hi; omega)
      omega
    · rw [hll] at hi
      obtain ⟨bk, off, rfl, hc⟩ := ints_at hcell (by omega)
      have hci := hc i (by omega)
      refine ⟨bk, off, rfl, World.block_lt_of_cell? W _ hci, ?_⟩
      rw [hci]
      have h1 := hb i (by omega)
      have e : (((List.range len).map fun i => (zs.getD i 0).toNat)[i]'(by rw [hll]; exact hi)) = (zs.getD i 0).toNat := by simp
      rw [e, Int.toNat_of_nonneg h1.1]
end Go.Proofs.Ytjabnicflpeopaa
