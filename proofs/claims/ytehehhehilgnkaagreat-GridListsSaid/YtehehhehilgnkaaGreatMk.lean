/- The lattice while it is built. -/
import Derived.Test.YtehehhehilgnkaaGreatKey
import Derived.Test.YtehehhehilgnkaaGreatSrc
import Derived.Laws.OwnMore
import Derived.StillTailTactics
import Derived.OwnWalk
import Derived.Deep.AppendLies
import Derived.Deep.RegionLaw
namespace Go.Proofs.YtehehhehilgnkaaGreat
open Go.RowKit Go.Maps

theorem own_ne {w : World} {base size n g : Nat} {e t : TypeId} {v : Value} {xs : List Value} {cs : Array Value} (h : w.ownsRow base e size v n xs) (hr : Row w g t cs) (hne : e ≠ t) : some g ≠ v.ownBlock := by
  rcases h.2 with ⟨rfl, _⟩ | ⟨g', cap, cur, rfl, _, hh, _⟩
  · simp [Value.ownBlock]
  · intro he
    have : g = g' := by simpa [Value.ownBlock] using he
    subst this
    unfold Row at hr
    rw [hr] at hh
    injection hh with hh
    injection hh with _ ht
    exact hne ht.symm
theorem map_ne {H : Type} {w : World} {base size n b m : Nat} {e k : TypeId} {v : Value} {xs : List Value} {R : Value → Option (DataW H × List MemPlace)} {D : DataW H} (h : w.ownsRow base e size v n xs) (hm : w.ownsMap Tryz.prog k R b m D) : some b ≠ v.ownBlock := by
  rcases h.2 with ⟨rfl, _⟩ | ⟨g', cap, cur, rfl, _, hh, _⟩
  · simp [Value.ownBlock]
  · intro he
    have : b = g' := by simpa [Value.ownBlock] using he
    subst this
    obtain ⟨es, clock, hb, _⟩ := hm
    rw [hb] at hh
    injection hh with hh
    cases hh
theorem map_row_ne {H : Type} {w : World} {b m g : Nat} {t k : TypeId} {cs : Array Value} {R : Value → Option (DataW H × List MemPlace)} {D : DataW H} (hr : Row w g t cs) (hm : w.ownsMap Tryz.prog k R b m D) : b ≠ g := by
  rintro rfl
  obtain ⟨es, clock, hb, _⟩ := hm
  unfold Row at hr
  rw [hb] at hr
  injection hr with hh
  cases hh
theorem own_under {w w' : World} {base size n : Nat} {e : TypeId} {v : Value} {xs : List Value} (h : w.ownsRow base e size v n xs) (hb : Below w.heap.size w w') : w'.ownsRow base e size v n xs := by
  refine h.kept (row := none) (grown_below hb) ?_
  cases hv : v.ownBlock
  · exact .inl rfl
  · exact .inr (by simp)
theorem below_own {a b c : World} {B size n : Nat} {e : TypeId} {v : Value} {xs : List Value} (h : Below B a b) (hB : B ≤ b.heap.size) (ho : b.ownsRow B e size v n xs) (k : b.grownBy c v.ownBlock) : Below B a c :=
  ⟨k.os.trans h.os, k.tape.trans h.tape, k.output.trans h.output, Nat.le_trans h.size k.size, fun i hi => (k.block i (by omega) (fun e => by have := (ho.lt i e.symm).1; omega)).trans (h.block i hi)⟩
theorem below_by {a b c : World} {B g : Nat} (h : Below B a b) (hB : B ≤ b.heap.size) (hg : B ≤ g) (k : b.grownBy c (some g)) : Below B a c :=
  ⟨k.os.trans h.os, k.tape.trans h.tape, k.output.trans h.output, Nat.le_trans h.size k.size, fun i hi => (k.block i (by omega) (fun e => by injection e with e; omega)).trans (h.block i hi)⟩
theorem grown_one (w : World) (g j : Nat) (u : Value) : w.grownBy (w.setCell ⟨g, j, none⟩ u) (some g) :=
  ⟨rfl, rfl, rfl, by simp [World.setCell], fun i _ hne => Below.heap_setCell w ⟨g, j, none⟩ u i (fun e => hne (by rw [e]))⟩

/-- A weight of a point in the units of places. -/
def wd (n a : Nat) : Int := ((a * (840 / n) : Nat) : Int)
/-- The cells of a node. -/
def nc (n : Nat) (p : Lat.Pt) : List Value := [.int .i64 p.1, .int .i64 (wd n p.2.1), .int .i64 (wd n p.2.2), .int .i64 (wd n (n - p.2.1 - p.2.2))]
def ncs (n : Nat) (l : List Lat.Pt) : List Value := l.flatMap (nc n)
theorem ncs_snoc (n : Nat) (l : List Lat.Pt) (p : Lat.Pt) : ncs n (l ++ [p]) = ncs n l ++ nc n p := by simp [ncs]
theorem nc_one (n : Nat) (p : Lat.Pt) : ∀ u ∈ nc n p, u.oneCell' = true := by
  intro u hu
  simp only [nc, List.mem_cons, List.not_mem_nil, or_false] at hu
  rcases hu with rfl | rfl | rfl | rfl <;> rfl
theorem infoPlace : (Tryz.prog.info? 32).map (fun i => (i.zero, i.size, i.bytes)) = some (some (.agg #[.int .i64 0, .int .i64 0, .int .i64 0, .int .i64 0]), 4, 32) := by kernel_rfl

/-- What is known of the lattice in block gl and the map in block gm. -/
structure Mk (W : World) (n gl gm : Nat) (rv : List Lat.Pt) (cnt : Nat) (bor ix : List (Nat × Nat)) (w : World) : Prop where
  below : Below W.heap.size W w
  gl0 : W.heap.size ≤ gl
  gm0 : W.heap.size ≤ gm
  lat : ∃ cs g cap, Row w gl 51 cs ∧ cs.size = 1621 ∧ cs[0]? = some (.slice (some ⟨g, 0, none⟩) cnt cap) ∧ w.ownsRow W.heap.size 32 4 (.slice (some ⟨g, 0, none⟩) cnt cap) cnt (ncs n rv.reverse) ∧
    ∀ j, j < 1620 → cs[j + 1]? = some (.int .i64 ((Lat.look j ix).getD 0 : Nat))
  map : ∃ (D : DataW Unit) (k : Nat), w.ownsMap Tryz.prog 98 (plainElem Tryz.prog 3) gm k D ∧ Bor D bor ∧ k ≤ bor.length
section
variable {W w w' : World} {n gl gm : Nat} {rv : List Lat.Pt} {cnt : Nat} {bor ix : List (Nat × Nat)}
theorem Mk.under (h : Mk W n gl gm rv cnt bor ix w) (hb : Below w.heap.size w w') : Mk W n gl gm rv cnt bor ix w' := by
  obtain ⟨cs, g, cap, h1, h2, h3, h4, h5⟩ := h.lat
  obtain ⟨D, k, m1, m2, m3⟩ := h.map
  exact ⟨h.below.trans (hb.mono h.below.size), h.gl0, h.gm0, ⟨cs, g, cap, h1.under hb, h2, h3, own_under h4 hb, h5⟩, D, k, m1.kept (grown_below (r := none) hb) (by simp), m2, m3⟩
theorem Mk.alloc (h : Mk W n gl gm rv cnt bor ix w) (o : Obj) : Mk W n gl gm rv cnt bor ix (w.alloc o) := h.under ((Below.refl _ _).alloc (Nat.le_refl _) o)
theorem Mk.drew (h : Mk W n gl gm rv cnt bor ix w) : Mk W n gl gm rv cnt bor ix w.drew := ⟨h.below.drew, h.gl0, h.gm0, h.lat, h.map⟩
theorem Mk.drewN (h : Mk W n gl gm rv cnt bor ix w) (k : Nat) : Mk W n gl gm rv cnt bor ix (w.drewN k) := ⟨below_drewN h.below k, h.gl0, h.gm0, h.lat, h.map⟩
theorem Mk.ltl (h : Mk W n gl gm rv cnt bor ix w) : gl < w.heap.size := by obtain ⟨cs, g, cap, h1, _⟩ := h.lat; exact h1.lt
theorem Mk.ltm (h : Mk W n gl gm rv cnt bor ix w) : gm < w.heap.size := by obtain ⟨D, k, m1, _⟩ := h.map; exact m1.lt
/-- A node is appended and the field stored. -/
theorem Mk.grow (h : Mk W n gl gm rv cnt bor ix w) {p : Lat.Pt} {g cap g' cap' : Nat} (hown : w.ownsRow W.heap.size 32 4 (.slice (some ⟨g, 0, none⟩) cnt cap) cnt (ncs n rv.reverse))
    (hown' : w'.ownsRow W.heap.size 32 4 (.slice (some ⟨g', 0, none⟩) (cnt + 1) cap') (cnt + 1) (ncs n rv.reverse ++ nc n p)) (hg : w.grownBy w' (Value.slice (some ⟨g, 0, none⟩) cnt cap).ownBlock) :
    Mk W n gl gm (p :: rv) (cnt + 1) bor ix (w'.setCell ⟨gl, 0, none⟩ (.slice (some ⟨g', 0, none⟩) (cnt + 1) cap')) := by
  obtain ⟨cs, g0, cap0, h1, h2, h3, h4, h5⟩ := h.lat
  obtain ⟨D, k, m1, m2, m3⟩ := h.map
  have r1 : Row w' gl 51 cs := h1.grown hg (own_ne hown h1 (by decide))
  have n1 := own_ne hown' r1 (by decide)
  refine ⟨(below_own h.below h.below.size hown hg).setCell h.gl0 _, h.gl0, h.gm0, ⟨_, g', cap', r1.put 0 _, by simpa using h2, by simp [h2], ?_, fun j hj => ?_⟩, D, k, ?_, m2, m3⟩
  · rw [List.reverse_cons, ncs_snoc]
    exact hown'.kept (grown_one _ _ _ _) (.inr (Ne.symm n1))
  · rw [Array.getElem?_setIfInBounds]
    simp [h5 j hj]
  · have k1 := m1.kept hg (map_ne hown m1)
    exact k1.kept (grown_one _ _ _ _) (by have := map_row_ne r1 k1; simpa using this)
/-- A border node is entered into the map. -/
theorem Mk.enter (h : Mk W n gl gm rv cnt bor ix w) {D : DataW Unit} {f a b c k i : Nat} (hf : f < 20) (ha : a ≤ 8) (hb : b ≤ 8) (hc : c ≤ 8) (m1 : w.ownsMap Tryz.prog 98 (plainElem Tryz.prog 3) gm k D) (m2 : Bor D bor) (m3 : k ≤ bor.length)
    (hm : w'.ownsMap Tryz.prog 98 (plainElem Tryz.prog 3) gm (k + 1) (D.put (kl f a b c) (.lit (.int .i64 i)))) (hg : w.grownBy w' (some gm)) :
    Mk W n gl gm rv cnt ((Lat.pk f a b c, i) :: bor) ix w' := by
  obtain ⟨cs, g, cap, h1, h2, h3, h4, h5⟩ := h.lat
  have e1 := map_row_ne h1 m1
  have e2 := map_ne h4 m1
  exact ⟨below_by h.below h.below.size h.gm0 hg, h.gl0, h.gm0, ⟨cs, g, cap, h1.grown hg (by simpa using Ne.symm e1), h2, h3, h4.kept hg (.inr (Ne.symm e2)), h5⟩, _, _, hm, m2.put m1.isMap hf ha hb hc i, by simp; omega⟩
/-- The index of a point is stored. -/
theorem Mk.index (h : Mk W n gl gm rv cnt bor ix w) (o i : Nat) (ho : o < 1620) : Mk W n gl gm rv cnt bor ((o, i) :: ix) (w.setCell ⟨gl, o + 1, none⟩ (.int .i64 i)) := by
  obtain ⟨cs, g, cap, h1, h2, h3, h4, h5⟩ := h.lat
  obtain ⟨D, k, m1, m2, m3⟩ := h.map
  have n1 := own_ne h4 h1 (by decide)
  refine ⟨h.below.setCell h.gl0 _, h.gl0, h.gm0, ⟨_, g, cap, h1.put (o + 1) _, by simpa using h2, by rw [Array.getElem?_setIfInBounds]; simp [h3], h4.kept (grown_one _ _ _ _) (.inr (Ne.symm n1)), fun j hj => ?_⟩, D, k, m1.kept (grown_one _ _ _ _) (by have := map_row_ne h1 m1; simpa using this), m2, m3⟩
  rw [Array.getElem?_setIfInBounds]
  by_cases e : o = j
  · subst e
    simp [Lat.look]; omega
  · have hb : Nat.beq o j = false := by
      cases hb : Nat.beq o j
      · rfl
      · exact absurd (Nat.eq_of_beq_eq_true hb) e
    simp [Lat.look, hb, e, h5 j hj]
end
end Go.Proofs.YtehehhehilgnkaaGreat

