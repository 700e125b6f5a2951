/- The lattice as its readers see it; contracts of find, Nodes, Index. -/
import Derived.Test.YtehehhehilgnkaaLatB
import Derived.Deep.QuietTactic
import Derived.BigQuiet
namespace Go.Proofs.Ytehehhehilgnkaa
open Go.RowKit Go.Maps

/-- Block gl is the lattice of the frequency n. -/
structure La (W : World) (n gl : Nat) (w : World) : Prop where
  below : Below W.heap.size W w
  gl0 : W.heap.size ≤ gl
  lt : gl < w.heap.size
  nds : ∃ g cap, w.cell? ⟨gl, 0, none⟩ = some (.slice (some ⟨g, 0, none⟩) (cn n) cap) ∧ w.ownsRow W.heap.size 23 4 (.slice (some ⟨g, 0, none⟩) (cn n) cap) (cn n) (ncs n (Lat.nodes n))
  idx : ∀ f a b, f < 20 → a + b ≤ n → w.cell? ⟨gl, 1 + f * 81 + a * 9 + b, none⟩ = some (.int .i64 (Lat.idx n f a b : Nat))
theorem La.under {W w w' : World} {n gl : Nat} (h : La W n gl w) (hb : Below w.heap.size w w') : La W n gl w' := by
  obtain ⟨g, cap, h1, h2⟩ := h.nds
  exact ⟨h.below.trans (hb.mono h.below.size), h.gl0, Nat.lt_of_lt_of_le h.lt hb.size, ⟨g, cap, (hb.cell (p := ⟨gl, 0, none⟩) h.lt).trans h1, own_under h2 hb⟩, fun f a b hf hab => (hb.cell (p := ⟨gl, 1 + f * 81 + a * 9 + b, none⟩) h.lt).trans (h.idx f a b hf hab)⟩
theorem La.alloc {W w : World} {n gl : Nat} (h : La W n gl w) (o : Obj) : La W n gl (w.alloc o) := h.under ((Below.refl _ _).alloc (Nat.le_refl _) o)
theorem La.drew {W w : World} {n gl : Nat} (h : La W n gl w) : La W n gl w.drew := ⟨h.below.drew, h.gl0, h.lt, h.nds, h.idx⟩
theorem La.of {W w : World} {n gl gm : Nat} (hn : Lat.frq n) (h : Mks W n gl gm (Lat.fin n) w) : La W n gl w := by
  obtain ⟨cs, g, cap, h1, h2, h3, h4, h5⟩ := h.lat
  rw [Lat.cnt_eq hn] at h3 h4
  refine ⟨h.below, h.gl0, h1.lt, ⟨g, cap, (h1.cell 0).trans h3, h4⟩, fun f a b hf hab => ?_⟩
  have ha : a ≤ 8 := by unfold Lat.frq at hn; omega
  have hb : b ≤ 8 := by unfold Lat.frq at hn; omega
  have h6 := h5 (Lat.off f a b) (by unfold Lat.off; omega)
  rw [(Lat.ix_of hn hf hab).1] at h6
  rw [h1.cell, show 1 + f * 81 + a * 9 + b = Lat.off f a b + 1 by unfold Lat.off; omega]
  exact h6
/-- What newLattice leaves, for its readers. -/
def Lays (W : World) (n : Nat) (e : Ending) (w : World) : Prop := ∃ gl, e = .returned (.pointer (some ⟨gl, 0, none⟩)) ∧ La W n gl w
theorem lattice_any (n : Nat) (w : World) (h : Lat.frq n) : Calls Try.prog 35 #[.int .i64 n] w (Lays w n) :=
  (newLattice_any n w h).mono fun _ _ ⟨gl, _, he, hm⟩ => ⟨gl, he, .of h hm⟩
set_option maxRecDepth 100000 in
set_option maxHeartbeats 1000000 in
theorem find_any (W : World) (n gl f a b : Nat) (c : Int) (w : World) (h : La W n gl w) (hn : Lat.frq n) (hf : f < 20) (hab : a + b ≤ n) :
    Calls Try.prog 36 #[.pointer (some ⟨gl, 0, none⟩), .agg #[.int .i64 f, .int .i64 a, .int .i64 b, .int .i64 c]] w fun e w' => e = .returned (.int .i64 (Lat.idx n f a b : Nat)) ∧ Below w.heap.size w w' := by
  have hi := h.idx f a b hf hab
  have hl := h.lt
  have f1 : (f : Int) < 20 := by omega
  have ha : (a : Int) < 9 := by unfold Lat.frq at hn; omega
  have hb : (b : Int) < 9 := by unfold Lat.frq at hn; omega
  clear h hn hab
  go_enter Try.func36, Try.ntmps36
  go_wp2_with fail
  go_quiet (fail)
  go_wp2_with fail
  go_ret
  exact ⟨rfl, ⟨rfl, rfl, rfl, by simp, fun i h => Below.heap_alloc w _ i h⟩⟩
/-- What Nodes leaves. -/
def NodesR (W : World) (n : Nat) (e : Ending) (w : World) : Prop := ∃ g cap, e = .returned (.tuple #[.slice (some ⟨g, 0, none⟩) (cn n) cap, .int .i64 0]) ∧ Below W.heap.size W w ∧ w.ownsRow W.heap.size 23 4 (.slice (some ⟨g, 0, none⟩) (cn n) cap) (cn n) (ncs n (Lat.nodes n))
set_option maxHeartbeats 1000000 in
theorem nodes_yes (n : Nat) (w : World) (hn : Lat.frq n) :
    Calls Try.prog 23 #[.int .i64 n] w (NodesR w n) := by
  go_enter Try.func23, Try.ntmps23
  go_wp2_with fail
  refine (isFrequency_yes _ _ hn).mono ?_
  rintro e w1 ⟨rfl, rfl⟩
  go_wp2_with fail
  refine (lattice_any _ _ hn).mono ?_
  rintro e w2 ⟨gl, rfl, h2⟩
  obtain ⟨g, cap, h3, h4⟩ := h2.nds
  have H2 := Lib.hid h2; clear h2
  have H4 := Lib.hid h4; clear h4
  go_wp2_with fail
  go_ret2
  exact ⟨g, cap, rfl, H2.out.below, H4.out⟩
theorem nodes_no (n : Int) (w : World) (hn : ¬ (1 ≤ n ∧ n ≤ 8)) :
    Calls Try.prog 23 #[.int .i64 n] w fun e w' => e = .returned (.tuple #[.slice none 0 0, .int .i64 1]) ∧ w = w' := by
  go_enter Try.func23, Try.ntmps23
  go_wp2_with fail
  refine (isFrequency_no _ _ hn).mono ?_
  rintro e w1 ⟨rfl, rfl⟩
  go_wp2_with fail
  go_ret2
  exact ⟨rfl, rfl⟩
end Go.Proofs.Ytehehhehilgnkaa
