/- Lists of neighbours in memory. -/
import Derived.Test.YtehehhehilgnkaaCln
import Derived.Test.YtehehhehilgnkaaQueM
namespace Go.Proofs.Ytehehhehilgnkaa
open Go.RowKit Go.Maps

/-- The numbers of a list. -/
def zs (l : List Nat) : List Int := l.map (fun x : Nat => (x : Int))
def zc (l : List Nat) : List Value := l.map (fun x : Nat => Value.int .i64 (x : Int))
theorem zs_len (l : List Nat) : (zs l).length = l.length := by simp [zs]
theorem zc_len (l : List Nat) : (zc l).length = l.length := by simp [zc]
theorem zc_snoc (l : List Nat) (b : Nat) : zc (l ++ [b]) = zc l ++ [.int .i64 (b : Int)] := by simp [zc]
theorem zc_one (l : List Nat) : ∀ u ∈ zc l, u.oneCell' = true := by
  intro u hu
  obtain ⟨x, -, rfl⟩ := List.mem_map.1 hu
  rfl
theorem zc_at (l : List Nat) (i : Nat) (h : i < l.length) : (zc l)[i]? = some (.int .i64 (l[i] : Int)) := by simp [zc, h]
/-- Block b holds these numbers from its beginning on; it may be written. -/
structure Cs (w : World) (b : Nat) (l : List Nat) : Prop where
  lt : b < w.heap.size
  at_ : ∀ j (h : j < l.length), w.cell? ⟨b, j, none⟩ = some (.int .i64 (l[j] : Int))
theorem Cs.under {w w' : World} {b : Nat} {l : List Nat} (h : Cs w b l) (hb : Below w.heap.size w w') : Cs w' b l :=
  ⟨Nat.lt_of_lt_of_le h.lt hb.size, fun j hj => (hb.cell (p := ⟨b, j, none⟩) h.lt).trans (h.at_ j hj)⟩
theorem Cs.grown {w w' : World} {b : Nat} {l : List Nat} {r : Option Nat} (h : Cs w b l) (hb : w.grownBy w' r) (hr : some b ≠ r) : Cs w' b l :=
  ⟨Nat.lt_of_lt_of_le h.lt hb.size, fun j hj => (hb.cell_far ⟨b, j, none⟩ h.lt hr).trans (h.at_ j hj)⟩
theorem cs_of_own {w : World} {base n b cap : Nat} {e : TypeId} {l : List Nat} (h : w.ownsRow base e 1 (.slice (some ⟨b, 0, none⟩) n cap) n (zc l)) (hn : n = l.length) : Cs w b l :=
  ⟨(own_heap h).2.1, fun j hj => by subst hn; rw [h.cellAt j (by omega)]; exact zc_at l j hj⟩
/-- A list of numbers as a value. -/
def NmL (w : World) (v : Value) (l : List Nat) : Prop := ∃ b cap, v = .slice (some ⟨b, 0, none⟩) l.length cap ∧ l.length ≤ cap ∧ cap ≤ 9223372036854775807 ∧ Cs w b l
theorem NmL.under {w w' : World} {v : Value} {l : List Nat} (h : NmL w v l) (hb : Below w.heap.size w w') : NmL w' v l := by
  obtain ⟨b, cap, h1, h2, h3, h4⟩ := h
  exact ⟨b, cap, h1, h2, h3, h4.under hb⟩
/-- Block g holds the lists of neighbours of all nodes. -/
structure Nb (w : World) (g n : Nat) : Prop where
  lt : g < w.heap.size
  at_ : ∀ i, i < cn n → ∃ v, w.cell? ⟨g, i, none⟩ = some v ∧ NmL w v (Lat.nbs n i)
theorem Nb.under {w w' : World} {g n : Nat} (h : Nb w g n) (hb : Below w.heap.size w w') : Nb w' g n :=
  ⟨Nat.lt_of_lt_of_le h.lt hb.size, fun i hi => by
    obtain ⟨v, h1, h2⟩ := h.at_ i hi
    exact ⟨v, (hb.cell (p := ⟨g, i, none⟩) h.lt).trans h1, h2.under hb⟩⟩
theorem Nb.drew {w : World} {g n : Nat} (h : Nb w g n) : Nb w.drew g n := h.under ⟨rfl, rfl, rfl, Nat.le_refl _, fun _ _ => rfl⟩
/-- What links leaves. -/
def LinksR (W : World) (n : Nat) (e : Ending) (w : World) : Prop := ∃ g cap, e = .returned (.slice (some ⟨g, 0, none⟩) (cn n) cap) ∧ cn n ≤ cap ∧ cap ≤ 9223372036854775807 ∧ Below W.heap.size W w ∧ W.heap.size ≤ g ∧ Nb w g n ∧ ∀ i, i < cn n → ∃ b c, w.cell? ⟨g, i, none⟩ = some (.slice (some ⟨b, 0, none⟩) (Lat.nbs n i).length c) ∧ W.heap.size ≤ b
end Go.Proofs.Ytehehhehilgnkaa
