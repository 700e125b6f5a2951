/- Texts of this proof. -/
import Derived.Test.YtejoabaanclcbaaGreatQad
import Derived.Deep.QuietTactic
import Derived.BigQuiet
import Derived.Test.YtejoabaanclcbaaGreatQaf
import Derived.Shelf.SlSortCmp.SmallK
import Derived.Shelf.Small.Bits
namespace Go.Proofs.YtejoabaanclcbaaGreat
open Go.RowKit Go.Maps

/-- Block gl is the lattice of the frequency n. -/
structure La (W : World) (n gl : Nat) (w : World) : Prop where
  below : Below W.heap.size W w
  gl0 : W.heap.size ≤ gl
  lt : gl < w.heap.size
  nds : ∃ g cap, w.cell? ⟨gl, 0, none⟩ = some (.slice (some ⟨g, 0, none⟩) (cn n) cap) ∧ w.ownsRow W.heap.size 32 4 (.slice (some ⟨g, 0, none⟩) (cn n) cap) (cn n) (ncs n (Lat.nodes n))
  idx : ∀ f a b, f < 20 → a + b ≤ n → w.cell? ⟨gl, 1 + f * 81 + a * 9 + b, none⟩ = some (.int .i64 (Lat.idx n f a b : Nat))
theorem La.under {W w w' : World} {n gl : Nat} (h : La W n gl w) (hb : Below w.heap.size w w') : La W n gl w' := by
  obtain ⟨g, cap, h1, h2⟩ := h.nds
  exact ⟨h.below.trans (hb.mono h.below.size), h.gl0, Nat.lt_of_lt_of_le h.lt hb.size, ⟨g, cap, (hb.cell (p := ⟨gl, 0, none⟩) h.lt).trans h1, own_under h2 hb⟩, fun f a b hf hab => (hb.cell (p := ⟨gl, 1 + f * 81 + a * 9 + b, none⟩) h.lt).trans (h.idx f a b hf hab)⟩
theorem La.alloc {W w : World} {n gl : Nat} (h : La W n gl w) (o : Obj) : La W n gl (w.alloc o) := h.under ((Below.refl _ _).alloc (Nat.le_refl _) o)
theorem La.drew {W w : World} {n gl : Nat} (h : La W n gl w) : La W n gl w.drew := ⟨h.below.drew, h.gl0, h.lt, h.nds, h.idx⟩
theorem La.of {W w : World} {n gl gm : Nat} (hn : Lat.frq n) (h : Mks W n gl gm (Lat.fin n) w) : La W n gl w := by
  obtain ⟨cs, g, cap, h1, h2, h3, h4, h5⟩ := h.lat
  rw [Lat.cnt_eq hn] at h3 h4
  refine ⟨h.below, h.gl0, h1.lt, ⟨g, cap, (h1.cell 0).trans h3, h4⟩, fun f a b hf hab => ?_⟩
  have ha : a ≤ 8 := by unfold Lat.frq at hn; omega
  have hb : b ≤ 8 := by unfold Lat.frq at hn; omega
  have h6 := h5 (Lat.off f a b) (by unfold Lat.off; omega)
  rw [(Lat.ix_of hn hf hab).1] at h6
  rw [h1.cell, show 1 + f * 81 + a * 9 + b = Lat.off f a b + 1 by unfold Lat.off; omega]
  exact h6
/-- What newLattice leaves, for its readers. -/
def Lays (W : World) (n : Nat) (e : Ending) (w : World) : Prop := ∃ gl, e = .returned (.pointer (some ⟨gl, 0, none⟩)) ∧ La W n gl w
theorem lattice_any (n : Nat) (w : World) (h : Lat.frq n) : Calls Tryz.prog 118 #[.int .i64 n] w (Lays w n) :=
  (newLattice_any n w h).mono fun _ _ ⟨gl, _, he, hm⟩ => ⟨gl, he, .of h hm⟩
set_option maxRecDepth 100000 in
set_option maxHeartbeats 1000000 in
theorem find_any (W : World) (n gl f a b : Nat) (c : Int) (w : World) (h : La W n gl w) (hn : Lat.frq n) (hf : f < 20) (hab : a + b ≤ n) :
    Calls Tryz.prog 119 #[.pointer (some ⟨gl, 0, none⟩), .agg #[.int .i64 f, .int .i64 a, .int .i64 b, .int .i64 c]] w fun e w' => e = .returned (.int .i64 (Lat.idx n f a b : Nat)) ∧ Below w.heap.size w w' := by
  have hi := h.idx f a b hf hab
  have hl := h.lt
  have f1 : (f : Int) < 20 := by omega
  have ha : (a : Int) < 9 := by unfold Lat.frq at hn; omega
  have hb : (b : Int) < 9 := by unfold Lat.frq at hn; omega
  clear h hn hab
  go_enter Tryz.func119, Tryz.ntmps119
  go_wp2_with fail
  go_quiet (fail)
  go_wp2_with fail
  go_ret
  exact ⟨rfl, ⟨rfl, rfl, rfl, by simp, fun i h => Below.heap_alloc w _ i h⟩⟩
/-- What Nodes leaves. -/
def NodesR (W : World) (n : Nat) (e : Ending) (w : World) : Prop := ∃ g cap, e = .returned (.tuple #[.slice (some ⟨g, 0, none⟩) (cn n) cap, .int .i64 0]) ∧ Below W.heap.size W w ∧ w.ownsRow W.heap.size 32 4 (.slice (some ⟨g, 0, none⟩) (cn n) cap) (cn n) (ncs n (Lat.nodes n))
end Go.Proofs.YtejoabaanclcbaaGreat



namespace Go.Proofs.YtejoabaanclcbaaGreat
open Go.RowKit Go.Maps

abbrev pt4 (f a b c : Int) : List Value := [.int .i64 f, .int .i64 a, .int .i64 b, .int .i64 c]
/-- A triangle as a value. -/
abbrev tr12 (f a b c a' b' c' a'' b'' c'' : Int) : Array Value := #[.int .i64 f, .int .i64 a, .int .i64 b, .int .i64 c, .int .i64 f, .int .i64 a', .int .i64 b', .int .i64 c', .int .i64 f, .int .i64 a'', .int .i64 b'', .int .i64 c'']
set_option maxRecDepth 100000 in
set_option maxHeartbeats 4000000 in
theorem upright_any (f a b c : Int) (w : World) (a0 : 0 ≤ a) (a1 : a ≤ 8) (b0 : 0 ≤ b) (b1 : b ≤ 8) (c0 : 0 ≤ c) (c1 : c ≤ 8) :
    Calls Tryz.prog 95 #[.agg #[.int .i64 f, .int .i64 a, .int .i64 b, .int .i64 c]] w fun e w' => e = .returned (.agg (tr12 f (a + 1) b c a (b + 1) c a b (c + 1))) ∧ Below w.heap.size w w' := by
  go_enter Tryz.func95, Tryz.ntmps95
  go_wp2
  exact bodyPost_ret (v := .agg (tr12 f (a + 1) b c a (b + 1) c a b (c + 1))) (by simp [results, Tryz.results95, go_sem]) rfl ⟨rfl, (((Below.refl _ _).alloc (Nat.le_refl _) _).alloc (by simp) _).alloc (by simp; omega) _⟩
set_option maxRecDepth 100000 in
set_option maxHeartbeats 4000000 in
theorem inverted_any (f a b c : Int) (w : World) (a0 : 0 ≤ a) (a1 : a ≤ 8) (b0 : 0 ≤ b) (b1 : b ≤ 8) (c0 : 0 ≤ c) (c1 : c ≤ 8) :
    Calls Tryz.prog 96 #[.agg #[.int .i64 f, .int .i64 a, .int .i64 b, .int .i64 c]] w fun e w' => e = .returned (.agg (tr12 f a (b + 1) (c + 1) (a + 1) b (c + 1) (a + 1) (b + 1) c)) ∧ Below w.heap.size w w' := by
  have e1 : a + 1 - 1 = a := by omega
  have e2 : b + 1 - 1 = b := by omega
  have e3 : c + 1 - 1 = c := by omega
  go_enter Tryz.func96, Tryz.ntmps96
  go_wp2
  exact bodyPost_ret (v := .agg (tr12 f a (b + 1) (c + 1) (a + 1) b (c + 1) (a + 1) (b + 1) c)) (by simp [results, Tryz.results96, go_sem]) rfl ⟨rfl, ((((Below.refl _ _).alloc (Nat.le_refl _) _).alloc (by simp) _).alloc (by simp; omega) _).alloc (by simp; omega) _⟩
end Go.Proofs.YtejoabaanclcbaaGreat



namespace Go.Proofs.YtejoabaanclcbaaGreat
open Go.RowKit Go.Shelf Go.Lib Go.Sort

/-- A share as the sort sees it. -/
abbrev Shr := Fin 1000 × Int
def encS (x : Shr) : List Value := [.int .i64 (x.1.val : Int), .int .i64 x.2]
def cfS (x y : Shr) : Int := (x.1.val : Int) - (y.1.val : Int)
set_option maxHeartbeats 1000000 in
theorem less_any (x y : Shr) (W : World) : Calls Tryz.prog 121 #[.agg #[.int .i64 (x.1.val : Int), .int .i64 x.2], .agg #[.int .i64 (y.1.val : Int), .int .i64 y.2]] W fun e w' => e = .returned (.int .i64 (cfS x y)) ∧ ∃ q os', w' = grow (W.drewN q) os' := by
  obtain ⟨⟨a, ha⟩, u⟩ := x
  obtain ⟨⟨b, hb⟩, v⟩ := y
  have e : cfS (⟨a, ha⟩, u) (⟨b, hb⟩, v) = (a : Int) - (b : Int) := rfl
  rw [e]; clear e
  show Calls Tryz.prog 121 #[.agg #[.int .i64 (a : Int), .int .i64 u], .agg #[.int .i64 (b : Int), .int .i64 v]] W _
  go_enter Tryz.func121, Tryz.ntmps121
  go_wp2
  go_ret
  exact ⟨rfl, 0, _, by rw [alloc_eq_grow, alloc_eq_grow, grow_grow]; rfl⟩
theorem lays_any (blk off size : Nat) (w : World) : CmpLays Tryz.prog 121 #[] encS 2 cfS blk off size w := fun _ _ _ _ x y => less_any x y _
theorem swoS : SWO (ltOf cfS) where
  irrefl x := by simp [ltOf, cfS]
  trans x y z h1 h2 := by
    have a : cfS x y < 0 := of_decide_eq_true h1
    have b : cfS y z < 0 := of_decide_eq_true h2
    exact decide_eq_true (by unfold cfS at *; omega)
  ntrans x y z h1 h2 := by
    have a : ¬ cfS x y < 0 := of_decide_eq_false h1
    have b : ¬ cfS y z < 0 := of_decide_eq_false h2
    exact decide_eq_false (by unfold cfS at *; omega)
theorem bits_len (n : Nat) (W : World) (h : n ≤ 12) : Calls Tryz.prog 61 #[.int .u64 n] W fun e w' => (∃ l : Int, e = .returned (.int .i64 l)) ∧ w' = W :=
  (Any.bits_Len Tryz.bitsLen n W (by omega) (by omega)).mono fun _ _ ⟨he, hw⟩ => ⟨⟨_, he⟩, hw⟩
/-- Block g holds these shares from its beginning on. -/
def Shs (w : World) (g : Nat) (L : List (Nat × Int)) : Prop := ∀ i (h : i < L.length), w.cell? ⟨g, i * 2, none⟩ = some (.int .i64 ((L[i]).1 : Int)) ∧ w.cell? ⟨g, i * 2 + 1, none⟩ = some (.int .i64 (L[i]).2)
theorem Shs.under {w w' : World} {g : Nat} {L : List (Nat × Int)} (h : Shs w g L) (hg : g < w.heap.size) (hb : Below w.heap.size w w') : Shs w' g L := fun i hi =>
  ⟨(hb.cell (p := ⟨g, i * 2, none⟩) hg).trans (h i hi).1, (hb.cell (p := ⟨g, i * 2 + 1, none⟩) hg).trans (h i hi).2⟩
theorem Shs.far {w w' : World} {g : Nat} {L : List (Nat × Int)} {r : Option Nat} (h : Shs w g L) (hg : g < w.heap.size) (hr : some g ≠ r) (hb : w.grownBy w' r) : Shs w' g L := fun i hi =>
  ⟨(hb.cell_far ⟨g, i * 2, none⟩ hg hr).trans (h i hi).1, (hb.cell_far ⟨g, i * 2 + 1, none⟩ hg hr).trans (h i hi).2⟩
/-- The cells of shares. -/
def shc (L : List (Nat × Int)) : List Value := L.flatMap fun x => [.int .i64 (x.1 : Int), .int .i64 x.2]
theorem shc_at : ∀ (L : List (Nat × Int)) (i : Nat) (h : i < L.length), (shc L)[i * 2]? = some (.int .i64 ((L[i]).1 : Int)) ∧ (shc L)[i * 2 + 1]? = some (.int .i64 (L[i]).2)
  | x :: r, 0, _ => ⟨rfl, rfl⟩
  | x :: r, i + 1, h => by
    have := shc_at r i (by simpa using h)
    have e : shc (x :: r) = .int .i64 (x.1 : Int) :: .int .i64 x.2 :: shc r := rfl
    rw [e, show (i + 1) * 2 = i * 2 + 1 + 1 by omega, show i * 2 + 1 + 1 + 1 = i * 2 + 1 + 1 + 1 by rfl]
    simpa using this
theorem shs_of_own {w : World} {base n g cap : Nat} {L : List (Nat × Int)} (h : w.ownsRow base 84 2 (.slice (some ⟨g, 0, none⟩) n cap) n (shc L)) (hn : n = L.length) : Shs w g L := fun i hi => by
  subst hn
  rw [h.cellAt (i * 2) (by omega), h.cellAt (i * 2 + 1) (by omega)]
  exact shc_at L i hi
/-- What the sort leaves. -/
def Sorts (W : World) (g : Nat) (L : List (Nat × Int)) (e : Ending) (w : World) : Prop :=
  e = .returned (.tuple #[]) ∧ W.grownBy w (some g) ∧ ∃ L' : List (Nat × Int), L'.Perm L ∧ L'.Pairwise (fun x y => x.1 ≤ y.1) ∧ Shs w g L'
def fx (x : Nat × Int) : Shr := (⟨x.1 % 1000, Nat.mod_lt _ (by omega)⟩, x.2)
def bk (y : Shr) : Nat × Int := (y.1.val, y.2)
theorem bk_fx {x : Nat × Int} (h : x.1 < 1000) : bk (fx x) = x := by
  obtain ⟨a, b⟩ := x
  simp only [bk, fx]
  rw [Nat.mod_eq_of_lt h]
theorem map_bk_fx {L : List (Nat × Int)} (h : ∀ x ∈ L, x.1 < 1000) : (L.map fx).map bk = L := by
  rw [List.map_map]
  exact (List.map_congr_left (g := id) (fun x hx => bk_fx (h x hx))).trans (List.map_id _)
theorem world_grown (w : World) (g n : Nat) (d' : Array Shr) (os : Array Obj) : w.grownBy (sortWorldK encS 2 w g 0 n d' os) (some g) := by
  refine ⟨rfl, rfl, rfl, ?_, fun i hi hr => ?_⟩
  · simp [sortWorldK, putRowK, Sort.putRow, Sort.mapBlock]
  · unfold sortWorldK
    rw [heap_grow_old _ _ (by simpa [putRowK, Sort.putRow, Sort.mapBlock] using hi)]
    have hne : g ≠ i := fun e => hr (by rw [e])
    simp [putRowK, Sort.putRow, Sort.mapBlock, Array.getElem?_modify, hne]
theorem sort_any (g cap : Nat) (L : List (Nat × Int)) (w : World) (hL : ∀ x ∈ L, x.1 < 1000) (hl : L.length ≤ 12) (hg : g < w.heap.size) (hs : Shs w g L) (hf : ∀ j, w.frozen? ⟨g, j, none⟩ = false) :
    Calls Tryz.prog 120 #[.slice (some ⟨g, 0, none⟩) L.length cap, .func (.func 121) #[] #[]] w (Sorts w g L) := by
  have eg : ∀ args w, (callFunc 121 args).run Tryz.prog w = .ok (.enter 121 args) w := enters_of Tryz.func121 (by kernel_rfl) rfl
  have hH : HoldsK encS 2 w g 0 (L.map fx).toArray := by
    intro t ht
    simp only [size_flatK, List.size_toArray, List.length_map] at ht
    refine ⟨?_, by simpa using hf (0 + t)⟩
    rw [get_flatK _ _ _ _ (by simpa using ht)]
    have hi : t / 2 < L.length := by omega
    obtain ⟨a, b⟩ := hs (t / 2) hi
    have e : (L.map fx).toArray[t / 2]! = fx L[t / 2] := by simp [hi]
    have hx := bk_fx (hL L[t / 2] (List.getElem_mem _))
    have hx1 : (fx L[t / 2]).1.val = (L[t / 2]).1 := congrArg Prod.fst hx
    have hx2 : (fx L[t / 2]).2 = (L[t / 2]).2 := congrArg Prod.snd hx
    rw [e]
    rcases Nat.mod_two_eq_zero_or_one t with h0 | h0
    · rw [show 0 + t = t / 2 * 2 by omega, a, h0]; simp [encS, hx1]
    · rw [show 0 + t = t / 2 * 2 + 1 by omega, b, h0]; simp [encS, hx2]
  have hcon := AnyQ.slices_SortFunc_small_sorted Tryz.sortShare 2 Tryz.isAgg84 Tryz.sizeOf84 encS (fun _ => rfl) (fun x v hv => by simp [encS] at hv; rcases hv with rfl | rfl <;> rfl) cfS 121 #[] swoS g 0 cap (L.map fx).toArray w eg (lays_any g 0 _ w) hH hg (by simpa using hl) bits_len
  have e : (L.map fx).toArray.size = L.length := by simp
  rw [e] at hcon
  refine hcon.mono ?_
  rintro e' w' ⟨rfl, d', n, os, hp, hsd, rfl⟩
  obtain ⟨p1, _, p3⟩ := hp
  have p3' : d'.toList.Perm (L.map fx) := by
    have e1 : d'.extract 0 L.length = d' := by rw [← e, ← p1, Array.extract_size]
    have e2 : (L.map fx).toArray.extract 0 L.length = (L.map fx).toArray := by rw [← e, Array.extract_size]
    rw [e1, e2] at p3
    simpa using p3
  refine ⟨rfl, world_grown _ _ _ _ _, d'.toList.map bk, ?_, ?_, ?_⟩
  · have := p3'.map bk
    rwa [map_bk_fx hL] at this
  · rw [List.pairwise_map, List.pairwise_iff_getElem]
    intro i j hi hj hij
    have hi' : i < d'.size := by simpa using hi
    have hj' : j < d'.size := by simpa using hj
    have h1 := of_decide_eq_false (hsd i j (Nat.zero_le _) hij (by rw [← e, ← p1]; exact hj'))
    rw [getElem!_pos d' j hj', getElem!_pos d' i hi'] at h1
    have h2 : (d'[i].1.val : Int) ≤ (d'[j].1.val : Int) := by unfold cfS at h1; omega
    show (d'.toList[i]).1.val ≤ (d'.toList[j]).1.val
    simp only [Array.getElem_toList]
    omega
  · have hK : HoldsK encS 2 (sortWorldK encS 2 w g 0 n d' os) g 0 d' := by
      unfold sortWorldK
      exact holdsK_grow encS 2 _ os g 0 d' (by simpa [putRowK, Sort.putRow, Sort.mapBlock] using hg) (holdsK_putRowK (w := Sort.ahead w n) (h0 := hH) (hs := p1))
    intro i hi
    have hi' : i < d'.size := by simpa using hi
    have a := hK.cell (i := i) (c := 0) hi' (by omega)
    have b := hK.cell (i := i) (c := 1) hi' (by omega)
    simp only [Nat.zero_add, Nat.add_zero] at a b
    simp only [List.getElem_map, bk, Array.getElem_toList]
    refine ⟨?_, ?_⟩
    · have := a.1
      simpa [encS, getElem!_pos, hi'] using this
    · have := b.1
      simpa [encS, getElem!_pos, hi'] using this
end Go.Proofs.YtejoabaanclcbaaGreat


