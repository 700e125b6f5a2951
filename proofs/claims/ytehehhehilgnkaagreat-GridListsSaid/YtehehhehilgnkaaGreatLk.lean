/- The lists of neighbours while they are collected: link. -/
import Derived.Test.YtehehhehilgnkaaGreatCnd
import Derived.Test.YtehehhehilgnkaaGreatMgb
import Derived.Test.YtehehhehilgnkaaGreatShelfB
import Derived.Deep.DeepAppendRoom
namespace Go.Proofs.YtehehhehilgnkaaGreat
open Go.RowKit Go.Maps Go.Shelf

/-- Block g holds the lists, each in a block of its own behind g, with room for six. -/
structure Lk (W : World) (n g : Nat) (G : Nat → List Nat) (w : World) : Prop where
  below : Below W.heap.size W w
  g0 : W.heap.size ≤ g
  tab : ∃ cs, Row w g 23 cs ∧ cs.size = cn n ∧ ∀ i, i < cn n → cs[i]? = some (.slice (some ⟨g + 1 + i, 0, none⟩) (G i).length 6)
  rws : ∀ i, i < cn n → w.ownsRow W.heap.size 3 1 (.slice (some ⟨g + 1 + i, 0, none⟩) (G i).length 6) (G i).length (zc (G i))
section
variable {W w w' : World} {n g : Nat} {G : Nat → List Nat}
theorem Lk.under (h : Lk W n g G w) (hb : Below w.heap.size w w') : Lk W n g G w' := by
  obtain ⟨cs, h1, h2, h3⟩ := h.tab
  exact ⟨h.below.trans (hb.mono h.below.size), h.g0, ⟨cs, h1.under hb, h2, h3⟩, fun i hi => own_under (h.rws i hi) hb⟩
theorem Lk.row (h : Lk W n g G w) {i : Nat} (hi : i < cn n) : w.cell? ⟨g, i, none⟩ = some (.slice (some ⟨g + 1 + i, 0, none⟩) (G i).length 6) ∧ w.frozen? ⟨g, i, none⟩ = false := by
  obtain ⟨cs, h1, h2, h3⟩ := h.tab
  exact ⟨(h1.cell i).trans (h3 i hi), h1.thaw i⟩
theorem Lk.lst (h : Lk W n g G w) {i : Nat} (hi : i < cn n) : Cs w (g + 1 + i) (G i) := cs_of_own (h.rws i hi) rfl
/-- One list has grown in its place. -/
theorem Lk.grown (h : Lk W n g G w) {a b : Nat} (ha : a < cn n) (ho : w'.ownsRow W.heap.size 3 1 (.slice (some ⟨g + 1 + a, 0, none⟩) ((G a).length + 1) 6) ((G a).length + 1) (zc (G a) ++ [.int .i64 (b : Int)])) (hg : w.grownBy w' (some (g + 1 + a))) :
    (w'.cell? ⟨g, a, none⟩ = some (.slice (some ⟨g + 1 + a, 0, none⟩) (G a).length 6) ∧ w'.frozen? ⟨g, a, none⟩ = false) ∧ Lk W n g (fun i => if i = a then G i ++ [b] else G i) (w'.setCell ⟨g, a, none⟩ (.slice (some ⟨g + 1 + a, 0, none⟩) ((G a).length + 1) 6)) := by
  obtain ⟨cs, h1, h2, h3⟩ := h.tab
  have r1 : Row w' g 23 cs := h1.grown hg (fun e => by have := Option.some.inj e; omega)
  have g0 := h.g0
  have hs := grown_one w' g a (.slice (some ⟨g + 1 + a, 0, none⟩) ((G a).length + 1) 6)
  refine ⟨⟨(r1.cell a).trans (h3 a ha), r1.thaw a⟩, ⟨below_by (below_by h.below h.below.size (by omega) hg) (Nat.le_trans h.below.size hg.size) g0 hs, g0, ⟨_, r1.put a _, by simpa using h2, fun i hi => ?_⟩, fun i hi => ?_⟩⟩
  · by_cases e : i = a
    · subst e
      rw [Array.getElem?_setIfInBounds, if_pos rfl, if_pos (by omega)]
      simp
    · rw [Array.getElem?_setIfInBounds, if_neg (fun e' => e e'.symm), if_neg e]
      exact h3 i hi
  · by_cases e : i = a
    · subst e
      rw [if_pos rfl, zc_snoc, List.length_append]
      exact ho.kept hs (.inr (by simp [Value.ownBlock]; omega))
    · rw [if_neg e]
      exact ((h.rws i hi).kept hg (.inr (by simp [Value.ownBlock]; omega))).kept hs (.inr (by simp [Value.ownBlock]; omega))
theorem Lk.same {G' : Nat → List Nat} (h : Lk W n g G w) (e : ∀ i, G i = G' i) : Lk W n g G' w := by
  have : G = G' := funext e
  rw [← this]; exact h
end
theorem infoInt0 : (Tryz.prog.info? 3).map (fun i => (i.zero, i.size, i.bytes)) = some (some (.int .i64 0), 1, 8) := by kernel_rfl
theorem contains_zs (l : List Nat) (b : Nat) : ((zs l).take l.length).contains (b : Int) = decide (b ∈ l) := by
  rw [List.take_of_length_le (by rw [zs_len]; exact Nat.le_refl _), Bool.eq_iff_iff, List.contains_iff_mem, decide_eq_true_eq]
  unfold zs
  rw [List.mem_map]
  constructor
  · rintro ⟨x, hx, e⟩
    obtain rfl : x = b := by omega
    exact hx
  · intro hb
    exact ⟨b, hb, rfl⟩
theorem contains_any (w : World) (g c b : Nat) (l : List Nat) (h : Cs w g l) (hl : l.length ≤ 9223372036854775807) : Calls Tryz.prog 71 #[.slice (some ⟨g, 0, none⟩) l.length c, .int .i64 b] w fun e w' => e = .returned (.bool (decide (b ∈ l))) ∧ Below w.heap.size w w' := by
  have hcon := Any.slices_Contains_int Tryz.lContains g 0 l.length c (zs l) b w (by rw [zs_len]; exact Nat.le_refl _) hl (fun j hj => by
    rw [zs_len] at hj
    rw [Nat.zero_add, h.at_ j hj, List.getD_eq_getElem?_getD, List.getElem?_eq_getElem (by rw [zs_len]; exact hj)]
    simp [zs])
  rw [contains_zs] at hcon
  refine Calls.mono hcon ?_
  rintro e w' ⟨he, hw⟩
  exact ⟨he, by first | (subst hw; exact Below.refl _ _) | (obtain ⟨q, rfl⟩ := hw; exact ⟨rfl, rfl, rfl, Nat.le_refl _, fun _ _ => rfl⟩)⟩
/-- All blocks but two are as they were. -/
def Fr (g a : Nat) (w w' : World) : Prop := w.heap.size ≤ w'.heap.size ∧ ∀ i, i < w.heap.size → i ≠ g → i ≠ g + 1 + a → w'.heap[i]? = w.heap[i]?
theorem Fr.below {g a : Nat} {w w' : World} (h : Below w.heap.size w w') : Fr g a w w' := ⟨h.size, fun i hi _ _ => h.block i hi⟩
theorem Fr.grown {g a : Nat} {w w' w2 : World} (h : Fr g a w w') (hg : w'.grownBy w2 (some (g + 1 + a))) (v : Value) : Fr g a w (w2.setCell ⟨g, a, none⟩ v) :=
  ⟨Nat.le_trans h.1 (Nat.le_trans hg.size (by simp [World.setCell])), fun i hi h1 h2 => (Below.heap_setCell w2 ⟨g, a, none⟩ v i (by simpa using h1)).trans ((hg.block i (Nat.lt_of_lt_of_le hi h.1) (fun e => h2 (Option.some.inj e))).trans (h.2 i hi h1 h2))⟩
def LinkR (n g a : Nat) (W w0 : World) (G : Nat → List Nat) (e : Ending) (w : World) : Prop := e = .returned (.tuple #[]) ∧ Lk W n g G w ∧ Fr g a w0 w
set_option maxRecDepth 100000 in
set_option maxHeartbeats 4000000 in
theorem link_any (W : World) (n g a b : Nat) (P : List (Nat × Nat)) (w : World) (h : Lk W n g (Lat.lk P) w) (hn : Lat.frq n) (hs : Lat.Some n P) (hp : (a, b) ∈ Lat.pairs n) (ha : a < cn n) (hb : b < cn n) :
    Calls Tryz.prog 46 #[.slice (some ⟨g, 0, none⟩) (cn n) (cn n), .int .i64 a, .int .i64 b] w (LinkR n g a W w (Lat.lk (P ++ [(a, b)]))) := by
  have hc := cn_le hn
  have a0 : (0 : Int) ≤ (a : Int) := by omega
  have a1 : (a : Int) < (cn n : Int) := by omega
  have b1 : (b : Int) ≤ 642 := by omega
  obtain ⟨i0, hi, hz0, hz1, hz2⟩ := info_parts infoInt0
  have hl6 := Lat.lk_len hn ha hs
  have HA := Lib.hid ha
  obtain ⟨q0, q1⟩ := h.row ha
  have HC := Lib.hid (h.lst ha)
  by_cases hm : b ∈ Lat.lk P a
  · have HD : Hid (decide (b ∈ Lat.lk P a) = true) := Lib.hid (decide_eq_true hm)
    have HE := Lib.hid (h.same (G' := Lat.lk (P ++ [(a, b)])) (fun i => by
      rw [Lat.lk_snoc]
      by_cases e : a = i
      · subst e; rw [if_pos rfl]; unfold Lat.addn; rw [if_pos hm]
      · rw [if_neg e]))
    clear h hm
    go_enter Tryz.func46, Tryz.ntmps46
    go_wp2_with fail
    refine (contains_any _ _ _ _ _ HC.out (by omega)).mono ?_
    rintro e w1 ⟨rfl, hb1⟩
    rw [HD.out]
    have HE1 := Lib.hid (HE.out.under hb1)
    have HF := Lib.hid (Fr.below (g := g) (a := a) hb1)
    clear hb1 HE HC q0 q1
    go_wp2_with fail
    go_end0
    exact ⟨rfl, HE1.out, HF.out⟩
  · have HD : Hid (decide (b ∈ Lat.lk P a) = false) := Lib.hid (decide_eq_false hm)
    have hroom := Lat.lk_room hn ha hs hp hm
    have HE := Lib.hid h
    have HG : Hid (∀ i, (if i = a then Lat.lk P i ++ [b] else Lat.lk P i) = Lat.lk (P ++ [(a, b)]) i) := Lib.hid (fun i => by
      rw [Lat.lk_snoc]
      by_cases e : a = i
      · subst e; rw [if_pos rfl, if_pos rfl]; unfold Lat.addn; rw [if_neg hm]
      · rw [if_neg (fun e' => e e'.symm), if_neg e])
    clear h hm
    go_enter Tryz.func46, Tryz.ntmps46
    go_wp2_with fail
    refine (contains_any _ _ _ _ _ HC.out (by omega)).mono ?_
    rintro e w1 ⟨rfl, hb1⟩
    rw [HD.out]
    have HE1 := Lib.hid (HE.out.under hb1)
    have HF := Lib.hid (Fr.below (g := g) (a := a) (hb1.trans (((Below.refl w1.heap.size w1).alloc (Nat.le_refl _) (.cells #[.int .i64 (b : Int)] 3)).mono hb1.size)))
    clear hb1 HE HC q0 q1
    obtain ⟨q0, q1⟩ := HE1.out.row HA.out
    have HE2 := Lib.hid (HE1.out.under ((Below.refl _ _).alloc (Nat.le_refl _) (.cells #[.int .i64 (b : Int)] 3)))
    clear HE1
    go_wp2_with (at_builtin; go_loud (refine wpList_append_own_spare _ rfl (.tmp 18) (.tmp 20) 23 rfl W.heap.size 3 i0 1 Tryz.underlying23 hi hz1 (g + 1 + a) (Lat.lk P a).length 6 (zc (Lat.lk P a)) rfl (HE2.out.rws a HA.out) ⟨w1.heap.size, 0, none⟩ 1 1 [.int .i64 (b : Int)] rfl rfl (World.news_of_block (cs := #[.int .i64 (b : Int)]) (t := 3) (fr := (0, 0)) (heap_alloc_new w1 _)) (by simp [Value.oneCell']) (by omega) ?_); intro w3 hown3 hgrow3; obtain ⟨⟨q2, q3⟩, hE⟩ := HE2.out.grown HA.out hown3 hgrow3; have HE3 := Lib.hid hE; have HF3 := Lib.hid (HF.out.grown hgrow3 (.slice (some ⟨g + 1 + a, 0, none⟩) ((Lat.lk P a).length + 1) 6)); clear HF hE hown3 hgrow3 q0 q1 HE2)
    go_end0
    exact ⟨rfl, HE3.out.same HG.out, HF3.out⟩
end Go.Proofs.YtehehhehilgnkaaGreat

