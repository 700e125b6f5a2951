/- The contract of links: the lists of neighbours of all nodes, ascending. -/
import Derived.Test.YtejoabaanclcbaaGreatQam
import Derived.Sort.OwnSortedInts
import Derived.Deep.OwnRows
namespace Go.Proofs.YtejoabaanclcbaaGreat
open Go.RowKit Go.Maps Go.Shelf Go.Sort

theorem zc_zs (l : List Nat) : zc l = (zs l).map (Value.int .i64) := by simp [zc, zs]
def SortR (W : World) (base g cap : Nat) (l : List Nat) (e : Ending) (w : World) : Prop := e = .returned (.tuple #[]) ∧ W.grownBy w (some g) ∧ w.ownsRow base 3 1 (.slice (some ⟨g, 0, none⟩) l.length cap) l.length (((zs l).mergeSort fun x y => decide (x ≤ y)).map (Value.int .i64))
theorem sortI_any (w : World) (base g cap : Nat) (l : List Nat) (h : w.ownsRow base 3 1 (.slice (some ⟨g, 0, none⟩) l.length cap) l.length (zc l)) (hl : l.length ≤ 1000000) : Calls Tryz.prog 43 #[.slice (some ⟨g, 0, none⟩) l.length cap] w (SortR w base g cap l) := by
  rcases h.2 with ⟨h0, _⟩ | ⟨g', cap', cur, hv, hg, hb, hn, hcap, hs, ht⟩
  · cases h0
  · injection hv with hv h2 h3
    injection hv with hv
    injection hv with hv
    subst hv h3
    have ht' : cur.toList.take (zs l).length = (zs l).map (Value.int .i64) := by rw [zs_len, ← zc_zs]; simpa using ht
    have hcon := AnyM.slices_Sort_int Tryz.sortInt g 0 cap (zs l) w (holds_of_blockI hb ht') (Array.getElem?_eq_some_iff.1 hb).1 (by rw [zs_len]; omega)
    rw [zs_len] at hcon
    refine Calls.mono hcon ?_
    rintro e w' ⟨rfl, q, os, rfl⟩
    refine ⟨rfl, grownBy_sortedI _, ?_⟩
    have := ownsRow_sortedI (n := q) (os := os) (base := base) (ss := zs l) (ts := (zs l).mergeSort fun x y => decide (x ≤ y)) (List.length_mergeSort _) hg hb (by rw [zs_len]; exact hn) hcap hs
    rw [zs_len] at this
    exact this
/-- The lists while they are laid. -/
structure L0 (W : World) (n g k : Nat) (w : World) : Prop where
  below : Below W.heap.size W w
  g0 : W.heap.size ≤ g
  sz : w.heap.size = g + 1 + k
  tab : ∃ cs, Row w g 23 cs ∧ cs.size = cn n ∧ ∀ i, i < k → cs[i]? = some (.slice (some ⟨g + 1 + i, 0, none⟩) 0 6)
  rws : ∀ i, i < k → w.ownsRow W.heap.size 3 1 (.slice (some ⟨g + 1 + i, 0, none⟩) 0 6) 0 []
theorem L0.start (w : World) (n : Nat) : L0 w n w.heap.size 0 (w.alloc (.cells (madeCells #[.slice none 0 0] (cn n)) 23)) :=
  ⟨(Below.refl _ _).alloc (Nat.le_refl _) _, Nat.le_refl _, by simp, ⟨_, Row.new _ _ _, size_madeCells _ _, fun i hi => by omega⟩, fun i hi => by omega⟩
theorem L0.row {W w : World} {n g k : Nat} (h : L0 W n g k w) {j : Nat} (hj : j < cn n) (o : Obj) : (∃ v, (w.alloc o).cell? ⟨g, j, none⟩ = some v) ∧ (w.alloc o).frozen? ⟨g, j, none⟩ = false := by
  obtain ⟨cs, h1, h2, h3⟩ := h.tab
  exact ⟨⟨cs[j]'(by omega), ((h1.alloc o).cell j).trans (Array.getElem?_eq_getElem _)⟩, (h1.alloc o).thaw j⟩
theorem L0.step {W w : World} {n g k : Nat} (h : L0 W n g k w) (hk : k < cn n) (cs6 : Array Value) (h6 : cs6.size = 6) : L0 W n g (k + 1) ((w.alloc (.cells cs6 3)).setCell ⟨g, k, none⟩ (.slice (some ⟨w.heap.size, 0, none⟩) 0 6)) := by
  obtain ⟨cs, h1, h2, h3⟩ := h.tab
  have hs := grown_one (w.alloc (.cells cs6 3)) g k (.slice (some ⟨w.heap.size, 0, none⟩) 0 6)
  have hb := h.below.size
  have hsz := h.sz
  have g0 := h.g0
  have r1 := ((h1.alloc (.cells cs6 3)).put k (.slice (some ⟨w.heap.size, 0, none⟩) 0 6))
  refine ⟨below_by (h.below.alloc hb _) (by simp; omega) g0 hs, g0, by simp [World.setCell, hsz]; omega, ⟨_, r1, by simpa using h2, fun i hi => ?_⟩, fun i hi => ?_⟩
  · by_cases e : i = k
    · subst e
      rw [Array.getElem?_setIfInBounds, if_pos rfl, if_pos (by omega), hsz]
    · rw [Array.getElem?_setIfInBounds, if_neg (fun e' => e e'.symm)]
      exact h3 i (by omega)
  · by_cases e : i = k
    · subst e
      have := World.ownsRow_made (e := 3) (base := W.heap.size) (size := 1) w cs6 6 hb (by unfold maxLen; omega) (by omega)
      rw [← hsz]
      exact this.kept hs (.inr (by simp [Value.ownBlock]; omega))
    · exact ((h.rws i (by omega)).alloc _).kept hs (.inr (by simp [Value.ownBlock]; omega))
theorem L0.fin {W w : World} {n g : Nat} (h : L0 W n g (cn n) w) : Lk W n g (Lat.lk []) w := by
  obtain ⟨cs, h1, h2, h3⟩ := h.tab
  exact ⟨h.below, h.g0, ⟨cs, h1, h2, h3⟩, h.rws⟩
theorem Lk.nb {W w : World} {n g : Nat} (h : Lk W n g (Lat.nbs n) w) (hn : Lat.frq n) : Nb w g n := by
  obtain ⟨cs, h1, h2, h3⟩ := h.tab
  exact ⟨h1.lt, fun i hi => ⟨_, (h1.cell i).trans (h3 i hi), g + 1 + i, 6, rfl, Lat.nbs_len hn hi, by omega, h.lst hi⟩⟩
/-- The lists while they are sorted. -/
def srtd (n k : Nat) (i : Nat) : List Nat := if i < k then Lat.nbs n i else Lat.lk (Lat.pairs n) i
theorem Lk.sorted {W w w' : World} {n g k : Nat} {e : Ending} (h : Lk W n g (srtd n k) w) (hn : Lat.frq n) (hk : k < cn n) (hs : SortR w W.heap.size (g + 1 + k) 6 (srtd n k k) e w') : e = .returned (.tuple #[]) ∧ Lk W n g (srtd n (k + 1)) w' := by
  obtain ⟨he, hg, ho⟩ := hs
  obtain ⟨cs, h1, h2, h3⟩ := h.tab
  have hl : (Lat.lk (Lat.pairs n) k).length = (Lat.nbs n k).length := (Lat.lk_perm hn hk).length_eq
  have ek : srtd n k k = Lat.lk (Lat.pairs n) k := if_neg (Nat.lt_irrefl k)
  have ek1 : srtd n (k + 1) k = Lat.nbs n k := if_pos (Nat.lt_succ_self k)
  have eo : ∀ i, i ≠ k → srtd n (k + 1) i = srtd n k i := fun i hi => by
    unfold srtd
    by_cases e : i < k
    · rw [if_pos e, if_pos (by omega)]
    · rw [if_neg e, if_neg (by omega)]
  refine ⟨he, ⟨below_by h.below h.below.size (by have := h.g0; omega) hg, h.g0, ⟨cs, h1.grown hg (fun e => by have := Option.some.inj e; omega), h2, fun i hi => ?_⟩, fun i hi => ?_⟩⟩
  · by_cases e : i = k
    · subst e
      rw [h3 i hi, ek, ek1, hl]
    · rw [eo i e]; exact h3 i hi
  · by_cases e : i = k
    · subst e
      rw [ek1]
      rw [ek, hl] at ho
      have e2 := Lat.nbs_sort hn hk
      rw [show ((zs (Lat.lk (Lat.pairs n) i)).mergeSort fun x y => decide (x ≤ y)) = zs (Lat.nbs n i) from e2, ← zc_zs] at ho
      exact ho
    · rw [eo i e]
      exact (h.rws i hi).kept hg (.inr (by simp [Value.ownBlock]; omega))
/-- The pairs of some cells. -/
def ppre (n k : Nat) : List (Nat × Nat) := ((Lat.cls n 20).take k).flatMap Lat.prs
theorem ppre_succ {n k : Nat} (hk : k < (Lat.cls n 20).length) : ppre n (k + 1) = ppre n k ++ Lat.prs (Lat.cls n 20)[k] := by
  unfold ppre
  rw [List.take_succ_eq_append_getElem hk, List.flatMap_append]
  simp
theorem ppre_all (n : Nat) : ppre n (Lat.cls n 20).length = Lat.pairs n := by unfold ppre Lat.pairs; rw [List.take_length]
theorem ppre_some {n k : Nat} : Lat.Some n (ppre n k) := fun p hp => by
  obtain ⟨t, ht, hp⟩ := List.mem_flatMap.1 hp
  exact List.mem_flatMap.2 ⟨t, List.mem_of_mem_take ht, hp⟩
theorem some_app {n k j : Nat} (hk : k < (Lat.cls n 20).length) : Lat.Some n (ppre n k ++ (Lat.prs (Lat.cls n 20)[k]).take j) := fun p hp => by
  rcases List.mem_append.1 hp with hp | hp
  · exact ppre_some p hp
  · exact List.mem_flatMap.2 ⟨_, List.getElem_mem hk, List.mem_of_mem_take hp⟩
theorem tcs_at : ∀ (L : List Lat.Tr) (k : Nat) (h : k < L.length), (tcs L)[k * 3]? = some (.int .i64 ((L[k]).1 : Int)) ∧ (tcs L)[k * 3 + 1]? = some (.int .i64 ((L[k]).2.1 : Int)) ∧ (tcs L)[k * 3 + 2]? = some (.int .i64 ((L[k]).2.2 : Int))
  | p :: r, 0, _ => ⟨rfl, rfl, rfl⟩
  | p :: r, k + 1, h => by
    have := tcs_at r k (by simpa using h)
    have e : tcs (p :: r) = .int .i64 (p.1 : Int) :: .int .i64 (p.2.1 : Int) :: .int .i64 (p.2.2 : Int) :: tcs r := rfl
    rw [e, show (k + 1) * 3 = k * 3 + 1 + 1 + 1 by omega]
    simpa using this
theorem infoList : (Tryz.prog.info? 23).map (fun i => (i.zero, i.size, i.bytes)) = some (some (.slice none 0 0), 1, 24) := by kernel_rfl
/-- Cells in memory. -/
def TrIn (w : World) (g : Nat) (L : List Lat.Tr) : Prop := g < w.heap.size ∧ ∀ k (h : k < L.length), w.cell? ⟨g, k * 3, none⟩ = some (.int .i64 ((L[k]).1 : Int)) ∧ w.cell? ⟨g, k * 3 + 1, none⟩ = some (.int .i64 ((L[k]).2.1 : Int)) ∧ w.cell? ⟨g, k * 3 + 2, none⟩ = some (.int .i64 ((L[k]).2.2 : Int))
theorem TrIn.under {w w' : World} {g : Nat} {L : List Lat.Tr} (h : TrIn w g L) (hb : Below w.heap.size w w') : TrIn w' g L :=
  ⟨Nat.lt_of_lt_of_le h.1 hb.size, fun k hk => ⟨(hb.cell (p := ⟨g, k * 3, none⟩) h.1).trans (h.2 k hk).1, (hb.cell (p := ⟨g, k * 3 + 1, none⟩) h.1).trans (h.2 k hk).2.1, (hb.cell (p := ⟨g, k * 3 + 2, none⟩) h.1).trans (h.2 k hk).2.2⟩⟩
theorem tr_of_own {w : World} {base n g cap : Nat} {e : TypeId} {L : List Lat.Tr} (h : w.ownsRow base e 3 (.slice (some ⟨g, 0, none⟩) n cap) n (tcs L)) (hn : n = L.length) : TrIn w g L :=
  ⟨(own_heap h).2.1, fun k hk => by
    subst hn
    rw [h.cellAt (k * 3) (by omega), h.cellAt (k * 3 + 1) (by omega), h.cellAt (k * 3 + 2) (by omega)]
    exact tcs_at L k hk⟩
/-- Where the cells lie nothing is written: their block is none of the lists'. -/
theorem TrIn.links {w w' : World} {g a gc : Nat} {L : List Lat.Tr} (h : TrIn w gc L) (h1 : gc ≠ g) (h2 : gc ≠ g + 1 + a) (k : Fr g a w w') : TrIn w' gc L := by
  have e : ∀ j, w'.cell? ⟨gc, j, none⟩ = w.cell? ⟨gc, j, none⟩ := fun j => by
    unfold World.cell?
    simp only
    rw [k.2 gc h.1 h1 h2]
  exact ⟨Nat.lt_of_lt_of_le h.1 k.1, fun j hj => by rw [e, e, e]; exact h.2 j hj⟩
theorem Row.links {w w' : World} {g a b : Nat} {t : TypeId} {cs : Array Value} (h : Row w b t cs) (h1 : b ≠ g) (h2 : b ≠ g + 1 + a) (k : Fr g a w w') : Row w' b t cs := (k.2 b h.lt h1 h2).trans h
/-- What is known while the cells are gone through. -/
structure Lw (W : World) (n g gc : Nat) (P : List (Nat × Nat)) (w : World) : Prop where
  lk : Lk W n g (Lat.lk P) w
  tr : TrIn w gc (Lat.cls n 20)
  far : g + 1 + cn n ≤ gc
theorem Lw.under {W w w' : World} {n g gc : Nat} {P : List (Nat × Nat)} (h : Lw W n g gc P w) (hb : Below w.heap.size w w') : Lw W n g gc P w' := ⟨h.lk.under hb, h.tr.under hb, h.far⟩
theorem Lw.link {W w w' : World} {n g gc a : Nat} {P P' : List (Nat × Nat)} (h : Lw W n g gc P w) (ha : a < cn n) (k : Lk W n g (Lat.lk P') w' ∧ Fr g a w w') : Lw W n g gc P' w' :=
  have hf := h.far
  ⟨k.1, h.tr.links (by omega) (by omega) k.2, hf⟩
set_option maxRecDepth 100000 in
set_option maxHeartbeats 8000000 in
theorem links_any (n : Nat) (w : World) (hn : Lat.frq n) : Calls Tryz.prog 86 #[.int .i64 n] w (LinksR w n) := by
  have hc := cn_le hn
  have hc0 : 12 ≤ cn n := by
    rcases Lat.eight hn with rfl | rfl | rfl | rfl | rfl | rfl | rfl | rfl <;> decide
  have hmk := run_make_row' (P := Tryz.prog) 78 23 (.slice none 0 0) 24 Tryz.underlying78 infoList rfl .i64 .i64 (cn n) (by omega) (by omega)
  obtain ⟨i0, hi, hz0, hz1, hz2⟩ := info_parts infoInt0
  have hm6 : ∀ W : World, (Instr.makeSlice 23 (.int .i64 0) (.int .i64 6)).run Tryz.prog W = .ok (.slice (some ⟨W.heap.size, 0, none⟩) 0 6) (W.alloc (.cells (madeCells #[.int .i64 0] 6) 3)) := fun W => by
    have h := run_make (P := Tryz.prog) W 23 3 i0 (.int .i64 0) Tryz.underlying23 hi hz0 .i64 .i64 0 6 (by omega) (by omega) (by rw [hz2]; omega) (by omega)
    rw [hz1] at h
    exact h
  clear hi hz0 hz1 hz2
  have HN := Lib.hid hn; clear hn
  have M6 := Lib.hid hm6; clear hm6
  go_enter Tryz.func86, Tryz.ntmps86
  go_upto_region 2 with (go_at_call 110; refine (count_yes _ _ HN.out).mono ?_; rintro e w1 ⟨rfl, rfl⟩)
  refine forget (fun Y => L0 w n w.heap.size 0 Y) (L0.start w n) ?_
  clear hmk
  generalize hg : w.heap.size = g at *
  have HG := Lib.hid hg; clear hg
  rintro Y hY
  have M0 := Lib.hid hY; clear hY
  have hm6 := M6.out
  go_wp2_with fail
  go_loopw [17] (fun t wr => ∃ k : Nat, k ≤ cn n ∧ t = .int .i64 k ∧ L0 w n g k wr) (fun t _ => cn n - (intOf t).toNat)
  case atStart => exact ⟨0, by omega, rfl, M0.out⟩
  case round =>
    clear M0
    obtain ⟨k, hk, rfl, M⟩ := hrel
    by_cases hlt : k < cn n
    · have k0 : (0 : Int) ≤ (k : Int) := by omega
      have k1 : (k : Int) < (cn n : Int) := by omega
      obtain ⟨⟨v0, p0⟩, p1⟩ := M.row hlt (.cells (madeCells #[.int .i64 0] 6) 3)
      have HM := Lib.hid M; clear M
      go_wp2_with fail
      go_roundw
      case rel => exact ⟨k + 1, by omega, by go_num, HM.out.step hlt _ (size_madeCells _ _)⟩
      case measure => simp [intOf]; omega
    · have k1 : ¬ ((k : Int) < (cn n : Int)) := by omega
      obtain rfl : k = cn n := by omega
      have HM := Lib.hid M.fin; have HSZ := Lib.hid M.sz; clear M hm6 M6
      go_wp2_with fail
      refine (cellNodes_any _ _ HN.out).mono ?_
      rintro e w2 ⟨gc, cap, rfl, hb2, hown⟩
      have hlw : Lw w n g gc (ppre n 0) w2 := ⟨(by simpa [ppre] using HM.out.under hb2), tr_of_own hown rfl, by have := (own_heap hown).1; have := HSZ.out; omega⟩
      have hlen : (Lat.cls n 20).length ≤ 1280 := by
        rw [Lat.cls_len]
        have h8 := HN.out.2
        exact Nat.mul_le_mul (Nat.le_refl 20) (Nat.mul_le_mul h8 h8)
      have HL := Lib.hid hlw
      clear hb2 hown hlw HM HSZ k1 hk hlt
      go_wp2_with fail
      go_loopw [28] (fun t wr => ∃ j : Nat, j ≤ (Lat.cls n 20).length ∧ t = .int .i64 j ∧ Lw w n g gc (ppre n j) wr) (fun t _ => (Lat.cls n 20).length - (intOf t).toNat)
      case atStart => exact ⟨0, by omega, rfl, HL.out⟩
      case round =>
        clear HL
        obtain ⟨j, hj, rfl, M⟩ := hrel
        by_cases hlj : j < (Lat.cls n 20).length
        · have j0 : (0 : Int) ≤ (j : Int) := by omega
          have j1 : (j : Int) < ((Lat.cls n 20).length : Int) := by omega
          obtain ⟨c0, c1, c2⟩ := M.tr.2 j hlj
          have HPS := Lib.hid (ppre_succ hlj)
          have HSO := Lib.hid (fun m => some_app (n := n) (k := j) (j := m) hlj)
          have HMEM := Lib.hid (List.getElem_mem hlj)
          generalize (Lat.cls n 20)[j] = t at *
          obtain ⟨x, y, z⟩ := t
          simp only at c0 c1 c2
          obtain ⟨lx, ly, lz⟩ := Lat.cls_lt HN.out HMEM.out
          simp only at lx ly lz
          have HLX := Lib.hid (show x < cn n from lx)
          have HLY := Lib.hid (show y < cn n from ly)
          have HLZ := Lib.hid (show z < cn n from lz)
          clear lx ly lz
          have HPR := Lib.hid (fun p hp => Lat.pairs_mem.2 ⟨(x, y, z), HMEM.out, hp⟩ : ∀ p, (p : Nat × Nat) ∈ Lat.prs (x, y, z) → (p.1, p.2) ∈ Lat.pairs n)
          have HM := Lib.hid M; clear M
          go_upto_region 10 with fail
          refine forget (fun V => Lw w n g gc (ppre n j ++ (Lat.prs (x, y, z)).take 0) V ∧ Row V wr.heap.size 130 #[.int .i64 (x : Int), .int .i64 (y : Int), .int .i64 (z : Int)] ∧ g + 1 + cn n ≤ wr.heap.size) ⟨by simpa using HM.out.under ((Below.refl _ _).alloc (Nat.le_refl _) _), Row.new _ _ _, by have := HM.out.tr.1; have := HM.out.far; omega⟩ ?_
          clear HM c0 c1 c2
          generalize wr.heap.size = gx at *
          rintro V ⟨M, r, fx⟩
          have HFX := Lib.hid fx; clear fx
          obtain ⟨c0, c1, c2⟩ := row3 r
          have HM := Lib.hid M; clear M
          have HR := Lib.hid r; clear r
          have i0 : ∀ w, (Instr.index 130 (.agg #[.int .i64 (x : Int), .int .i64 (y : Int), .int .i64 (z : Int)]) (.int .i64 0)).run Tryz.prog w = .ok (.int .i64 (x : Int)) w := fun _ => by kernel_rfl
          have i1 : ∀ w, (Instr.index 130 (.agg #[.int .i64 (x : Int), .int .i64 (y : Int), .int .i64 (z : Int)]) (.int .i64 1)).run Tryz.prog w = .ok (.int .i64 (y : Int)) w := fun _ => by kernel_rfl
          have i2 : ∀ w, (Instr.index 130 (.agg #[.int .i64 (x : Int), .int .i64 (y : Int), .int .i64 (z : Int)]) (.int .i64 2)).run Tryz.prog w = .ok (.int .i64 (z : Int)) w := fun _ => by kernel_rfl
          go_wp2_with fail
          clear c0 c1 c2
          go_loopw [33] (fun t wr => ∃ m : Nat, m ≤ 3 ∧ t = .int .i64 m ∧ Lw w n g gc (ppre n j ++ (Lat.prs (x, y, z)).take (2 * m)) wr ∧ Row wr gx 130 #[.int .i64 (x : Int), .int .i64 (y : Int), .int .i64 (z : Int)]) (fun t _ => 3 - (intOf t).toNat)
          case atStart => exact ⟨0, by omega, rfl, HM.out, HR.out⟩
          case round =>
            clear HM HR
            obtain ⟨m, hm, rfl, M, r⟩ := hrel
            obtain ⟨c0, c1, c2⟩ := row3 r
            have HM := Lib.hid M; clear M
            have HR := Lib.hid r; clear r
            by_cases e0 : m = 0
            · obtain rfl : m = 0 := by omega
              go_wp2_with fail
              refine (link_any w n g x y (ppre n j ++ (Lat.prs (x, y, z)).take 0) _ HM.out.lk HN.out (HSO.out 0) (HPR.out (x, y) (by simp [Lat.prs])) HLX.out HLY.out).mono ?_
              rintro e w5 ⟨rfl, hlk5⟩
              have HM5 := Lib.hid (Lw.link (P' := ppre n j ++ (Lat.prs (x, y, z)).take 1) HM.out HLX.out (by have := hlk5; rw [List.append_assoc] at this; exact this))
              have HR5 := Lib.hid (HR.out.links (by have := HFX.out; omega) (by have := HFX.out; have := HLX.out; omega) hlk5.2)
              clear hlk5 HM HR c0 c1 c2
              go_wp2_with fail
              refine (link_any w n g y x (ppre n j ++ (Lat.prs (x, y, z)).take 1) _ HM5.out.lk HN.out (HSO.out 1) (HPR.out (y, x) (by simp [Lat.prs])) HLY.out HLX.out).mono ?_
              rintro e w6 ⟨rfl, hlk6⟩
              have HM6 := Lib.hid (Lw.link (P' := ppre n j ++ (Lat.prs (x, y, z)).take 2) HM5.out HLY.out (by have := hlk6; rw [List.append_assoc] at this; exact this))
              have HR6 := Lib.hid (HR5.out.links (by have := HFX.out; omega) (by have := HFX.out; have := HLY.out; omega) hlk6.2)
              clear hlk6 HM5 HR5
              go_wp2_with fail
              go_roundw
              case rel => exact ⟨1, by omega, by go_num, HM6.out, HR6.out⟩
              case measure => simp [intOf]
            by_cases e1 : m = 1
            · obtain rfl : m = 1 := by omega
              go_wp2_with fail
              refine (link_any w n g y z (ppre n j ++ (Lat.prs (x, y, z)).take 2) _ HM.out.lk HN.out (HSO.out 2) (HPR.out (y, z) (by simp [Lat.prs])) HLY.out HLZ.out).mono ?_
              rintro e w5 ⟨rfl, hlk5⟩
              have HM5 := Lib.hid (Lw.link (P' := ppre n j ++ (Lat.prs (x, y, z)).take 3) HM.out HLY.out (by have := hlk5; rw [List.append_assoc] at this; exact this))
              have HR5 := Lib.hid (HR.out.links (by have := HFX.out; omega) (by have := HFX.out; have := HLY.out; omega) hlk5.2)
              clear hlk5 HM HR c0 c1 c2
              go_wp2_with fail
              refine (link_any w n g z y (ppre n j ++ (Lat.prs (x, y, z)).take 3) _ HM5.out.lk HN.out (HSO.out 3) (HPR.out (z, y) (by simp [Lat.prs])) HLZ.out HLY.out).mono ?_
              rintro e w6 ⟨rfl, hlk6⟩
              have HM6 := Lib.hid (Lw.link (P' := ppre n j ++ (Lat.prs (x, y, z)).take 4) HM5.out HLZ.out (by have := hlk6; rw [List.append_assoc] at this; exact this))
              have HR6 := Lib.hid (HR5.out.links (by have := HFX.out; omega) (by have := HFX.out; have := HLZ.out; omega) hlk6.2)
              clear hlk6 HM5 HR5
              go_wp2_with fail
              go_roundw
              case rel => exact ⟨2, by omega, by go_num, HM6.out, HR6.out⟩
              case measure => simp [intOf]
            by_cases e2 : m = 2
            · obtain rfl : m = 2 := by omega
              go_wp2_with fail
              refine (link_any w n g z x (ppre n j ++ (Lat.prs (x, y, z)).take 4) _ HM.out.lk HN.out (HSO.out 4) (HPR.out (z, x) (by simp [Lat.prs])) HLZ.out HLX.out).mono ?_
              rintro e w5 ⟨rfl, hlk5⟩
              have HM5 := Lib.hid (Lw.link (P' := ppre n j ++ (Lat.prs (x, y, z)).take 5) HM.out HLZ.out (by have := hlk5; rw [List.append_assoc] at this; exact this))
              have HR5 := Lib.hid (HR.out.links (by have := HFX.out; omega) (by have := HFX.out; have := HLZ.out; omega) hlk5.2)
              clear hlk5 HM HR c0 c1 c2
              go_wp2_with fail
              refine (link_any w n g x z (ppre n j ++ (Lat.prs (x, y, z)).take 5) _ HM5.out.lk HN.out (HSO.out 5) (HPR.out (x, z) (by simp [Lat.prs])) HLX.out HLZ.out).mono ?_
              rintro e w6 ⟨rfl, hlk6⟩
              have HM6 := Lib.hid (Lw.link (P' := ppre n j ++ (Lat.prs (x, y, z)).take 6) HM5.out HLX.out (by have := hlk6; rw [List.append_assoc] at this; exact this))
              have HR6 := Lib.hid (HR5.out.links (by have := HFX.out; omega) (by have := HFX.out; have := HLX.out; omega) hlk6.2)
              clear hlk6 HM5 HR5
              go_wp2_with fail
              go_roundw
              case rel => exact ⟨3, by omega, by go_num, HM6.out, HR6.out⟩
              case measure => simp [intOf]
            obtain rfl : m = 3 := by omega
            have HM' : Hid (Lw w n g gc (ppre n (j + 1)) wr) := Lib.hid (by have := HM.out; rw [HPS.out]; exact this)
            clear HM HR c0 c1 c2 i0 i1 i2
            go_wp2_with fail
            go_roundw
            case rel => exact ⟨j + 1, by omega, by go_num, HM'.out⟩
            case measure => simp [intOf]; omega
        · have j1 : ¬ ((j : Int) < ((Lat.cls n 20).length : Int)) := by omega
          have hje : j = (Lat.cls n 20).length := by omega
          have hM : Lk w n g (srtd n 0) wr := by
            have := M.lk
            rw [hje, ppre_all] at this
            exact this.same (fun i => by unfold srtd; rw [if_neg (Nat.not_lt_zero _)])
          have HM := Lib.hid hM; clear M hM hje
          go_wp2_with fail
          clear j1 hj hlj hlen
          go_loopw [54] (fun t wr => ∃ k : Nat, k ≤ cn n ∧ t = .int .i64 k ∧ Lk w n g (srtd n k) wr) (fun t _ => cn n - (intOf t).toNat)
          case atStart => exact ⟨0, by omega, rfl, HM.out⟩
          case round =>
            clear HM
            obtain ⟨k, hk, rfl, M⟩ := hrel
            by_cases hlt : k < cn n
            · have k0 : (0 : Int) ≤ (k : Int) := by omega
              have k1 : (k : Int) < (cn n : Int) := by omega
              obtain ⟨p0, p1⟩ := M.row hlt
              have HLN := Lib.hid (show (srtd n k k).length ≤ 6 by unfold srtd; rw [if_neg (Nat.lt_irrefl k)]; exact Lat.lk_len HN.out hlt (fun p hp => hp))
              have HM := Lib.hid M; clear M
              go_wp2_with fail
              refine (sortI_any _ w.heap.size (g + 1 + k) 6 (srtd n k k) (HM.out.rws k hlt) (by have := HLN.out; omega)).mono ?_
              rintro e w7 hs
              obtain ⟨rfl, hM7⟩ := HM.out.sorted HN.out hlt hs
              have HM7 := Lib.hid hM7; clear hM7 hs HM p0 p1
              go_wp2_with fail
              go_roundw
              case rel => exact ⟨k + 1, by omega, by go_num, HM7.out⟩
              case measure => simp [intOf]; omega
            · have k1 : ¬ ((k : Int) < (cn n : Int)) := by omega
              obtain rfl : k = cn n := by omega
              have hM : Lk w n g (Lat.nbs n) wr ∨ True := .inr trivial
              have HM := Lib.hid M; clear M hM
              go_wp2_with fail
              go_ret
              obtain ⟨cs, h1, h2, h3⟩ := HM.out.tab
              refine ⟨g, cn n, rfl, Nat.le_refl _, by omega, HM.out.below, by have := HG.out; omega, ?_, fun i hi => ⟨g + 1 + i, 6, by rw [(h1.cell i).trans (h3 i hi), show srtd n (cn n) i = Lat.nbs n i from if_pos hi], by have := HG.out; omega⟩⟩
              refine ⟨h1.lt, fun i hi => ⟨_, (h1.cell i).trans (h3 i hi), g + 1 + i, 6, ?_, ?_, by omega, ?_⟩⟩
              · rw [show srtd n (cn n) i = Lat.nbs n i from if_pos hi]
              · exact Lat.nbs_len HN.out hi
              · have := HM.out.lst hi
                rw [show srtd n (cn n) i = Lat.nbs n i from if_pos hi] at this
                exact this
end Go.Proofs.YtejoabaanclcbaaGreat


