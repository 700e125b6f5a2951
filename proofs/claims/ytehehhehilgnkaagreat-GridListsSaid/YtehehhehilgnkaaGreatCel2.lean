/- The contract of Cells: the walk. -/
import Derived.Test.YtehehhehilgnkaaGreatCels
import Derived.Test.YtehehhehilgnkaaGreatMgg
namespace Go.Proofs.YtehehhehilgnkaaGreat
open Go.RowKit Go.Maps Go.Shelf Go.Sort

def SortER (W : World) (e0 : TypeId) (base g cap : Nat) (l : List Nat) (e : Ending) (w : World) : Prop := e = .returned (.tuple #[]) ∧ W.grownBy w (some g) ∧ w.ownsRow base e0 1 (.slice (some ⟨g, 0, none⟩) l.length cap) l.length (((zs l).mergeSort fun x y => decide (x ≤ y)).map (Value.int .i64))
theorem sortE_any (w : World) (e0 : TypeId) (base g cap : Nat) (l : List Nat) (h : w.ownsRow base e0 1 (.slice (some ⟨g, 0, none⟩) l.length cap) l.length (zc l)) (hl : l.length ≤ 1000000) : Calls Tryz.prog 20 #[.slice (some ⟨g, 0, none⟩) l.length cap] w (SortER w e0 base g cap l) := by
  rcases h.2 with ⟨h0, _⟩ | ⟨g', cap', cur, hv, hg, hb, hn, hcap, hs, ht⟩
  · cases h0
  · injection hv with hv h2 h3
    injection hv with hv
    injection hv with hv
    subst hv h3
    have ht' : cur.toList.take (zs l).length = (zs l).map (Value.int .i64) := by rw [zs_len, ← zc_zs]; simpa using ht
    have hcon := AnyM.slices_Sort_int Tryz.sortInt g 0 cap (zs l) w (holds_of_blockI hb ht') (Array.getElem?_eq_some_iff.1 hb).1 (by rw [zs_len]; omega)
    rw [zs_len] at hcon
    refine Calls.mono hcon ?_
    rintro e w' ⟨rfl, q, os, rfl⟩
    refine ⟨rfl, grownBy_sortedI _, ?_⟩
    have := ownsRow_sortedI (n := q) (os := os) (base := base) (ss := zs l) (ts := (zs l).mergeSort fun x y => decide (x ≤ y)) (List.length_mergeSort _) hg hb (by rw [zs_len]; exact hn) hcap hs
    rw [zs_len] at this
    exact this
theorem sort3 (t : Lat.Tr) : (zs [t.1, t.2.1, t.2.2]).mergeSort (fun x y => decide (x ≤ y)) = zs [(Lat.scell t).1, (Lat.scell t).2.1, (Lat.scell t).2.2] := by
  obtain ⟨x, y, z, e, h1, h2, hp⟩ := Lat.scell_cases t
  rw [e]
  have hq := (List.mergeSort_perm (zs [t.1, t.2.1, t.2.2]) (fun x y => decide (x ≤ y))).trans (hp.map (fun x : Nat => (x : Int)))
  have hs := List.pairwise_mergeSort (le := fun x y : Int => decide (x ≤ y)) (fun a b c h1 h2 => decide_eq_true (Int.le_trans (of_decide_eq_true h1) (of_decide_eq_true h2))) (fun a b => by simp only [Bool.or_eq_true, decide_eq_true_eq]; omega) (zs [t.1, t.2.1, t.2.2])
  refine hq.eq_of_pairwise (le := fun x y : Int => x ≤ y) (fun _ _ _ _ h1 h2 => Int.le_antisymm h1 h2) (hs.imp (fun h => of_decide_eq_true h)) ?_
  simp [zs]
  omega
/-- What is known while the cells are sorted one by one. -/
structure Ce (W : World) (n gc k : Nat) (v : Value) (w : World) : Prop where
  below : Below W.heap.size W w
  own : w.ownsRow W.heap.size 34 3 v k (tcs (((Lat.cls n 20).take k).map Lat.scell))
  tr : TrIn w gc (Lat.cls n 20)
  ne : v.ownBlock ≠ some gc
theorem Ce.under {W w w' : World} {n gc k : Nat} {v : Value} (h : Ce W n gc k v w) (hb : Below w.heap.size w w') : Ce W n gc k v w' := ⟨h.below.trans (hb.mono h.below.size), own_under h.own hb, h.tr.under hb, h.ne⟩
theorem TrIn.grown {w w' : World} {g : Nat} {r : Option Nat} {L : List Lat.Tr} (h : TrIn w g L) (hb : w.grownBy w' r) (hr : some g ≠ r) : TrIn w' g L :=
  ⟨Nat.lt_of_lt_of_le h.1 hb.size, fun k hk => ⟨(hb.cell_far ⟨g, k * 3, none⟩ h.1 hr).trans (h.2 k hk).1, (hb.cell_far ⟨g, k * 3 + 1, none⟩ h.1 hr).trans (h.2 k hk).2.1, (hb.cell_far ⟨g, k * 3 + 2, none⟩ h.1 hr).trans (h.2 k hk).2.2⟩⟩
/-- A turn in a block that is newer. -/
theorem Ce.aside {W w w' : World} {n gc k gx : Nat} {v : Value} (h : Ce W n gc k v w) (hg : (w.alloc (.cells #[] 0)).heap.size = w.heap.size + 1) (hx : gx = w.heap.size) (o : Obj) (hgr : (w.alloc o).grownBy w' (some gx)) : Ce W n gc k v w' := by
  have a := h.under ((Below.refl _ _).alloc (Nat.le_refl _) o)
  have hl := h.tr.1
  refine ⟨below_by a.below a.below.size (by have := h.below.size; omega) hgr, a.own.kept hgr ?_, a.tr.grown hgr (fun e => by have := Option.some.inj e; omega), h.ne⟩
  cases hv : v.ownBlock with
  | none => exact .inl rfl
  | some b => exact .inr (fun e => by have := (h.own.lt b hv).2; have := Option.some.inj e; omega)
theorem Ce.more {W w w' : World} {n gc k g' cap' : Nat} {v : Value} {a b c : Int} (h : Ce W n gc k v w) (ho : w'.ownsRow W.heap.size 34 3 (.slice (some ⟨g', 0, none⟩) (k + 1) cap') (k + 1) (tcs (((Lat.cls n 20).take (k + 1)).map Lat.scell))) (hg : (w.alloc (.cells #[.int .i64 a, .int .i64 b, .int .i64 c] 34)).grownBy w' v.ownBlock) (hat : v.ownBlock = some g' ∨ g' = (w.alloc (.cells #[.int .i64 a, .int .i64 b, .int .i64 c] 34)).heap.size) : Ce W n gc (k + 1) (.slice (some ⟨g', 0, none⟩) (k + 1) cap') w' :=
  have hx : Below w.heap.size w (w.alloc (.cells #[.int .i64 a, .int .i64 b, .int .i64 c] 34)) := (Below.refl _ _).alloc (Nat.le_refl _) _
  have q := h.under hx
  ⟨below_own q.below q.below.size q.own hg, ho, q.tr.grown hg (fun e => h.ne e.symm), own_apart h.tr.1 h.ne hat hx.size⟩
theorem take_map_succ {n k : Nat} (hk : k < (Lat.cls n 20).length) : ((Lat.cls n 20).take (k + 1)).map Lat.scell = ((Lat.cls n 20).take k).map Lat.scell ++ [Lat.scell (Lat.cls n 20)[k]] := by
  rw [List.take_succ_eq_append_getElem hk, List.map_append]; rfl
/-- What Cells leaves. -/
def CelR (W : World) (n : Nat) (e : Ending) (w : World) : Prop := ∃ g cap L, e = .returned (.tuple #[.slice (some ⟨g, 0, none⟩) L.length cap, .int .i64 0]) ∧ L.length ≤ cap ∧ cap ≤ 9223372036854775807 ∧ Below W.heap.size W w ∧ W.heap.size ≤ g ∧ TrIn w g L ∧ Lat.IsCels (Lat.cls n 20) L
theorem cells_no (n : Int) (w : World) (hn : ¬ (1 ≤ n ∧ n ≤ 8)) : Calls Tryz.prog 7 #[.int .i64 n] w fun e w' => e = .returned (.tuple #[.slice none 0 0, .int .i64 1]) ∧ w = w' := by
  have HN := Lib.hid hn; clear hn
  go_enter Tryz.func7, Tryz.ntmps7
  go_wp2_with fail
  refine (isFrequency_no _ _ HN.out).mono ?_
  rintro e w1 ⟨rfl, rfl⟩
  go_wp2_with fail
  go_ret2
  exact ⟨rfl, rfl⟩
theorem infoCell : (Tryz.prog.info? 34).map (fun i => (i.zero, i.size, i.bytes)) = some (some (.agg #[.int .i64 0, .int .i64 0, .int .i64 0]), 3, 24) := by kernel_rfl
set_option maxRecDepth 100000 in
set_option maxHeartbeats 8000000 in
theorem cells_yes (n : Nat) (w : World) (hn : Lat.frq n) : Calls Tryz.prog 7 #[.int .i64 n] w (CelR w n) := by
  have hn8 : n ≤ 8 := hn.2
  obtain ⟨i0, hi, hz0, hz1, hz2⟩ := info_parts infoCell
  have hm : 20 * n * n ≤ 1280 := by
    rw [Nat.mul_assoc]
    exact Nat.mul_le_mul (Nat.le_refl 20) (Nat.mul_le_mul hn8 hn8)
  have hm1 : 20 * (n : Int) * (n : Int) ≤ 1280 := by
    have : ((20 * n * n : Nat) : Int) ≤ 1280 := by omega
    exact this
  have hm0 : 0 ≤ 20 * (n : Int) * (n : Int) := by
    have : (0 : Int) ≤ ((20 * n * n : Nat) : Int) := by omega
    exact this
  have hlen : (Lat.cls n 20).length ≤ 1280 := by
    rw [Lat.cls_len]
    exact Nat.mul_le_mul (Nat.le_refl 20) (Nat.mul_le_mul hn8 hn8)
  have hlen1 : 0 < (Lat.cls n 20).length := by
    rw [Lat.cls_len]
    exact Nat.mul_pos (by omega) (Nat.mul_pos hn.1 hn.1)
  have hn0 : 1 ≤ (n : Int) ∧ (n : Int) ≤ 8 := by unfold Lat.frq at hn; omega
  obtain ⟨hn1, hn2⟩ := hn0
  have HN := Lib.hid hn; clear hn
  go_enter Tryz.func7, Tryz.ntmps7
  go_wp2_with fail
  refine (isFrequency_yes _ _ HN.out).mono ?_
  rintro e w1 ⟨rfl, rfl⟩
  go_upto_region 4 with (at_make; refine wpList_make_own _ rfl _ _ 28 rfl w.heap.size 34 i0 _ 3 Tryz.underlying28 hi hz0 hz1 .i64 .i64 _ (20 * n * n) rfl rfl rfl (by rw [hz2]; omega) (by unfold maxLen; omega) (Nat.le_refl _) ?_; intro w2 hown2 hgrow2)
  have b2 := below_new0 hgrow2
  have hsz := (own_heap hown2).2.1
  have HO := Lib.hid (And.intro hown2 (And.intro b2 hsz)); clear hown2 b2 hsz hgrow2 hm hm0 hm1
  go_wp2_with fail
  refine (cellNodes_any _ _ HN.out).mono ?_
  rintro e w3 ⟨gc, cap3, rfl, hb3, hown3⟩
  have hCe : Ce w n gc 0 (.slice (some ⟨w.heap.size, 0, none⟩) 0 (20 * n * n)) w3 := ⟨HO.out.2.1.trans (hb3.mono HO.out.2.1.size), by simpa [tcs] using own_under HO.out.1 hb3, tr_of_own hown3 rfl, by
    have := (own_heap hown3).1
    have := HO.out.2.2
    simp [Value.ownBlock]; omega⟩
  have HM := Lib.hid hCe
  clear hCe hb3 hown3 HO
  go_wp2_with fail
  go_loopw [4, 18] (fun v t wr => ∃ k : Nat, k ≤ (Lat.cls n 20).length ∧ t = .int .i64 k ∧ Ce w n gc k v wr) (fun _ t _ => (Lat.cls n 20).length - (intOf t).toNat)
  case atStart => exact ⟨0, by omega, rfl, HM.out⟩
  case round =>
    clear HM
    obtain ⟨k, hk, rfl, M⟩ := hrel
    by_cases hlt : k < (Lat.cls n 20).length
    · have k0 : (0 : Int) ≤ (k : Int) := by omega
      have k1 : (k : Int) < ((Lat.cls n 20).length : Int) := by omega
      obtain ⟨c0, c1, c2⟩ := M.tr.2 k hlt
      have HTS := Lib.hid (take_map_succ hlt)
      have HS3 := Lib.hid (sort3 (Lat.cls n 20)[k])
      generalize (Lat.cls n 20)[k] = t at *
      obtain ⟨x, y, z⟩ := t
      simp only at c0 c1 c2
      generalize Lat.scell (x, y, z) = sc at *
      obtain ⟨a, b, c⟩ := sc
      have HM := Lib.hid M; clear M
      have HO := Lib.hid (World.ownsRow_lit (e := 57) (base := wr.heap.size) (size := 1) wr #[.int .i64 (x : Int), .int .i64 (y : Int), .int .i64 (z : Int)] 3 (Nat.le_refl _) (by decide) rfl)
      go_wp2_with fail
      clear c0 c1 c2
      refine (sortE_any _ 57 wr.heap.size wr.heap.size 3 [x, y, z] HO.out (by simp)).mono ?_
      rintro e w5 ⟨rfl, hg5, ho5⟩
      have HC := Lib.hid (HM.out.aside (by simp) rfl _ hg5)
      rw [HS3.out] at ho5
      have hlt5 := (own_heap ho5).2.1
      obtain ⟨d0, d1, d2⟩ : w5.cell? ⟨wr.heap.size, 0, none⟩ = some (.int .i64 (a : Int)) ∧ w5.cell? ⟨wr.heap.size, 1, none⟩ = some (.int .i64 (b : Int)) ∧ w5.cell? ⟨wr.heap.size, 2, none⟩ = some (.int .i64 (c : Int)) := by
        have e0 := ho5.cellAt 0 (by simp)
        have e1 := ho5.cellAt 1 (by simp)
        have e2 := ho5.cellAt 2 (by simp)
        exact ⟨e0, e1, e2⟩
      clear hg5 ho5 HO HM
      generalize wr.heap.size = gx at *
      have HO := Lib.hid (HC.out.own.alloc (.cells #[.int .i64 (a : Int), .int .i64 (b : Int), .int .i64 (c : Int)] 34))
      have HX := Lib.hid (World.news_of_block (cs := #[.int .i64 (a : Int), .int .i64 (b : Int), .int .i64 (c : Int)]) (t := 34) (fr := (0, 0)) (heap_alloc_new w5 _))
      go_wp2_with (at_builtin; refine wpList_append_lies _ rfl (.tmp 24) (.tmp 32) 28 rfl w.heap.size 34 i0 _ 3 24 Tryz.underlying28 hi hz0 hz1 hz2 rfl (by decide) «u4» k (tcs (((Lat.cls n 20).take k).map Lat.scell)) rfl HO.out ⟨w5.heap.size, 0, none⟩ 1 1 (tc (a, b, c)) rfl rfl HX.out (tc_one _) (by omega) (by unfold maxLen; omega) (by omega) (by have := HC.out.below.size; simp; omega) _ rfl ?_; intro g' cap' w6 hown6 hgrow6 hat6 hlt6; have H6 := Lib.hid (HC.out.more (k := k) (by rw [HTS.out, tcs_snoc]; exact hown6) hgrow6 hat6); clear hown6 hgrow6 hat6 hlt6 HO HX HC d0 d1 d2 hlt5)
      go_wp2_with fail
      go_roundw
      case rel => exact ⟨k + 1, by omega, by go_num, H6.out⟩
      case measure => simp [intOf]; omega
    · have k1 : ¬ ((k : Int) < ((Lat.cls n 20).length : Int)) := by omega
      have hke : k = (Lat.cls n 20).length := by omega
      have hl : (((Lat.cls n 20).take k).map Lat.scell).length = k := by simp; omega
      have hown := M.own
      rcases hown.2 with ⟨_, h0⟩ | ⟨g, cap, cur, hv, hge, hh, hle, hmax, hsz, htk⟩
      · omega
      · subst hv
        have hT := tr_of_own hown hl.symm
        have hF : ∀ j, wr.frozen? ⟨g, j, none⟩ = false := fun j => (show Row wr g _ cur from hh).thaw j
        have hI : ∀ L', L'.Perm (((Lat.cls n 20).take k).map Lat.scell) → L'.Pairwise Lat.cle → Lat.IsCels (Lat.cls n 20) L' := fun L' p q => ⟨by rw [hke, List.take_length] at p; exact p, q⟩
        have HB := Lib.hid M.below
        have HI := Lib.hid (And.intro hI (And.intro hge hmax))
        have HQ := Lib.hid (sortC_any wr g cap _ hT hF (by rw [hl]; omega))
        generalize hE : ((Lat.cls n 20).take k).map Lat.scell = E at *
        clear hE M hown hT hF hI hh hsz htk hke
        have HL := Lib.hid hl; clear hl
        have HQ := HQ.out
        rw [HL.out] at HQ
        have HQ := Lib.hid HQ
        go_wp2_with fail
        refine HQ.out.mono ?_
        rintro e w7 ⟨rfl, hg7, L', p1, p2, p3⟩
        have e7 : L'.length = k := by rw [p1.length_eq, HL.out]
        have HR := Lib.hid (And.intro (below_by HB.out HB.out.size HI.out.2.1 hg7) (And.intro p3 (HI.out.1 L' p1 p2)))
        clear hg7 p1 p2 p3 HQ HL
        subst e7
        go_wp2_with fail
        go_ret2
        exact ⟨g, cap, L', rfl, hle, by have := HI.out.2.2; unfold maxLen at this; omega, HR.out.1, HI.out.2.1, HR.out.2.1, HR.out.2.2⟩
end Go.Proofs.YtehehhehilgnkaaGreat

