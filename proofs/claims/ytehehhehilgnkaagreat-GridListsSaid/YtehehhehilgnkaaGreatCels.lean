/- The contract of Cells. -/
import Derived.Test.YtehehhehilgnkaaGreatLks
import Derived.Test.YtehehhehilgnkaaGreatCelM
import Derived.Test.YtehehhehilgnkaaGreatShelfC
import Derived.Shelf.SlSortCmp.NoneTotal
import Derived.Test.YtehehhehilgnkaaGreatHop
namespace Go.Proofs.YtehehhehilgnkaaGreat
open Go.RowKit Go.Maps Go.Shelf Go.Sort Go.Lib

/-- The comparison of two numbers, and of the first of three that differ. -/
def cmpI (x y : Int) : Int := if x < y then -1 else if y < x then 1 else 0
def or3 (a b c : Int) : Int := if a ≠ 0 then a else if b ≠ 0 then b else c
def cf3 (s t : Lat.Tr) : Int := or3 (cmpI s.1 t.1) (cmpI s.2.1 t.2.1) (cmpI s.2.2 t.2.2)
theorem cf3_less (s t : Lat.Tr) : cf3 s t < 0 ↔ ¬ Lat.cle t s := by
  obtain ⟨a, b, c⟩ := s
  obtain ⟨x, y, z⟩ := t
  unfold cf3 or3 cmpI Lat.cle
  simp only
  by_cases h1 : (a : Int) < x
  · rw [if_pos h1]; simp; omega
  · by_cases h2 : (x : Int) < a
    · rw [if_neg h1, if_pos h2]; simp; omega
    · rw [if_neg h1, if_neg h2]
      simp only [ne_eq, not_true_eq_false, if_false]
      by_cases h3 : (b : Int) < y
      · rw [if_pos h3]; simp; omega
      · by_cases h4 : (y : Int) < b
        · rw [if_neg h3, if_pos h4]; simp; omega
        · rw [if_neg h3, if_neg h4]
          simp only [not_true_eq_false, if_false]
          by_cases h5 : (c : Int) < z
          · rw [if_pos h5]; simp; omega
          · by_cases h6 : (z : Int) < c
            · rw [if_neg h5, if_pos h6]; simp; omega
            · rw [if_neg h5, if_neg h6]; simp; omega
theorem lt3 (s t : Lat.Tr) : ltOf cf3 s t = true ↔ ¬ Lat.cle t s := by
  unfold ltOf
  rw [decide_eq_true_eq, cf3_less]
theorem lt3n (s t : Lat.Tr) : ltOf cf3 s t = false ↔ Lat.cle t s := by
  rw [← Bool.not_eq_true, lt3, Classical.not_not]
theorem swo3 : SWO (ltOf cf3) where
  irrefl x := (lt3n x x).2 (Lat.cle_refl x)
  trans x y z h1 h2 := by
    rw [lt3] at *
    exact fun h => h1 (Lat.cle_trans ((Lat.cle_total z y).resolve_left h2) h |> fun k => (Lat.cle_total y x).elim id (fun q => absurd (Lat.cle_trans h q) h2))
  ntrans x y z h1 h2 := by
    rw [lt3n] at *
    exact Lat.cle_trans h2 h1
theorem isNaN_int (x : Int) (w : World) : Calls Tryz.prog 44 #[.int .i64 x] w fun e w' => e = .returned (.bool false) ∧ w' = w := by
  go_enter Tryz.func44, Tryz.ntmps44
  go_wp2
  go_ret
  exact ⟨rfl, rfl⟩
set_option maxHeartbeats 400000 in
theorem cmpI_any (x y : Int) (w : World) : Calls Tryz.prog 24 #[.int .i64 x, .int .i64 y] w fun e w' => e = .returned (.int .i64 (cmpI x y)) ∧ w' = w := by
  by_cases h1 : x < y
  · have H := Lib.hid (show cmpI x y = -1 from if_pos h1)
    go_enter Tryz.func24, Tryz.ntmps24
    go_wp2_with (go_at_call 44; refine (isNaN_int _ _).mono ?_; rintro e w1 ⟨rfl, rfl⟩)
    go_ret
    exact ⟨ret_i64 (by rw [H.out]), rfl⟩
  · by_cases h2 : y < x
    · have H := Lib.hid (show cmpI x y = 1 by unfold cmpI; rw [if_neg h1, if_pos h2])
      go_enter Tryz.func24, Tryz.ntmps24
      go_wp2_with (go_at_call 44; refine (isNaN_int _ _).mono ?_; rintro e w1 ⟨rfl, rfl⟩)
      go_ret
      exact ⟨ret_i64 (by rw [H.out]), rfl⟩
    · have H := Lib.hid (show cmpI x y = 0 by unfold cmpI; rw [if_neg h1, if_neg h2])
      go_enter Tryz.func24, Tryz.ntmps24
      go_wp2_with (go_at_call 44; refine (isNaN_int _ _).mono ?_; rintro e w1 ⟨rfl, rfl⟩)
      go_ret
      exact ⟨ret_i64 (by rw [H.out]), rfl⟩
/-- The first number of a list that is not 0. -/
def orL : List Int → Int
  | [] => 0
  | x :: r => if x ≠ 0 then x else orL r
theorem orL_zero : ∀ (L : List Int) (k : Nat), (∀ j (h : j < L.length), j < k → L[j] = 0) → orL L = orL (L.drop k)
  | [], k, _ => by simp
  | x :: r, 0, _ => rfl
  | x :: r, k + 1, h => by
    have h0 : x = 0 := h 0 (by simp) (by omega)
    rw [List.drop_succ_cons, ← orL_zero r k fun j hj hk => (h (j + 1) (by simp; omega) (by omega) : (x :: r)[j + 1]'(by simp; omega) = 0)]
    subst h0; simp [orL]
theorem orL3 (x y z : Int) : orL [x, y, z] = or3 x y z := by
  unfold or3
  simp only [orL]
  by_cases h1 : x ≠ 0
  · rw [if_pos h1, if_pos h1]
  · rw [if_neg h1, if_neg h1]
    by_cases h2 : y ≠ 0
    · rw [if_pos h2, if_pos h2]
    · rw [if_neg h2, if_neg h2]
      by_cases h3 : z ≠ 0
      · rw [if_pos h3]
      · rw [if_neg h3]; omega
set_option maxHeartbeats 400000 in
theorem or_any (g : Nat) (L : List Int) (w : World) (hc : ∀ i (h : i < L.length), w.cell? ⟨g, i, none⟩ = some (.int .i64 L[i])) (hl : L.length ≤ 10) :
    Calls Tryz.prog 23 #[.slice (some ⟨g, 0, none⟩) L.length L.length] w fun e w' => e = .returned (.int .i64 (orL L)) ∧ w' = w := by
  have HC := Lib.hid hc; clear hc
  go_enter Tryz.func23, Tryz.ntmps23
  go_wp2
  go_loop [5, 8] (fun u i => ∃ k : Nat, k ≤ L.length ∧ i = .int .i64 k ∧ ∀ j (h : j < L.length), j < k → L[j] = 0) (fun _ i => L.length - (intOf i).toNat)
  case atStart => exact ⟨0, Nat.zero_le _, rfl, fun j _ h => absurd h (Nat.not_lt_zero _)⟩
  case round =>
    obtain ⟨k, hk, rfl, hz⟩ := hrel
    have HZ := Lib.hid hz; clear hz
    by_cases hlt : k < L.length
    · have c0 := HC.out k hlt
      have HD := Lib.hid (show L.drop k = L[k] :: L.drop (k + 1) from List.drop_eq_getElem_cons hlt)
      have HK := Lib.hid (show L[k] = 0 → ∀ j (h : j < L.length), j < k + 1 → L[j] = 0 from fun h0 j hj hjk => by
        by_cases e : j = k
        · subst e; exact h0
        · exact HZ.out j hj (by omega))
      have HO := Lib.hid (orL_zero L k HZ.out)
      generalize hx : L[k] = x at *
      by_cases h0 : x = 0
      · have HX := Lib.hid hx; clear hx
        have HY := Lib.hid (HK.out h0)
        subst h0
        go_wp2
        go_round
        case rel => exact ⟨k + 1, by omega, by go_num, HY.out⟩
        case measure => simp [intOf]; omega
      · have HX := Lib.hid hx; clear hx
        have q : (x != 0) = true := by rw [bne_iff_ne]; exact h0
        have HR := Lib.hid (show orL L = x by rw [HO.out, HD.out]; unfold orL; rw [if_pos h0])
        clear h0
        go_wp2
        go_ret
        exact ⟨ret_i64 (by rw [HR.out]), rfl⟩
    · have HR := Lib.hid (show orL L = 0 by rw [orL_zero L k HZ.out, List.drop_eq_nil_of_le (by omega)]; rfl)
      go_wp2
      go_ret
      exact ⟨ret_i64 (by rw [HR.out]), rfl⟩
theorem or3_any (g : Nat) (x y z : Int) (w : World) (h : Row w g 3 #[.int .i64 x, .int .i64 y, .int .i64 z]) :
    Calls Tryz.prog 23 #[.slice (some ⟨g, 0, none⟩) 3 3] w fun e w' => e = .returned (.int .i64 (or3 x y z)) ∧ w' = w := by
  have := or_any g [x, y, z] w (fun i hi => by
    rcases (by simp at hi; omega : i = 0 ∨ i = 1 ∨ i = 2) with rfl | rfl | rfl
    · exact (h.cell 0).trans rfl
    · exact (h.cell 1).trans rfl
    · exact (h.cell 2).trans rfl) (by simp)
  rw [orL3] at this
  exact this
/-- A cell as the sort sees it. -/
def encT (t : Lat.Tr) : List Value := [.int .i64 (t.1 : Int), .int .i64 (t.2.1 : Int), .int .i64 (t.2.2 : Int)]
/-- Blocks more, draws more. -/
def Gw (W w : World) : Prop := ∃ q os, w = grow (W.drewN q) os
theorem Gw.alloc {W w : World} (h : Gw W w) (o : Obj) : Gw W (w.alloc o) := by
  obtain ⟨q, os, rfl⟩ := h
  exact ⟨q, _, by rw [alloc_eq_grow, grow_grow]⟩
theorem Gw.drew {W w : World} (h : Gw W w) : Gw W w.drew := by
  obtain ⟨q, os, rfl⟩ := h
  exact ⟨q + 1, os, rfl⟩
set_option maxRecDepth 100000 in
set_option maxHeartbeats 4000000 in
theorem less3_any (s t : Lat.Tr) (W : World) : Calls Tryz.prog 22 #[.agg #[.int .i64 (s.1 : Int), .int .i64 (s.2.1 : Int), .int .i64 (s.2.2 : Int)], .agg #[.int .i64 (t.1 : Int), .int .i64 (t.2.1 : Int), .int .i64 (t.2.2 : Int)]] W fun e w' => e = .returned (.int .i64 (cf3 s t)) ∧ Gw W w' := by
  obtain ⟨a, b, c⟩ := s
  obtain ⟨x, y, z⟩ := t
  have HE := Lib.hid (show cf3 (a, b, c) (x, y, z) = or3 (cmpI a x) (cmpI b y) (cmpI c z) from rfl)
  rw [HE.out]
  clear HE
  show Calls Tryz.prog 22 #[.agg #[.int .i64 (a : Int), .int .i64 (b : Int), .int .i64 (c : Int)], .agg #[.int .i64 (x : Int), .int .i64 (y : Int), .int .i64 (z : Int)]] W _
  go_enter Tryz.func22, Tryz.ntmps22
  go_upto_region 1 with fail
  refine forget (fun Y => Gw W Y ∧ Row Y W.heap.size 34 #[.int .i64 (a : Int), .int .i64 (b : Int), .int .i64 (c : Int)] ∧ Row Y (W.heap.size + 1) 34 #[.int .i64 (x : Int), .int .i64 (y : Int), .int .i64 (z : Int)]) ⟨⟨0, _, by rw [alloc_eq_grow, alloc_eq_grow, grow_grow]; rfl⟩, (Row.new _ _ _).alloc _, Row.newAt (by simp)⟩ ?_
  rintro Y ⟨gY, r0, r1⟩
  obtain ⟨c0, c1, c2⟩ := row3 r0
  obtain ⟨d0, d1, d2⟩ := row3 r1
  have h0 := r0.lt
  have h1 := r1.lt
  have G := Lib.hid gY
  clear r0 r1 gY
  go_region_held3 (fun w' => (w'.cell? ⟨W.heap.size, 0, none⟩ = some (.int .i64 (a : Int)) ∧ w'.cell? ⟨W.heap.size, 1, none⟩ = some (.int .i64 (b : Int)) ∧ w'.cell? ⟨W.heap.size, 2, none⟩ = some (.int .i64 (c : Int))) ∧ w'.cell? ⟨W.heap.size + 1, 0, none⟩ = some (.int .i64 (x : Int)) ∧ w'.cell? ⟨W.heap.size + 1, 1, none⟩ = some (.int .i64 (y : Int)) ∧ w'.cell? ⟨W.heap.size + 1, 2, none⟩ = some (.int .i64 (z : Int)))
    (go_keep)
    (first | (go_at_call 24; refine (cmpI_any _ _ _).mono ?_; rintro e w1 ⟨rfl, rfl⟩) | (go_at_call 23; refine (or3_any _ _ _ _ _ (Row.new _ _ _).drew).mono ?_; rintro e w1 ⟨rfl, rfl⟩))
  go_wp2_with fail
  go_ret
  exact ⟨rfl, (G.out.alloc _).drew⟩
theorem layT_any (blk off size : Nat) (w : World) : CmpLays Tryz.prog 22 #[] encT 3 cf3 blk off size w := fun _ _ _ _ x y => less3_any x y _
theorem world_grownK (w : World) (g n : Nat) (d' : Array Lat.Tr) (os : Array Obj) : w.grownBy (sortWorldK encT 3 w g 0 n d' os) (some g) := by
  refine ⟨rfl, rfl, rfl, ?_, fun i hi hr => ?_⟩
  · simp [sortWorldK, putRowK, Sort.putRow, Sort.mapBlock]
  · unfold sortWorldK
    rw [heap_grow_old _ _ (by simpa [putRowK, Sort.putRow, Sort.mapBlock] using hi)]
    have hne : g ≠ i := fun e => hr (by rw [e])
    simp [putRowK, Sort.putRow, Sort.mapBlock, Array.getElem?_modify, hne]
def SortCR (W : World) (g : Nat) (L : List Lat.Tr) (e : Ending) (w : World) : Prop := e = .returned (.tuple #[]) ∧ W.grownBy w (some g) ∧ ∃ L', L'.Perm L ∧ L'.Pairwise Lat.cle ∧ TrIn w g L'
theorem sortC_any (w : World) (g cap : Nat) (L : List Lat.Tr) (hg : TrIn w g L) (hf : ∀ j, w.frozen? ⟨g, j, none⟩ = false) (hl : L.length ≤ 100000) : Calls Tryz.prog 21 #[.slice (some ⟨g, 0, none⟩) L.length cap, .func (.func 22) #[] #[]] w (SortCR w g L) := by
  have eg : ∀ args w, (callFunc 22 args).run Tryz.prog w = .ok (.enter 22 args) w := enters_of Tryz.func22 (by kernel_rfl) rfl
  have hH : HoldsK encT 3 w g 0 L.toArray := by
    intro t ht
    simp only [size_flatK, List.size_toArray] at ht
    refine ⟨?_, by simpa using hf (0 + t)⟩
    rw [get_flatK _ _ _ _ (by simpa using ht)]
    have hi : t / 3 < L.length := by omega
    obtain ⟨a, b, c⟩ := hg.2 (t / 3) hi
    have e : L.toArray[t / 3]! = L[t / 3] := by simp [hi]
    rw [e]
    rcases (by omega : t % 3 = 0 ∨ t % 3 = 1 ∨ t % 3 = 2) with h0 | h0 | h0
    · rw [show 0 + t = t / 3 * 3 by omega, a, h0]; simp [encT]
    · rw [show 0 + t = t / 3 * 3 + 1 by omega, b, h0]; simp [encT]
    · rw [show 0 + t = t / 3 * 3 + 2 by omega, c, h0]; simp [encT]
  have hcon := AnyQ.slices_SortFunc_total Tryz.sortCell 3 Tryz.isAgg34 Tryz.sizeOf34 encT (fun _ => rfl) (fun x v hv => by simp [encT] at hv; rcases hv with rfl | rfl | rfl <;> rfl) cf3 swo3 22 #[] g 0 cap L.toArray w eg (layT_any g 0 _ w) hH hg.1 (by simp; omega) (fun x y h1 h2 => Lat.cle_anti ((lt3n y x).1 h2) ((lt3n x y).1 h1))
  have e : L.toArray.size = L.length := by simp
  rw [e] at hcon
  refine Calls.mono hcon ?_
  rintro e' w' ⟨rfl, n, os, rfl⟩
  refine ⟨rfl, world_grownK _ _ _ _ _, L.mergeSort (fun x y => !(ltOf cf3) y x), List.mergeSort_perm _ _, ?_, ?_⟩
  · have hp := List.pairwise_mergeSort (le := fun x y : Lat.Tr => !(ltOf cf3) y x) (fun a b c h1 h2 => by
      simp only [Bool.not_eq_true', lt3n] at *
      exact Lat.cle_trans h1 h2) (fun a b => by
      simp only [Bool.or_eq_true, Bool.not_eq_true', lt3n]
      exact Lat.cle_total a b) L
    exact hp.imp (fun h => by simp only [Bool.not_eq_true', lt3n] at h; exact h)
  · generalize hd : L.mergeSort (fun x y => !(ltOf cf3) y x) = D
    have hs : D.toArray.size = L.toArray.size := by rw [← hd]; simp [List.length_mergeSort]
    have hK : HoldsK encT 3 (sortWorldK encT 3 w g 0 n D.toArray os) g 0 D.toArray := by
      unfold sortWorldK
      exact holdsK_grow encT 3 _ os g 0 _ (by simpa [putRowK, Sort.putRow, Sort.mapBlock] using hg.1) (holdsK_putRowK (w := Sort.ahead w n) (h0 := hH) (hs := hs))
    refine ⟨Nat.lt_of_lt_of_le hg.1 (world_grownK w g n D.toArray os).size, fun i hi => ?_⟩
    have hi' : i < D.toArray.size := by simpa using hi
    have a := hK.cell (i := i) (c := 0) hi' (by omega)
    have b := hK.cell (i := i) (c := 1) hi' (by omega)
    have c := hK.cell (i := i) (c := 2) hi' (by omega)
    simp only [Nat.zero_add, Nat.add_zero] at a b c
    refine ⟨?_, ?_, ?_⟩
    · have := a.1
      simpa [encT, getElem!_pos, hi] using this
    · have := b.1
      simpa [encT, getElem!_pos, hi] using this
    · have := c.1
      simpa [encT, getElem!_pos, hi] using this
end Go.Proofs.YtehehhehilgnkaaGreat

