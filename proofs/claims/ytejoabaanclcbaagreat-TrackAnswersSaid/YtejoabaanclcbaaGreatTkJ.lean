/- The reference's chain of reports. -/
import Derived.Test.YtejoabaanclcbaaGreatQau
import Derived.Test.YtejoabaanclcbaaGreatTkE2
namespace Go.Proofs.YtejoabaanclcbaaGreat.Tk
open Go.RowKit

theorem infoBoolT : (Tryz.prog.info? 4).map (fun i => (i.zero, i.size, i.bytes)) = some (some (.bool false), 1, 1) := by kernel_rfl
theorem infoBools : (Tryz.prog.info? 44).map (fun i => (i.zero, i.size, i.bytes)) = some (some (.slice none 0 0), 1, 24) := by kernel_rfl
/-- A row of truths, known in part. -/
def Bl (Y : World) (b n : Nat) (D : Nat → Prop) (f : Nat → Bool) : Prop := ∃ c, Row Y b 4 c ∧ c.size = n ∧ ∀ x, x < n → D x → c[x]? = some (.bool (f x))
theorem Bl.under {Y Y' : World} {b n : Nat} {D : Nat → Prop} {f : Nat → Bool} (h : Bl Y b n D f) (hb : Below Y.heap.size Y Y') : Bl Y' b n D f := by
  obtain ⟨c, h1, h2, h3⟩ := h
  exact ⟨c, h1.under hb, h2, h3⟩
theorem Bl.far {Y : World} {b n : Nat} {D : Nat → Prop} {f : Nat → Bool} (h : Bl Y b n D f) {g j : Nat} (hg : g ≠ b) (u : Value) : Bl (Y.setCell ⟨g, j, none⟩ u) b n D f := by
  obtain ⟨c, h1, h2, h3⟩ := h
  exact ⟨c, h1.far (p := ⟨g, j, none⟩) hg u, h2, h3⟩
/-- The lengths and the tables of what is plausible, from k on. -/
structure Rc (w1 : World) (n : Nat) (P : Nat → Nat → Bool) (X : Nat → Int) (bs : Nat → Nat) (D : Nat → Nat → Prop) (k : Nat) (cs : Array Value) (Y : World) : Prop where
  b1 : Below w1.heap.size w1 Y
  ls : Ns Y w1.heap.size n X
  rw : Row Y (w1.heap.size + 1) 44 cs
  sz : cs.size = n
  cl : ∀ j, k ≤ j → j < n → cs[j]? = some (.slice (some ⟨bs j, 0, none⟩) n n)
  rows : ∀ j, k ≤ j → j < n → Bl Y (bs j) n (D j) (P j)
  inj : ∀ j j', k ≤ j → j < j' → j' < n → bs j' < bs j
  lo : ∀ j, k ≤ j → j < n → w1.heap.size + 1 < bs j
section
variable {w1 Y Y' : World} {n : Nat} {P : Nat → Nat → Bool} {X : Nat → Int} {bs : Nat → Nat} {D : Nat → Nat → Prop} {k : Nat} {cs : Array Value}
theorem Rc.under (H : Rc w1 n P X bs D k cs Y) (hb : Below Y.heap.size Y Y') : Rc w1 n P X bs D k cs Y' :=
  ⟨H.b1.trans (hb.mono H.b1.size), H.ls.under hb, H.rw.under hb, H.sz, H.cl, fun j h1 h2 => (H.rows j h1 h2).under hb, H.inj, H.lo⟩
theorem ns_far {g m : Nat} {Z : Nat → Int} (h : Ns Y g m Z) {x j : Nat} (hx : x ≠ g) (u : Value) : Ns (Y.setCell ⟨x, j, none⟩ u) g m Z := by
  obtain ⟨c, h1, h2, h3⟩ := h
  exact ⟨c, h1.far (p := ⟨x, j, none⟩) hx u, h2, h3⟩
/-- A length is stored. -/
theorem Rc.len (H : Rc w1 n P X bs D k cs Y) {i : Nat} (hi : i < n) (y : Int) : Rc w1 n P (fun x => if x = i then y else X x) bs D k cs (Y.setCell ⟨w1.heap.size, i, none⟩ (.int .i64 y)) :=
  ⟨H.b1.setCell (p := ⟨w1.heap.size, i, none⟩) (Nat.le_refl _) _, H.ls.set hi y, H.rw.far (p := ⟨w1.heap.size, i, none⟩) (by simp only; omega) _, H.sz, H.cl, fun j h1 h2 => (H.rows j h1 h2).far (by have := H.lo j h1 h2; omega) _, H.inj, H.lo⟩
/-- A new row. -/
theorem Rc.row (H : Rc w1 n P X bs D (k + 1) cs Y) (hk : k < n) {c : Array Value} (hc : c.size = n) :
    Rc w1 n P X (fun j => if j = k then Y.heap.size else bs j) (fun j x => j ≠ k ∧ D j x) k (cs.setIfInBounds k (.slice (some ⟨Y.heap.size, 0, none⟩) n n)) ((Y.alloc (.cells c 4)).setCell ⟨w1.heap.size + 1, k, none⟩ (.slice (some ⟨Y.heap.size, 0, none⟩) n n)) := by
  have hb : Below Y.heap.size Y (Y.alloc (.cells c 4)) := (Below.refl _ _).alloc (Nat.le_refl _) _
  have hy := H.b1.size
  have hlt := H.rw.lt
  have hbl : ∀ j, k + 1 ≤ j → j < n → bs j < Y.heap.size := fun j h1 h2 => by
    obtain ⟨c', hr, -⟩ := H.rows j h1 h2
    exact hr.lt
  refine ⟨(H.b1.trans (hb.mono hy)).setCell (p := ⟨w1.heap.size + 1, k, none⟩) (by simp only; omega) _, ns_far (H.ls.under hb) (by omega) _, (H.rw.under hb).put k _, by simpa using H.sz, fun j h1 h2 => ?_, fun j h1 h2 => ?_, fun j j' h1 h2 h3 => ?_, fun j h1 h2 => ?_⟩
  · by_cases hj : j = k
    · subst hj
      rw [if_pos rfl, Array.getElem?_setIfInBounds, if_pos rfl, if_pos (by rw [H.sz]; exact h2)]
    · rw [if_neg hj, Array.getElem?_setIfInBounds, if_neg (fun e => hj e.symm)]
      exact H.cl j (by omega) h2
  · by_cases hj : j = k
    · subst hj
      simp only
      exact ⟨c, (Row.new Y c 4).far (p := ⟨w1.heap.size + 1, j, none⟩) (by simp only; omega) _, hc, fun x _ hx => absurd rfl hx.1⟩
    · simp only [if_neg hj]
      obtain ⟨c', e1, e2, e3⟩ := ((H.rows j (by omega) h2).under hb).far (g := w1.heap.size + 1) (j := k) (by have := H.lo j (by omega) h2; omega) (.slice (some ⟨Y.heap.size, 0, none⟩) n n)
      exact ⟨c', e1, e2, fun x hx hd => e3 x hx hd.2⟩
  · simp only [if_neg (show ¬ j' = k by omega)]
    by_cases hj : j = k
    · rw [if_pos hj]; exact hbl j' (by omega) h3
    · rw [if_neg hj]; exact H.inj j j' (by omega) h2 h3
  · by_cases hj : j = k
    · simp only [if_pos hj]; omega
    · simp only [if_neg hj]; exact H.lo j (by omega) h2
/-- A truth is stored. -/
theorem Rc.bit (H : Rc w1 n P X bs D k cs Y) {x : Nat} (hk : k < n) (hx : x < n) : Rc w1 n P X bs (fun j z => D j z ∨ (j = k ∧ z = x)) k cs (Y.setCell ⟨bs k, x, none⟩ (.bool (P k x))) := by
  have hlo := H.lo k (Nat.le_refl _) hk
  refine ⟨H.b1.setCell (p := ⟨bs k, x, none⟩) (by simp only; omega) _, ns_far H.ls (by omega) _, H.rw.far (p := ⟨bs k, x, none⟩) (by simp only; omega) _, H.sz, H.cl, fun j h1 h2 => ?_, H.inj, H.lo⟩
  by_cases hj : j = k
  · subst hj
    obtain ⟨c, e1, e2, e3⟩ := H.rows j h1 h2
    refine ⟨c.setIfInBounds x (.bool (P j x)), e1.put x _, by simpa using e2, fun z hz hd => ?_⟩
    by_cases hzx : z = x
    · subst hzx
      rw [Array.getElem?_setIfInBounds, if_pos rfl, if_pos (by omega)]
    · rw [Array.getElem?_setIfInBounds, if_neg (fun e => hzx e.symm)]
      exact e3 z hz (hd.resolve_right (fun e => hzx e.2))
  · obtain ⟨c, e1, e2, e3⟩ := (H.rows j h1 h2).far (g := bs k) (j := x) (by have := H.inj k j (Nat.le_refl _) (by omega) h2; omega) (.bool (P k x))
    exact ⟨c, e1, e2, fun z hz hd => e3 z hz (hd.resolve_right (fun e => hj e.1))⟩
theorem Rc.known (H : Rc w1 n P X bs D k cs Y) {D' : Nat → Nat → Prop} (h : ∀ j z, k ≤ j → j < n → z < n → D' j z → D j z) : Rc w1 n P X bs D' k cs Y :=
  ⟨H.b1, H.ls, H.rw, H.sz, H.cl, fun j h1 h2 => by
    obtain ⟨c, e1, e2, e3⟩ := H.rows j h1 h2
    exact ⟨c, e1, e2, fun z hz hd => e3 z hz (h j z h1 h2 hz hd)⟩, H.inj, H.lo⟩
theorem Rc.cell (H : Rc w1 n P X bs D k cs Y) {j z : Nat} (h1 : k ≤ j) (h2 : j < n) (hz : z < n) (hd : D j z) : Y.cell? ⟨bs j, z, none⟩ = some (.bool (P j z)) := by
  obtain ⟨c, e1, e2, e3⟩ := H.rows j h1 h2
  exact (e1.cell z).trans (e3 z hz hd)
end
theorem own_base0 {w : World} {base size n : Nat} {e : TypeId} {v : Value} {xs : List Value} (h : w.ownsRow base e size v n xs) : w.ownsRow 0 e size v n xs := by
  refine ⟨h.1, ?_⟩
  rcases h.2 with h0 | ⟨g, cap, cur, rfl, h1, h3⟩
  · exact .inl h0
  · exact .inr ⟨g, cap, cur, rfl, Nat.zero_le _, h3⟩
/-- A list of numbers that grows. -/
def Ow (W3 : World) (l : List Nat) (v : Value) (Y : World) : Prop := Below W3.heap.size W3 Y ∧ Y.ownsRow W3.heap.size 3 1 v l.length (ic l)
theorem Ow.under {W3 Y Y' : World} {l : List Nat} {v : Value} (h : Ow W3 l v Y) (hb : Below Y.heap.size Y Y') : Ow W3 l v Y' := ⟨h.1.trans (hb.mono h.1.size), own_under h.2 hb⟩
theorem Ow.app {W3 Y Y' : World} {l : List Nat} {v v' : Value} {k : Nat} (h : Ow W3 l v Y) (ho : Y'.ownsRow W3.heap.size 3 1 v' (l.length + 1) (ic l ++ [.int .i64 (k : Int)])) (hg : Y.grownBy Y' v.ownBlock) : Ow W3 (l ++ [k]) v' Y' :=
  ⟨below_own h.1 h.1.size h.2 hg, by rw [List.length_append]; simpa [ic] using ho⟩
/-- What is known while the chain is put together. -/
def G3 (n : Nat) (P : Nat → Nat → Bool) (s k : Nat) (l : List Nat) (mm : Nat) (lai : Int) : Prop :=
  (l = [] ∧ lai = -1 ∧ mm = ln n P s ∧ ∀ j, j < k → ln n P j ≠ ln n P s) ∨ ∃ la : Nat, lai = la ∧ la < k ∧ la < n ∧ ln n P la = mm + 1 ∧ chn n P s = l ++ chf n P mm (nx n P la) ∧ (1 ≤ mm → k ≤ nx n P la)
theorem g3_skip {n : Nat} {P : Nat → Nat → Bool} {s k : Nat} {l : List Nat} {mm : Nat} {lai : Int} (hk : k < n) (h : G3 n P s k l mm lai) (hne : ln n P k ≠ mm ∨ ∃ la : Nat, lai = la ∧ P la k = false) : G3 n P s (k + 1) l mm lai := by
  rcases h with ⟨rfl, rfl, rfl, h4⟩ | ⟨la, rfl, h1, h2, h3, h4, h5⟩
  · rcases hne with hne | ⟨la, e, -⟩
    · exact .inl ⟨rfl, rfl, rfl, fun j hj => by
        rcases (by omega : j < k ∨ j = k) with h | rfl
        · exact h4 j h
        · exact hne⟩
    · omega
  · refine .inr ⟨la, rfl, by omega, h2, h3, h4, fun hm => ?_⟩
    obtain ⟨n1, n2, n3, n4, n5⟩ := nx_yes h2 (by omega : ln n P la ≠ 1)
    rcases (by have := h5 hm; omega : k + 1 ≤ nx n P la ∨ nx n P la = k) with h | h
    · exact h
    · exfalso
      rcases hne with hne | ⟨la', e, hp⟩
      · rw [h] at n4; omega
      · obtain rfl : la = la' := by omega
        rw [h] at n3
        rw [hp] at n3; cases n3
theorem g3_take {n : Nat} {P : Nat → Nat → Bool} {s k : Nat} {l : List Nat} {mm : Nat} {lai : Int} (hs : Bs n P 0 s) (hk : k < n) (h : G3 n P s k l mm lai) (he : ln n P k = mm) (hp : ∀ la : Nat, lai = la → P la k = true) : 1 ≤ mm ∧ G3 n P s (k + 1) (l ++ [k]) (mm - 1) k := by
  have hpos := ln_pos (P := P) hk
  refine ⟨by omega, .inr ⟨k, rfl, by omega, hk, by omega, ?_, fun hm => ?_⟩⟩
  · rcases h with ⟨rfl, rfl, rfl, h4⟩ | ⟨la, rfl, h1, h2, h3, h4, h5⟩
    · obtain rfl : k = s := by
        rcases Nat.lt_trichotomy k s with h | h | h
        · exact absurd he (hs.2.2 k (Nat.zero_le _) h)
        · exact h
        · exact absurd rfl (h4 s h)
      unfold chn
      obtain ⟨m', hm'⟩ : ∃ m', ln n P k = m' + 1 := ⟨ln n P k - 1, by omega⟩
      rw [hm']
      rfl
    · obtain ⟨n1, n2, n3, n4, n5⟩ := nx_yes h2 (by omega : ln n P la ≠ 1)
      have hkn : nx n P la = k := by
        rcases (by have := h5 (by omega); omega : nx n P la = k ∨ k < nx n P la) with h | h
        · exact h
        · exact absurd ⟨hp la rfl, by omega⟩ (n5 k h1 h)
      rw [h4, hkn]
      obtain ⟨m', rfl⟩ : ∃ m', mm = m' + 1 := ⟨mm - 1, by omega⟩
      show l ++ (k :: chf n P m' (nx n P k)) = _
      rw [List.append_assoc]
      rfl
  · have := (nx_yes hk (by omega : ln n P k ≠ 1)).1
    omega
theorem g3_end {n : Nat} {P : Nat → Nat → Bool} {s : Nat} {l : List Nat} {mm : Nat} {lai : Int} (hs : Bs n P 0 s) (h : G3 n P s n l mm lai) : Best n P l := by
  rcases h with ⟨rfl, rfl, rfl, h4⟩ | ⟨la, rfl, h1, h2, h3, h4, h5⟩
  · exact absurd rfl (h4 s hs.1.2)
  · rcases Nat.eq_zero_or_pos mm with h | h
    · subst h
      exact .inr ⟨s, hs, by rw [h4]; simp [chf]⟩
    · have := (nx_yes h2 (by omega : ln n P la ≠ 1)).2.1
      have := h5 h
      omega
/-- What is known between the rounds of the first loop. -/
def L1 (w1 : World) (n : Nat) (P : Nat → Nat → Bool) (k mo : Nat) (Y : World) : Prop := ∃ X bs cs, Rc w1 n P X bs (fun j x => j < x) k cs Y ∧ (∀ j, k ≤ j → j < n → X j = ln n P j) ∧ ((k = n ∧ mo = 0) ∨ ∃ s, Bs n P k s ∧ mo = ln n P s)
/-- And of the second. -/
def L2 (w1 : World) (n : Nat) (P : Nat → Nat → Bool) (bs : Nat → Nat) (cs : Array Value) (i q : Nat) (Y : World) : Prop := i < q ∧ q ≤ n ∧ ∃ X m, Rc w1 n P X bs (fun j x => j < x ∧ (j = i → x < q)) i cs Y ∧ (∀ j, i < j → j < n → X j = ln n P j) ∧ X i = (m : Nat) ∧ MxTo P (ln n P) i q m
/-- What the reference's chain answers. -/
def RchO (h : Int) (R : List Rq) (w : World) (e : Ending) (w' : World) : Prop := ∃ l v, Best R.length (pR h R) l ∧ e = .returned v ∧ IlIn w' v l ∧ Below w.heap.size w w'
theorem best_none {P : Nat → Nat → Bool} : Best 0 P [] := .inl ⟨rfl, rfl⟩
theorem best_single {P : Nat → Nat → Bool} : Best 1 P [0] := by
  refine .inr ⟨0, bs_last (by omega), ?_⟩
  have : ln 1 P 0 = 1 := by
    rcases (ln_mx (n := 1) (P := P) (i := 0) (by omega)).2.1 with e | ⟨k, k1, k2, -⟩
    · exact e
    · omega
  exact (chn_one this).symm
set_option maxRecDepth 100000 in
set_option maxHeartbeats 8000000 in
theorem refChain_any (v : Value) (R : List Rq) (h : Int) (w : World) (hR : RqIn w v R) (hl : R.length ≤ 100000) (hh : 0 ≤ h ∧ h ≤ 1000) (hok : ∀ r ∈ R, okr r = true) :
    Calls Tryz.prog 38 #[v, .int .i64 h] w (RchO h R w) := by
  have hRR := hR
  obtain ⟨A, cap, rfl, hc1, hc2, -⟩ := hR
  have HR := Lib.hid hRR; clear hRR
  have HOK := Lib.hid hok; clear hok
  rcases (by omega : R.length = 0 ∨ R.length = 1 ∨ 2 ≤ R.length) with h0 | h0 | h2
  · obtain rfl : R = [] := List.eq_nil_of_length_eq_zero h0
    clear h0
    go_enter Tryz.func38, Tryz.ntmps38
    go_wp2_with fail
    go_ret
    exact ⟨[], _, best_none, rfl, il_nil _, Below.refl _ _⟩
  · have k1 : (R.length : Int) = 1 := by omega
    have HB := Lib.hid (show Best R.length (pR h R) [0] by rw [h0]; exact best_single)
    clear h0
    go_enter Tryz.func38, Tryz.ntmps38
    go_wp2_with fail
    go_ret
    exact ⟨[0], _, HB.out, rfl, il_one w 0, (Below.refl _ _).alloc (Nat.le_refl _) _⟩
  obtain ⟨n, hn⟩ : ∃ n, R.length = n := ⟨_, rfl⟩
  have hm1 := run_make_row' (P := Tryz.prog) 23 3 (.int .i64 0) 8 Tryz.underlying23 infoInt0 rfl .i64 .i64 n (by omega) (by omega)
  have hm2 := run_make_row' (P := Tryz.prog) 43 44 (.slice none 0 0) 24 Tryz.underlying43 infoBools rfl .i64 .i64 n (by omega) (by omega)
  have hm3 := run_make_row' (P := Tryz.prog) 44 4 (.bool false) 1 Tryz.underlying44 infoBoolT rfl .i64 .i64 n (by omega) (by omega)
  have HNN := Lib.hid hn
  have k0 : ¬ (n : Int) = 0 := by omega
  have k1 : ¬ (n : Int) = 1 := by omega
  have k3 : 2 ≤ n := by omega
  have k4 : n ≤ 100000 := by omega
  rw [hn] at hc1 ⊢
  clear h2 hn hl
  have wn : IntKind.i64.wrap ((n : Int) - 1) = (n : Int) - 1 := IntWalk.i64_in _ (by omega)
  go_enter Tryz.func38, Tryz.ntmps38
  go_wp2_with fail
  refine (around8_any _).mono ?_
  rintro e w1 ⟨gn, cn', rfl, hcn1, hcn2, hb1, hnb⟩
  rw [cn8] at hcn1 ⊢
  have HB1 := Lib.hid hb1
  have HNB := Lib.hid hnb
  have HR1 := Lib.hid (HR.out.under hb1)
  clear hb1 hnb
  have HRC := Lib.hid (show Rc w1 n (pR h R) (fun _ => 0) (fun _ => 0) (fun j x => j < x) n (madeCells #[.slice none 0 0] n) ((w1.alloc (.cells (madeCells #[.int .i64 0] n) 3)).alloc (.cells (madeCells #[.slice none 0 0] n) 44)) from
    ⟨((Below.refl _ _).alloc (Nat.le_refl _) _).alloc (by simp) _, by
      obtain ⟨c, e1, e2, e3⟩ := ns_made w1 n
      exact ⟨c, e1.alloc _, e2, e3⟩, Row.newAt (by simp), size_madeCells _ _, fun j a b => by omega, fun j a b => by omega, fun j j' a b c => by omega, fun j a b => by omega⟩)
  go_upto_region 8 with fail
  refine forget (fun Y => Hid (Rc w1 n (pR h R) (fun _ => 0) (fun _ => 0) (fun j x => j < x) n (madeCells #[.slice none 0 0] n) Y)) HRC ?_
  clear HRC hm1 hm2
  intro Y HRC
  have HM3 := Lib.hid hm3
  clear hm3
  go_wp2_with fail
  go_loopw [8, 9] (fun ms t wr => ∃ k mo : Nat, t = .int .i64 ((k : Int) - 1) ∧ ms = .int .i64 mo ∧ k ≤ n ∧ Hid (L1 w1 n (pR h R) k mo wr)) (fun _ t _ => (intOf t + 1).toNat)
  case atStart => exact ⟨n, 0, rfl, rfl, Nat.le_refl _, Lib.hid ⟨_, _, _, HRC.out, fun j a b => by omega, .inl ⟨rfl, rfl⟩⟩⟩
  case round =>
    clear HRC
    obtain ⟨k, mo, rfl, rfl, hkn, HL⟩ := hrel
    rcases Nat.eq_zero_or_pos k with hk | hk
    · subst hk
      have hz : ¬ (0 : Int) ≤ ((0 : Nat) : Int) - 1 := by omega
      obtain ⟨X, bs, cs, HC0, hX, hmo⟩ := HL.out
      obtain ⟨s, hs, hms⟩ : ∃ s, Bs n (pR h R) 0 s ∧ mo = ln n (pR h R) s := by
        rcases hmo with ⟨a, -⟩ | h
        · omega
        · exact h
      have HC := Lib.hid HC0
      have HX := Lib.hid hX
      have HS := Lib.hid hs
      have HMS := Lib.hid hms
      clear HC0 hX hs hms hmo HL
      go_wp2_with fail
      generalize hW3 : wr = W3 at *
      clear hW3
      obtain ⟨i0', hi', hz0, hz1, hz2⟩ := info_parts infoInt0
      go_loopw [8, 11, 12, 13] (fun ms ov la t wr => ∃ (k : Nat) (l : List Nat) (mm : Nat) (lai : Int), t = .int .i64 k ∧ k ≤ n ∧ ms = .int .i64 mm ∧ la = .int .i64 lai ∧ Hid (Below W3.heap.size W3 wr ∧ wr.ownsRow W3.heap.size 3 1 ov l.length (ic l) ∧ l.length ≤ k ∧ G3 n (pR h R) s k l mm lai)) (fun _ _ _ t _ => n - (intOf t).toNat)
      case atStart => exact ⟨0, [], mo, -1, rfl, Nat.zero_le _, rfl, rfl, Lib.hid ⟨Below.refl _ _, ⟨rfl, .inl ⟨rfl, rfl⟩⟩, Nat.le_refl _, .inl ⟨rfl, rfl, HMS.out, fun j hj => by omega⟩⟩⟩
      case round =>
        obtain ⟨k, l, mm, lai, rfl, hkn, rfl, rfl, HQ⟩ := hrel
        have hgl : w1.heap.size < W3.heap.size := HC.out.ls.lt
        by_cases hk : k < n
        · have k0' : (0 : Int) ≤ (k : Int) := by omega
          have k1' : (k : Int) < (n : Int) := by omega
          have wk : IntKind.i64.wrap ((k : Int) + 1) = (k : Int) + 1 := IntWalk.i64_in _ (by omega)
          have c1 := (HQ.out.1.cell (p := ⟨w1.heap.size, k, none⟩) hgl).trans (HC.out.ls.at_ hk).1
          rw [HX.out k (Nat.zero_le _) hk] at c1
          have HLL := Lib.hid (ln_le (n := n) (P := pR h R) n k (by omega) hk)
          obtain ⟨lk, hlk⟩ : ∃ lk, ln n (pR h R) k = lk := ⟨_, rfl⟩
          have HLK := Lib.hid hlk
          rw [hlk] at c1 HLL
          clear hlk
          by_cases hlm : lk = mm
          · subst hlm
            by_cases hla : lai < 0
            · have HTK := Lib.hid (g3_take HS.out hk HQ.out.2.2.2 HLK.out (fun la e => by omega))
              have HQA := Lib.hid (show Ow W3 l «u11» (wr.alloc (.cells #[.int .i64 (k : Int)] 3)) from (Ow.under ⟨HQ.out.1, HQ.out.2.1⟩ ((Below.refl _ _).alloc (Nat.le_refl _) _)))
              have wm : IntKind.i64.wrap ((lk : Int) - 1) = (lk : Int) - 1 := IntWalk.i64_in _ (by have := HTK.out.1; have := HLL.out; omega)
              have HLN := Lib.hid HQ.out.2.2.1
              go_wp2_with (at_builtin; refine wpList_append_lies _ rfl (.tmp 120) (.tmp 122) 23 rfl W3.heap.size 3 i0' _ 1 8 Tryz.underlying23 hi' hz0 hz1 hz2 rfl (by decide) «u11» l.length (ic l) rfl HQA.out.2 ⟨wr.heap.size, 0, none⟩ 1 1 [.int .i64 (k : Int)] rfl rfl (World.news_of_block (cs := #[.int .i64 (k : Int)]) (t := 3) (fr := (0, 0)) (heap_alloc_new wr _)) (fun u hu => by rcases List.mem_singleton.1 hu with rfl; rfl) (by omega) (by have := HLN.out; unfold maxLen; omega) (by have := HLN.out; omega) HQA.out.1.size (wr.heap.size + 1) (by simp) ?_; intro g' cap' w6 hown6 hgrow6 hat6 hlt6; have H6 := Lib.hid (HQA.out.app hown6 hgrow6); clear hown6 hgrow6 hat6 hlt6)
              clear c1
              go_wp2_with fail
              go_roundw
              case rel => exact ⟨k + 1, l ++ [k], lk - 1, k, by go_num, by omega, by rw [show ((lk - 1 : Nat) : Int) = (lk : Int) - 1 by have := HTK.out.1; omega], rfl, Lib.hid ⟨H6.out.1, H6.out.2, by rw [List.length_append]; have := HLN.out; simp; omega, HTK.out.2⟩⟩
              case measure => simp [intOf]; omega
            · obtain ⟨la, rfl⟩ := Int.eq_ofNat_of_zero_le (Int.not_lt.1 hla)
              have hlan : la < k := by
                rcases HQ.out.2.2.2 with ⟨-, e, -⟩ | ⟨la', e, h9, -⟩
                · omega
                · omega
              have la0 : (0 : Int) ≤ (la : Int) := by omega
              have la1 : (la : Int) < (n : Int) := by omega
              have hgr : w1.heap.size + 1 < W3.heap.size := HC.out.rw.lt
              have c2 := (HQ.out.1.cell (p := ⟨w1.heap.size + 1, la, none⟩) hgr).trans ((HC.out.rw.cell la).trans (HC.out.cl la (Nat.zero_le _) (by omega)))
              obtain ⟨cb, hcb, -⟩ := HC.out.rows la (Nat.zero_le _) (by omega)
              have c3 := (HQ.out.1.cell (p := ⟨bs la, k, none⟩) hcb.lt).trans (HC.out.cell (j := la) (z := k) (Nat.zero_le _) (by omega) hk hlan)
              clear hcb
              obtain ⟨pb, hpb⟩ : ∃ b, pR h R la k = b := ⟨_, rfl⟩
              have HPB := Lib.hid hpb
              rw [hpb] at c3
              clear hpb
              cases pb
              · have HSK := Lib.hid (g3_skip hk HQ.out.2.2.2 (.inr ⟨la, rfl, HPB.out⟩))
                go_wp2_with fail
                go_roundw
                case rel => exact ⟨k + 1, l, lk, la, by go_num, by omega, rfl, rfl, Lib.hid ⟨HQ.out.1, HQ.out.2.1, by have := HQ.out.2.2.1; omega, HSK.out⟩⟩
                case measure => simp [intOf]; omega
              · have HTK := Lib.hid (g3_take HS.out hk HQ.out.2.2.2 HLK.out (fun la' e => by obtain rfl : la' = la := by omega
                                                                                             exact HPB.out))
                have HQA := Lib.hid (show Ow W3 l «u11» (wr.alloc (.cells #[.int .i64 (k : Int)] 3)) from (Ow.under ⟨HQ.out.1, HQ.out.2.1⟩ ((Below.refl _ _).alloc (Nat.le_refl _) _)))
                have wm : IntKind.i64.wrap ((lk : Int) - 1) = (lk : Int) - 1 := IntWalk.i64_in _ (by have := HTK.out.1; have := HLL.out; omega)
                have HLN := Lib.hid HQ.out.2.2.1
                go_wp2_with (at_builtin; refine wpList_append_lies _ rfl (.tmp 120) (.tmp 122) 23 rfl W3.heap.size 3 i0' _ 1 8 Tryz.underlying23 hi' hz0 hz1 hz2 rfl (by decide) «u11» l.length (ic l) rfl HQA.out.2 ⟨wr.heap.size, 0, none⟩ 1 1 [.int .i64 (k : Int)] rfl rfl (World.news_of_block (cs := #[.int .i64 (k : Int)]) (t := 3) (fr := (0, 0)) (heap_alloc_new wr _)) (fun u hu => by rcases List.mem_singleton.1 hu with rfl; rfl) (by omega) (by have := HLN.out; unfold maxLen; omega) (by have := HLN.out; omega) HQA.out.1.size (wr.heap.size + 1) (by simp) ?_; intro g' cap' w6 hown6 hgrow6 hat6 hlt6; have H6 := Lib.hid (HQA.out.app hown6 hgrow6); clear hown6 hgrow6 hat6 hlt6)
                clear c1 c2 c3
                go_wp2_with fail
                go_roundw
                case rel => exact ⟨k + 1, l ++ [k], lk - 1, k, by go_num, by omega, by rw [show ((lk - 1 : Nat) : Int) = (lk : Int) - 1 by have := HTK.out.1; omega], rfl, Lib.hid ⟨H6.out.1, H6.out.2, by rw [List.length_append]; have := HLN.out; simp; omega, HTK.out.2⟩⟩
                case measure => simp [intOf]; omega
          · have hlm1 : ¬ (lk : Int) = (mm : Int) := by omega
            have HSK := Lib.hid (g3_skip hk HQ.out.2.2.2 (.inl (by rw [HLK.out]; exact hlm)))
            go_wp2_with fail
            go_roundw
            case rel => exact ⟨k + 1, l, mm, lai, by go_num, by omega, rfl, rfl, Lib.hid ⟨HQ.out.1, HQ.out.2.1, by have := HQ.out.2.2.1; omega, HSK.out⟩⟩
            case measure => simp [intOf]; omega
        · have kn : ¬ (k : Int) < (n : Int) := by omega
          obtain rfl : n = k := by omega
          have HBE := Lib.hid (g3_end HS.out HQ.out.2.2.2)
          have HFB := Lib.hid (HB1.out.trans ((HC.out.b1.trans (HQ.out.1.mono HC.out.b1.size)).mono HB1.out.size))
          have HIL := Lib.hid (show IlIn wr «u11» l from own_base0 HQ.out.2.1)
          go_wp2_with fail
          go_ret
          exact ⟨l, _, by rw [HNN.out]; exact HBE.out, rfl, HIL.out, HFB.out⟩
    · obtain ⟨i, rfl⟩ : ∃ i, k = i + 1 := ⟨k - 1, by omega⟩
      have em : (((i + 1 : Nat) : Int) - 1) = (i : Int) := by omega
      rw [em]
      clear em hk
      have hi : i < n := by omega
      have i0 : (0 : Int) ≤ (i : Int) := by omega
      have i1 : (i : Int) < (n : Int) := by omega
      have wi : IntKind.i64.wrap ((i : Int) + 1) = (i : Int) + 1 := IntWalk.i64_in _ (by omega)
      have wi2 : IntKind.i64.wrap ((i : Int) - 1) = (i : Int) - 1 := IntWalk.i64_in _ (by omega)
      obtain ⟨X, bs, cs, HRC0, hX, hmo⟩ := HL.out
      have HX := Lib.hid hX
      have HMO := Lib.hid hmo
      have hm3 := HM3.out
      have HR2 := Lib.hid (HRC0.row hi (c := madeCells #[.bool false] n) (size_madeCells _ _))
      have hlt := HRC0.rw.lt
      rw [World.setCell_alloc_past _ _ _ _ hlt] at HR2
      have cz := (HRC0.rw.cell i)
      have fz := HRC0.rw.thaw i
      obtain ⟨uz, huz⟩ : ∃ u, cs[i]? = some u := ⟨_, Array.getElem?_eq_getElem (by rw [HRC0.sz]; exact hi)⟩
      rw [huz] at cz
      clear hX hmo HL HRC0
      go_upto_region 13 with fail
      refine forget (fun Y => ∃ bs cs, Hid (Rc w1 n (pR h R) X bs (fun j x => j ≠ i ∧ j < x) i cs Y)) ⟨_, _, HR2⟩ ?_
      clear HR2 hlt cz fz huz hm3
      rintro Y ⟨bs, cs, HC⟩
      have cl := (HC.out.ls.at_ hi).1
      have fl := (HC.out.ls.at_ hi).2
      have HC2 := Lib.hid (HC.out.len hi 1)
      clear HC
      go_upto_region 14 with fail
      refine forget (fun Y => Hid (Rc w1 n (pR h R) (fun x => if x = i then 1 else X x) bs (fun j x => j ≠ i ∧ j < x) i cs Y)) HC2 ?_
      clear HC2 cl fl
      intro Y HC
      go_wp2_with fail
      go_loopw [10] (fun t wr => ∃ q : Nat, t = .int .i64 q ∧ Hid (L2 w1 n (pR h R) bs cs i q wr)) (fun t _ => n - (intOf t).toNat)
      case atStart => exact ⟨i + 1, by go_num, Lib.hid ⟨by omega, by omega, _, 1, HC.out.known (fun j z a b c d => ⟨fun e => by have := d.2 e; omega, d.1⟩), fun j a b => by simp only [if_neg (show ¬ j = i by omega)]; exact HX.out j (by omega) b, by simp only [if_true]; rfl, mx_start _ _ _⟩⟩
      case round =>
        clear HC
        obtain ⟨q, rfl, HQ⟩ := hrel
        obtain ⟨hq1, hq2, X2, m, hC, hX2, hXi, hMx⟩ := HQ.out
        have HC := Lib.hid hC
        have HX2 := Lib.hid hX2
        have HXI := Lib.hid hXi
        have HMX := Lib.hid hMx
        clear hC hX2 hXi hMx HQ
        by_cases hqn : q < n
        · have q0 : (0 : Int) ≤ (q : Int) := by omega
          have q1 : (q : Int) < (n : Int) := by omega
          have wq : IntKind.i64.wrap ((q : Int) + 1) = (q : Int) + 1 := IntWalk.i64_in _ (by omega)
          obtain ⟨A', cap', eA0, -, -, hat⟩ := HR1.out
          obtain ⟨g, off, eA, hgl, hai⟩ := hat i (by have := HNN.out; omega)
          obtain ⟨g', off', eA2, -, haq⟩ := hat q (by have := HNN.out; omega)
          rw [eA] at eA2
          injection eA2 with eA2
          injection eA2 with eg eo
          subst eg eo
          have eAA : A = some ⟨g, off, none⟩ := by injection eA0 with e1; rw [e1, eA]
          clear eA eA0 hat
          subst eAA
          have hiR : i < R.length := by have := HNN.out; omega
          have hqR : q < R.length := by have := HNN.out; omega
          have HPP := Lib.hid (show pR h R i q = pls h (sgr R[i] 0) (sgr R[q] 0) from pR_at hiR hqR)
          have HOi := Lib.hid (HOK.out R[i] (List.getElem_mem _))
          have HOq := Lib.hid (HOK.out R[q] (List.getElem_mem _))
          generalize R[i] = ri at hai HPP HOi
          generalize R[q] = rq at haq HPP HOq
          obtain ⟨xk, xn, xt, xF, xA, xB, xC, xa, xu, xc⟩ := ri
          obtain ⟨yk, yn, yt, yF, yA, yB, yC, ya, yu, yc⟩ := rq
          have hAi := Lib.hid hai
          have hAq := Lib.hid haq
          clear hai haq
          go_upto_region 17 with fail
          have hS0 := Lib.hid (show wr.cell? ⟨w1.heap.size + 1, i, none⟩ = some (.slice (some ⟨bs i, 0, none⟩) n n) ∧ (wr.cell? ⟨g, off + i * 8, none⟩ = some (.int .i64 xk) ∧ wr.cell? ⟨g, off + i * 8 + 1, none⟩ = some (.string xn) ∧ wr.cell? ⟨g, off + i * 8 + 2, none⟩ = some (.int .i64 xt) ∧ wr.cell? ⟨g, off + i * 8 + 3, none⟩ = some (.int .i64 xF) ∧ wr.cell? ⟨g, off + i * 8 + 4, none⟩ = some (.int .i64 xA) ∧ wr.cell? ⟨g, off + i * 8 + 5, none⟩ = some (.int .i64 xB) ∧ wr.cell? ⟨g, off + i * 8 + 6, none⟩ = some (.int .i64 xC) ∧ wr.cell? ⟨g, off + i * 8 + 7, none⟩ = some (.slice xa xu xc)) ∧ (wr.cell? ⟨g, off + q * 8, none⟩ = some (.int .i64 yk) ∧ wr.cell? ⟨g, off + q * 8 + 1, none⟩ = some (.string yn) ∧ wr.cell? ⟨g, off + q * 8 + 2, none⟩ = some (.int .i64 yt) ∧ wr.cell? ⟨g, off + q * 8 + 3, none⟩ = some (.int .i64 yF) ∧ wr.cell? ⟨g, off + q * 8 + 4, none⟩ = some (.int .i64 yA) ∧ wr.cell? ⟨g, off + q * 8 + 5, none⟩ = some (.int .i64 yB) ∧ wr.cell? ⟨g, off + q * 8 + 6, none⟩ = some (.int .i64 yC) ∧ wr.cell? ⟨g, off + q * 8 + 7, none⟩ = some (.slice ya yu yc)) from ⟨(HC.out.rw.cell i).trans (HC.out.cl i (Nat.le_refl _) hi), hAi.out.under hgl (HC.out.b1), hAq.out.under hgl (HC.out.b1)⟩)
          refine wp_region_held_drew (S := fun w' : World => w'.cell? ⟨w1.heap.size + 1, i, none⟩ = some (.slice (some ⟨bs i, 0, none⟩) n n) ∧ (w'.cell? ⟨g, off + i * 8, none⟩ = some (.int .i64 xk) ∧ w'.cell? ⟨g, off + i * 8 + 1, none⟩ = some (.string xn) ∧ w'.cell? ⟨g, off + i * 8 + 2, none⟩ = some (.int .i64 xt) ∧ w'.cell? ⟨g, off + i * 8 + 3, none⟩ = some (.int .i64 xF) ∧ w'.cell? ⟨g, off + i * 8 + 4, none⟩ = some (.int .i64 xA) ∧ w'.cell? ⟨g, off + i * 8 + 5, none⟩ = some (.int .i64 xB) ∧ w'.cell? ⟨g, off + i * 8 + 6, none⟩ = some (.int .i64 xC) ∧ w'.cell? ⟨g, off + i * 8 + 7, none⟩ = some (.slice xa xu xc)) ∧ (w'.cell? ⟨g, off + q * 8, none⟩ = some (.int .i64 yk) ∧ w'.cell? ⟨g, off + q * 8 + 1, none⟩ = some (.string yn) ∧ w'.cell? ⟨g, off + q * 8 + 2, none⟩ = some (.int .i64 yt) ∧ w'.cell? ⟨g, off + q * 8 + 3, none⟩ = some (.int .i64 yF) ∧ w'.cell? ⟨g, off + q * 8 + 4, none⟩ = some (.int .i64 yA) ∧ w'.cell? ⟨g, off + q * 8 + 5, none⟩ = some (.int .i64 yB) ∧ w'.cell? ⟨g, off + q * 8 + 6, none⟩ = some (.int .i64 yC) ∧ w'.cell? ⟨g, off + q * 8 + 7, none⟩ = some (.slice ya yu yc))) (by kernel_rfl) hS0.out (fun hHeld => ?_)
          refine tk 0 (oi := ⟨some 52, _, _, _, _, none⟩) rfl ?_
          try go_frame
          refine tk 1 (oi := ⟨some 53, _, _, _, _, none⟩) rfl ?_
          try go_frame
          refine tk 2 (oi := ⟨some 54, _, _, _, _, none⟩) rfl ?_
          try go_frame
          refine tk 3 (oi := ⟨some 55, _, _, _, _, none⟩) rfl ?_
          try go_frame
          refine tk 4 (oi := ⟨some 56, _, _, _, _, none⟩) rfl ?_
          try go_frame
          refine tk 5 (oi := ⟨some 57, _, _, _, _, none⟩) rfl ?_
          try go_frame
          refine tk 6 (oi := ⟨some 58, _, _, _, _, none⟩) rfl ?_
          try go_frame
          refine tk 7 (oi := ⟨some 59, _, _, _, _, none⟩) rfl ?_
          try go_frame
          refine tk 8 (oi := ⟨some 60, _, _, _, _, none⟩) rfl ?_
          try go_frame
          refine tk 9 (oi := ⟨some 61, _, _, _, _, none⟩) rfl ?_
          try go_frame
          refine tk 10 (oi := ⟨some 62, _, _, _, _, none⟩) rfl ?_
          try go_frame
          refine tk 11 (oi := ⟨some 63, _, _, _, _, none⟩) rfl ?_
          try go_frame
          refine tk 12 (oi := ⟨some 64, _, _, _, _, none⟩) rfl ?_
          try go_frame
          refine tk 13 (oi := ⟨some 65, _, _, _, _, none⟩) rfl ?_
          try go_frame
          refine tk 14 (oi := ⟨some 66, _, _, _, _, none⟩) rfl ?_
          try go_frame
          clear hiR hqR
          refine wpAnyH_ready (rs := [15]) (by kernel_rfl) (by simp) ?_
          refine AllReadyH.cons (o := ⟨some 67, _, _, _, _, none⟩) rfl (fun K hK => ?_) AllReadyH.nil
          have hd : Below wr.heap.size wr wr.drew := ⟨rfl, rfl, rfl, Nat.le_refl _, fun _ _ => rfl⟩
          have HC1 := Lib.hid (HC.out.under hd)
          go_simp
          refine (refPlausible_any gn cn' xk xn xt xF xA xB xC xa xu xc yk yn yt yF yA yB yC ya yu yc h _ (HNB.out.under HC1.out.b1) hcn1 hcn2 HOi.out HOq.out hh).mono ?_
          rintro e w3 ⟨rfl, hb3⟩
          have HC2 := Lib.hid (HC1.out.under hb3)
          clear hd hb3 HC HC1 hHeld hS0
          rw [← HPP.out]
          go_wp2_with fail
          have hS1 := Lib.hid (show w3.cell? ⟨w1.heap.size + 1, i, none⟩ = some (.slice (some ⟨bs i, 0, none⟩) n n) ∧ (w3.cell? ⟨g, off + i * 8, none⟩ = some (.int .i64 xk) ∧ w3.cell? ⟨g, off + i * 8 + 1, none⟩ = some (.string xn) ∧ w3.cell? ⟨g, off + i * 8 + 2, none⟩ = some (.int .i64 xt) ∧ w3.cell? ⟨g, off + i * 8 + 3, none⟩ = some (.int .i64 xF) ∧ w3.cell? ⟨g, off + i * 8 + 4, none⟩ = some (.int .i64 xA) ∧ w3.cell? ⟨g, off + i * 8 + 5, none⟩ = some (.int .i64 xB) ∧ w3.cell? ⟨g, off + i * 8 + 6, none⟩ = some (.int .i64 xC) ∧ w3.cell? ⟨g, off + i * 8 + 7, none⟩ = some (.slice xa xu xc)) ∧ (w3.cell? ⟨g, off + q * 8, none⟩ = some (.int .i64 yk) ∧ w3.cell? ⟨g, off + q * 8 + 1, none⟩ = some (.string yn) ∧ w3.cell? ⟨g, off + q * 8 + 2, none⟩ = some (.int .i64 yt) ∧ w3.cell? ⟨g, off + q * 8 + 3, none⟩ = some (.int .i64 yF) ∧ w3.cell? ⟨g, off + q * 8 + 4, none⟩ = some (.int .i64 yA) ∧ w3.cell? ⟨g, off + q * 8 + 5, none⟩ = some (.int .i64 yB) ∧ w3.cell? ⟨g, off + q * 8 + 6, none⟩ = some (.int .i64 yC) ∧ w3.cell? ⟨g, off + q * 8 + 7, none⟩ = some (.slice ya yu yc)) from ⟨(HC2.out.rw.cell i).trans (HC2.out.cl i (Nat.le_refl _) hi), hAi.out.under hgl (HC2.out.b1), hAq.out.under hgl (HC2.out.b1)⟩)
          refine hK.out _ _ hS1.out (fun hHeld => ?_)
          clear hK K
          try go_frame
          refine tk 16 (oi := ⟨some 68, _, _, _, _, none⟩) rfl ?_
          try go_frame
          refine wpAnyH_ready (rs := [17]) (by kernel_rfl) (by simp) ?_
          refine AllReadyH.cons (o := ⟨none, _, _, _, _, none⟩) rfl (fun K hK => ?_) AllReadyH.nil
          obtain ⟨cb, hcb, hcbs, -⟩ := HC2.out.rows i (Nat.le_refl _) hi
          have fz := hcb.thaw q
          obtain ⟨uz, huz⟩ : ∃ u, cb[q]? = some u := ⟨_, Array.getElem?_eq_getElem (by rw [hcbs]; exact hqn)⟩
          have cz := (hcb.cell q).trans huz
          have HC3 := Lib.hid (HC2.out.bit hi hqn)
          clear hcb huz hS1
          go_simp
          have hS2 := Lib.hid (show (w3.setCell ⟨bs i, q, none⟩ (.bool (pR h R i q))).cell? ⟨w1.heap.size + 1, i, none⟩ = some (.slice (some ⟨bs i, 0, none⟩) n n) ∧ ((w3.setCell ⟨bs i, q, none⟩ (.bool (pR h R i q))).cell? ⟨g, off + i * 8, none⟩ = some (.int .i64 xk) ∧ (w3.setCell ⟨bs i, q, none⟩ (.bool (pR h R i q))).cell? ⟨g, off + i * 8 + 1, none⟩ = some (.string xn) ∧ (w3.setCell ⟨bs i, q, none⟩ (.bool (pR h R i q))).cell? ⟨g, off + i * 8 + 2, none⟩ = some (.int .i64 xt) ∧ (w3.setCell ⟨bs i, q, none⟩ (.bool (pR h R i q))).cell? ⟨g, off + i * 8 + 3, none⟩ = some (.int .i64 xF) ∧ (w3.setCell ⟨bs i, q, none⟩ (.bool (pR h R i q))).cell? ⟨g, off + i * 8 + 4, none⟩ = some (.int .i64 xA) ∧ (w3.setCell ⟨bs i, q, none⟩ (.bool (pR h R i q))).cell? ⟨g, off + i * 8 + 5, none⟩ = some (.int .i64 xB) ∧ (w3.setCell ⟨bs i, q, none⟩ (.bool (pR h R i q))).cell? ⟨g, off + i * 8 + 6, none⟩ = some (.int .i64 xC) ∧ (w3.setCell ⟨bs i, q, none⟩ (.bool (pR h R i q))).cell? ⟨g, off + i * 8 + 7, none⟩ = some (.slice xa xu xc)) ∧ ((w3.setCell ⟨bs i, q, none⟩ (.bool (pR h R i q))).cell? ⟨g, off + q * 8, none⟩ = some (.int .i64 yk) ∧ (w3.setCell ⟨bs i, q, none⟩ (.bool (pR h R i q))).cell? ⟨g, off + q * 8 + 1, none⟩ = some (.string yn) ∧ (w3.setCell ⟨bs i, q, none⟩ (.bool (pR h R i q))).cell? ⟨g, off + q * 8 + 2, none⟩ = some (.int .i64 yt) ∧ (w3.setCell ⟨bs i, q, none⟩ (.bool (pR h R i q))).cell? ⟨g, off + q * 8 + 3, none⟩ = some (.int .i64 yF) ∧ (w3.setCell ⟨bs i, q, none⟩ (.bool (pR h R i q))).cell? ⟨g, off + q * 8 + 4, none⟩ = some (.int .i64 yA) ∧ (w3.setCell ⟨bs i, q, none⟩ (.bool (pR h R i q))).cell? ⟨g, off + q * 8 + 5, none⟩ = some (.int .i64 yB) ∧ (w3.setCell ⟨bs i, q, none⟩ (.bool (pR h R i q))).cell? ⟨g, off + q * 8 + 6, none⟩ = some (.int .i64 yC) ∧ (w3.setCell ⟨bs i, q, none⟩ (.bool (pR h R i q))).cell? ⟨g, off + q * 8 + 7, none⟩ = some (.slice ya yu yc)) from ⟨(HC3.out.rw.cell i).trans (HC3.out.cl i (Nat.le_refl _) hi), hAi.out.under hgl (HC3.out.b1), hAq.out.under hgl (HC3.out.b1)⟩)
          refine hK.out _ _ hS2.out (fun hHeld2 => ?_)
          clear hK K hHeld hHeld2 hS2 fz cz
          try go_frame
          refine wpAnyH_done (by kernel_rfl) ?_ _
          generalize w3.setCell ⟨bs i, q, none⟩ (.bool (pR h R i q)) = w4 at *
          have HC4 := Lib.hid (HC3.out.known (D' := fun j x => j < x ∧ (j = i → x < q + 1)) (fun j z a b c d => by
            by_cases hz : z = q
            · by_cases hj : j = i
              · exact .inr ⟨hj, hz⟩
              · exact .inl ⟨d.1, fun e => absurd e hj⟩
            · exact .inl ⟨d.1, fun e => by have := d.2 e; omega⟩))
          clear HC3 HC2
          have c18 := (HC4.out.rw.cell i).trans (HC4.out.cl i (Nat.le_refl _) hi)
          have d18 := HC4.out.cell (j := i) (z := q) (Nat.le_refl _) hi hqn ⟨by omega, fun _ => by omega⟩
          have HMX2 := Lib.hid (mx_step HMX.out hq1)
          generalize hpp : pR h R i q = pb at d18 HMX2
          have HPB := Lib.hid hpp
          clear hpp HMX
          cases pb
          · go_wp2_with fail
            clear c18 d18
            go_roundw
            case rel => exact ⟨q + 1, by go_num, Lib.hid ⟨by omega, by omega, X2, m, HC4.out, HX2.out, HXI.out, by simpa using HMX2.out⟩⟩
            case measure => simp [intOf]; omega
          · go_upto_region 19 with fail
            clear c18 d18
            have e1 := (HC4.out.ls.at_ hi).1
            rw [HXI.out] at e1
            have e2 := (HC4.out.ls.at_ hqn).1
            rw [HX2.out q hq1 hqn] at e2
            have hlq := Lib.hid (ln_le (n := n) (P := pR h R) n q (by omega) hqn)
            have HMM := Lib.hid (show m ≤ n from by
              rcases HMX2.out.2.1 with e | ⟨k, k1, k2, k3, e⟩
              · simp at e; omega
              · have := ln_le (n := n) (P := pR h R) n k (by omega) (by omega); simp at e; omega)
            have wl : IntKind.i64.wrap (1 + (ln n (pR h R) q : Int)) = 1 + (ln n (pR h R) q : Int) := IntWalk.i64_in _ (by have := hlq.out; omega)
            generalize hlnq : ln n (pR h R) q = lq at *
            have HLQ := Lib.hid hlnq
            clear hlnq
            refine wp_region_held_drew (S := fun w' : World => w'.cell? ⟨w1.heap.size, q, none⟩ = some (.int .i64 (lq : Nat))) (by kernel_rfl) e2 (fun hHeld => ?_)
            refine tk 0 (oi := ⟨some 76, _, _, _, _, none⟩) rfl ?_
            try go_frame
            refine tk 1 (oi := ⟨some 77, _, _, _, _, none⟩) rfl ?_
            try go_frame
            refine tk 2 (oi := ⟨some 78, _, _, _, _, none⟩) rfl ?_
            try go_frame
            refine tk 3 (oi := ⟨some 79, _, _, _, _, none⟩) rfl ?_
            try go_frame
            refine tk 4 (oi := ⟨some 80, _, _, _, _, none⟩) rfl ?_
            try go_frame
            refine tk 6 (oi := ⟨some 82, _, _, _, _, none⟩) rfl ?_
            try go_frame
            refine tk 7 (oi := ⟨some 83, _, _, _, _, none⟩) rfl ?_
            try go_frame
            refine tk 8 (oi := ⟨some 84, _, _, _, _, none⟩) rfl ?_
            try go_frame
            refine tk 9 (oi := ⟨some 85, _, _, _, _, none⟩) rfl ?_
            try go_frame
            refine tk 10 (oi := ⟨some 86, _, _, _, _, none⟩) rfl ?_
            try go_frame
            have HC5 := Lib.hid (HC4.out.under (show Below w4.heap.size w4 w4.drew from ⟨rfl, rfl, rfl, Nat.le_refl _, fun _ _ => rfl⟩))
            refine wpAnyH_ready (rs := [5]) (by kernel_rfl) (by simp) ?_
            refine AllReadyH.cons (o := ⟨some 81, _, _, _, _, none⟩) rfl (fun K hK => ?_) AllReadyH.nil
            have e1d : w4.drew.cell? ⟨w1.heap.size, i, none⟩ = some (.int .i64 (m : Nat)) := e1
            go_simp
            refine hK.out _ _ hHeld (fun _ => ?_)
            clear hK K e1d
            try go_frame
            obtain ⟨mz, hmz⟩ : ∃ mz : Nat, max m (1 + lq) = mz := ⟨_, rfl⟩
            have hmx : max (m : Int) (1 + (lq : Int)) = (mz : Int) := by omega
            refine wpAnyH_ready (rs := [11]) (by kernel_rfl) (by simp) ?_
            refine AllReadyH.cons (o := ⟨some 87, _, _, _, _, none⟩) rfl (fun K hK => ?_) AllReadyH.nil
            go_simp
            refine hK.out _ _ hHeld (fun _ => ?_)
            clear hK K
            try go_frame
            refine tk 12 (oi := ⟨some 88, _, _, _, _, none⟩) rfl ?_
            try go_frame
            refine wpAnyH_ready (rs := [13]) (by kernel_rfl) (by simp) ?_
            refine AllReadyH.cons (o := ⟨none, _, _, _, _, none⟩) rfl (fun K hK => ?_) AllReadyH.nil
            have fl := (HC5.out.ls.at_ hi).2
            have e1d : w4.drew.cell? ⟨w1.heap.size, i, none⟩ = some (.int .i64 (m : Nat)) := e1
            have HC6 := Lib.hid ((HC4.out.len hi (mz : Int)).under (show Below (w4.setCell ⟨w1.heap.size, i, none⟩ (.int .i64 (mz : Int))).heap.size (w4.setCell ⟨w1.heap.size, i, none⟩ (.int .i64 (mz : Int))) (w4.setCell ⟨w1.heap.size, i, none⟩ (.int .i64 (mz : Int))).drew from ⟨rfl, rfl, rfl, Nat.le_refl _, fun _ _ => rfl⟩))
            go_simp
            have hS3 := (HC6.out.ls.at_ hqn).1
            rw [if_neg (show ¬ q = i by omega), HX2.out q hq1 hqn, HLQ.out] at hS3
            refine hK.out _ _ hS3 (fun _ => ?_)
            clear hK K hHeld hS3 fl e1d e1 e2 hmx
            try go_frame
            refine wpAnyH_done (by kernel_rfl) ?_ _
            generalize (w4.setCell ⟨w1.heap.size, i, none⟩ (.int .i64 (mz : Int))).drew = w5 at *
            have HMX3 := Lib.hid (show MxTo (pR h R) (ln n (pR h R)) i (q + 1) mz from by
              have h9 := HMX2.out
              rw [if_pos rfl] at h9
              rwa [hmz] at h9)
            clear HMX2 hmz HC5
            go_wp2_with fail
            go_roundw
            case rel => exact ⟨q + 1, by go_num, Lib.hid ⟨by omega, by omega, _, mz, HC6.out, fun j a b => by simp only [if_neg (show ¬ j = i by omega)]; exact HX2.out j a b, by simp only [if_true], HMX3.out⟩⟩
            case measure => simp [intOf]; omega
        · have jn : ¬ (q : Int) < (n : Int) := by omega
          obtain rfl : n = q := by omega
          have hml := ln_is hi (fun _ _ _ => rfl) HMX.out
          subst hml
          have cl := (HC.out.ls.at_ hi).1
          rw [HXI.out] at cl
          have HK := Lib.hid (HC.out.known (D' := fun j x => j < x) (fun j z a b c d => ⟨d, fun _ => c⟩))
          clear HC HMX
          obtain ⟨mz, hmz⟩ : ∃ mz : Nat, max mo (ln n (pR h R) i) = mz := ⟨_, rfl⟩
          have hmx : max (mo : Int) ((ln n (pR h R) i : Nat) : Int) = (mz : Int) := by omega
          have HF := Lib.hid (show ∃ s, Bs n (pR h R) i s ∧ mz = ln n (pR h R) s from by
            rcases HMO.out with ⟨a, b⟩ | ⟨s, hs, b⟩
            · exact ⟨i, by rw [show i = n - 1 by omega]; exact bs_last (by omega), by omega⟩
            · by_cases hle : ln n (pR h R) s ≤ ln n (pR h R) i
              · exact ⟨i, (bs_step hs).1 hle, by omega⟩
              · exact ⟨s, (bs_step hs).2 hle, by omega⟩)
          clear hmz HMO
          go_wp2_with fail
          go_roundw
          case rel => exact ⟨i, mz, rfl, rfl, by omega, Lib.hid ⟨X2, bs, cs, HK.out, fun j a b => by
            rcases (by omega : j = i ∨ i < j) with rfl | hj
            · exact HXI.out
            · exact HX2.out j hj b, .inr HF.out⟩⟩
          case measure => simp [intOf]
end Go.Proofs.YtejoabaanclcbaaGreat.Tk

