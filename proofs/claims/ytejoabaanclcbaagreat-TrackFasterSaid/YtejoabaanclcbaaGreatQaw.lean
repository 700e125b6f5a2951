/- Texts of this proof. -/
import Derived.Test.YtejoabaanclcbaaGreatQav
namespace Go.Proofs.YtejoabaanclcbaaGreat.Tk
open Go.RowKit

end Go.Proofs.YtejoabaanclcbaaGreat.Tk


namespace Go.Proofs.YtejoabaanclcbaaGreat.Tk
open Go.RowKit

/-- A row of truths, known in part. -/
def Bl (Y : World) (b n : Nat) (D : Nat → Prop) (f : Nat → Bool) : Prop := ∃ c, Row Y b 4 c ∧ c.size = n ∧ ∀ x, x < n → D x → c[x]? = some (.bool (f x))
theorem Bl.under {Y Y' : World} {b n : Nat} {D : Nat → Prop} {f : Nat → Bool} (h : Bl Y b n D f) (hb : Below Y.heap.size Y Y') : Bl Y' b n D f := by
  obtain ⟨c, h1, h2, h3⟩ := h
  exact ⟨c, h1.under hb, h2, h3⟩
theorem Bl.far {Y : World} {b n : Nat} {D : Nat → Prop} {f : Nat → Bool} (h : Bl Y b n D f) {g j : Nat} (hg : g ≠ b) (u : Value) : Bl (Y.setCell ⟨g, j, none⟩ u) b n D f := by
  obtain ⟨c, h1, h2, h3⟩ := h
  exact ⟨c, h1.far (p := ⟨g, j, none⟩) hg u, h2, h3⟩
/-- The lengths and the tables of what is plausible, from k on. -/
structure Rc (w1 : World) (n : Nat) (P : Nat → Nat → Bool) (X : Nat → Int) (bs : Nat → Nat) (D : Nat → Nat → Prop) (k : Nat) (cs : Array Value) (Y : World) : Prop where
  b1 : Below w1.heap.size w1 Y
  ls : Ns Y w1.heap.size n X
  rw : Row Y (w1.heap.size + 1) 44 cs
  sz : cs.size = n
  cl : ∀ j, k ≤ j → j < n → cs[j]? = some (.slice (some ⟨bs j, 0, none⟩) n n)
  rows : ∀ j, k ≤ j → j < n → Bl Y (bs j) n (D j) (P j)
  inj : ∀ j j', k ≤ j → j < j' → j' < n → bs j' < bs j
  lo : ∀ j, k ≤ j → j < n → w1.heap.size + 1 < bs j
section
variable {w1 Y Y' : World} {n : Nat} {P : Nat → Nat → Bool} {X : Nat → Int} {bs : Nat → Nat} {D : Nat → Nat → Prop} {k : Nat} {cs : Array Value}
theorem Rc.under (H : Rc w1 n P X bs D k cs Y) (hb : Below Y.heap.size Y Y') : Rc w1 n P X bs D k cs Y' :=
  ⟨H.b1.trans (hb.mono H.b1.size), H.ls.under hb, H.rw.under hb, H.sz, H.cl, fun j h1 h2 => (H.rows j h1 h2).under hb, H.inj, H.lo⟩
theorem ns_far {g m : Nat} {Z : Nat → Int} (h : Ns Y g m Z) {x j : Nat} (hx : x ≠ g) (u : Value) : Ns (Y.setCell ⟨x, j, none⟩ u) g m Z := by
  obtain ⟨c, h1, h2, h3⟩ := h
  exact ⟨c, h1.far (p := ⟨x, j, none⟩) hx u, h2, h3⟩
/-- A length is stored. -/
theorem Rc.len (H : Rc w1 n P X bs D k cs Y) {i : Nat} (hi : i < n) (y : Int) : Rc w1 n P (fun x => if x = i then y else X x) bs D k cs (Y.setCell ⟨w1.heap.size, i, none⟩ (.int .i64 y)) :=
  ⟨H.b1.setCell (p := ⟨w1.heap.size, i, none⟩) (Nat.le_refl _) _, H.ls.set hi y, H.rw.far (p := ⟨w1.heap.size, i, none⟩) (by simp only; omega) _, H.sz, H.cl, fun j h1 h2 => (H.rows j h1 h2).far (by have := H.lo j h1 h2; omega) _, H.inj, H.lo⟩
/-- A new row. -/
theorem Rc.row (H : Rc w1 n P X bs D (k + 1) cs Y) (hk : k < n) {c : Array Value} (hc : c.size = n) :
    Rc w1 n P X (fun j => if j = k then Y.heap.size else bs j) (fun j x => j ≠ k ∧ D j x) k (cs.setIfInBounds k (.slice (some ⟨Y.heap.size, 0, none⟩) n n)) ((Y.alloc (.cells c 4)).setCell ⟨w1.heap.size + 1, k, none⟩ (.slice (some ⟨Y.heap.size, 0, none⟩) n n)) := by
  have hb : Below Y.heap.size Y (Y.alloc (.cells c 4)) := (Below.refl _ _).alloc (Nat.le_refl _) _
  have hy := H.b1.size
  have hlt := H.rw.lt
  have hbl : ∀ j, k + 1 ≤ j → j < n → bs j < Y.heap.size := fun j h1 h2 => by
    obtain ⟨c', hr, -⟩ := H.rows j h1 h2
    exact hr.lt
  refine ⟨(H.b1.trans (hb.mono hy)).setCell (p := ⟨w1.heap.size + 1, k, none⟩) (by simp only; omega) _, ns_far (H.ls.under hb) (by omega) _, (H.rw.under hb).put k _, by simpa using H.sz, fun j h1 h2 => ?_, fun j h1 h2 => ?_, fun j j' h1 h2 h3 => ?_, fun j h1 h2 => ?_⟩
  · by_cases hj : j = k
    · subst hj
      rw [if_pos rfl, Array.getElem?_setIfInBounds, if_pos rfl, if_pos (by rw [H.sz]; exact h2)]
    · rw [if_neg hj, Array.getElem?_setIfInBounds, if_neg (fun e => hj e.symm)]
      exact H.cl j (by omega) h2
  · by_cases hj : j = k
    · subst hj
      simp only
      exact ⟨c, (Row.new Y c 4).far (p := ⟨w1.heap.size + 1, j, none⟩) (by simp only; omega) _, hc, fun x _ hx => absurd rfl hx.1⟩
    · simp only [if_neg hj]
      obtain ⟨c', e1, e2, e3⟩ := ((H.rows j (by omega) h2).under hb).far (g := w1.heap.size + 1) (j := k) (by have := H.lo j (by omega) h2; omega) (.slice (some ⟨Y.heap.size, 0, none⟩) n n)
      exact ⟨c', e1, e2, fun x hx hd => e3 x hx hd.2⟩
  · simp only [if_neg (show ¬ j' = k by omega)]
    by_cases hj : j = k
    · rw [if_pos hj]; exact hbl j' (by omega) h3
    · rw [if_neg hj]; exact H.inj j j' (by omega) h2 h3
  · by_cases hj : j = k
    · simp only [if_pos hj]; omega
    · simp only [if_neg hj]; exact H.lo j (by omega) h2
theorem Rc.known (H : Rc w1 n P X bs D k cs Y) {D' : Nat → Nat → Prop} (h : ∀ j z, k ≤ j → j < n → z < n → D' j z → D j z) : Rc w1 n P X bs D' k cs Y :=
  ⟨H.b1, H.ls, H.rw, H.sz, H.cl, fun j h1 h2 => by
    obtain ⟨c, e1, e2, e3⟩ := H.rows j h1 h2
    exact ⟨c, e1, e2, fun z hz hd => e3 z hz (h j z h1 h2 hz hd)⟩, H.inj, H.lo⟩
theorem Rc.cell (H : Rc w1 n P X bs D k cs Y) {j z : Nat} (h1 : k ≤ j) (h2 : j < n) (hz : z < n) (hd : D j z) : Y.cell? ⟨bs j, z, none⟩ = some (.bool (P j z)) := by
  obtain ⟨c, e1, e2, e3⟩ := H.rows j h1 h2
  exact (e1.cell z).trans (e3 z hz hd)
end
/-- A list of numbers that grows. -/
def Ow (W3 : World) (l : List Nat) (v : Value) (Y : World) : Prop := Below W3.heap.size W3 Y ∧ Y.ownsRow W3.heap.size 3 1 v l.length (ic l)
theorem Ow.under {W3 Y Y' : World} {l : List Nat} {v : Value} (h : Ow W3 l v Y) (hb : Below Y.heap.size Y Y') : Ow W3 l v Y' := ⟨h.1.trans (hb.mono h.1.size), own_under h.2 hb⟩
theorem Ow.app {W3 Y Y' : World} {l : List Nat} {v v' : Value} {k : Nat} (h : Ow W3 l v Y) (ho : Y'.ownsRow W3.heap.size 3 1 v' (l.length + 1) (ic l ++ [.int .i64 (k : Int)])) (hg : Y.grownBy Y' v.ownBlock) : Ow W3 (l ++ [k]) v' Y' :=
  ⟨below_own h.1 h.1.size h.2 hg, by rw [List.length_append]; simpa [ic] using ho⟩
/-- What is known while the chain is put together. -/
def G3 (n : Nat) (P : Nat → Nat → Bool) (s k : Nat) (l : List Nat) (mm : Nat) (lai : Int) : Prop :=
  (l = [] ∧ lai = -1 ∧ mm = ln n P s ∧ ∀ j, j < k → ln n P j ≠ ln n P s) ∨ ∃ la : Nat, lai = la ∧ la < k ∧ la < n ∧ ln n P la = mm + 1 ∧ chn n P s = l ++ chf n P mm (nx n P la) ∧ (1 ≤ mm → k ≤ nx n P la)
/-- What is known between the rounds of the first loop. -/
def L1 (w1 : World) (n : Nat) (P : Nat → Nat → Bool) (k mo : Nat) (Y : World) : Prop := ∃ X bs cs, Rc w1 n P X bs (fun j x => j < x) k cs Y ∧ (∀ j, k ≤ j → j < n → X j = ln n P j) ∧ ((k = n ∧ mo = 0) ∨ ∃ s, Bs n P k s ∧ mo = ln n P s)
/-- And of the second. -/
def L2 (w1 : World) (n : Nat) (P : Nat → Nat → Bool) (bs : Nat → Nat) (cs : Array Value) (i q : Nat) (Y : World) : Prop := i < q ∧ q ≤ n ∧ ∃ X m, Rc w1 n P X bs (fun j x => j < x ∧ (j = i → x < q)) i cs Y ∧ (∀ j, i < j → j < n → X j = ln n P j) ∧ X i = (m : Nat) ∧ MxTo P (ln n P) i q m
/-- What the reference's chain answers. -/
def RchO (h : Int) (R : List Rq) (w : World) (e : Ending) (w' : World) : Prop := ∃ l v, Best R.length (pR h R) l ∧ e = .returned v ∧ IlIn w' v l ∧ Below w.heap.size w w'
end Go.Proofs.YtejoabaanclcbaaGreat.Tk


namespace Go.Proofs.YtejoabaanclcbaaGreat.Tk
open Go.RowKit

/-- The first times ascend. -/
def ascRTo (R : List Rq) (n : Nat) : Prop := ∀ i, i + 1 < n → ∀ h : i + 1 < R.length, R[i].t < R[i + 1].t
def okTo (R : List Rq) (n : Nat) : Prop := ∀ i, i < n → ∀ h : i < R.length, okr R[i] = true
end Go.Proofs.YtejoabaanclcbaaGreat.Tk


namespace Go.Proofs.YtejoabaanclcbaaGreat.Tk
open Go.RowKit

theorem il_len {W : World} {v : Value} {l : List Nat} (h : IlIn W v l) : l.length ≤ 9223372036854775807 := by
  rcases h.2 with ⟨-, h0⟩ | ⟨g, cap, cur, rfl, h1, h2, h3, h4, h5⟩
  · omega
  · unfold maxLen at h4; omega
theorem il_form {W : World} {v : Value} {l : List Nat} (h : IlIn W v l) : ∃ A c, v = .slice A l.length c := own_form h
theorem il_at {W : World} {v : Value} {l : List Nat} (h : IlIn W v l) {i : Nat} (hi : i < l.length) : ∃ g c, v = .slice (some ⟨g, 0, none⟩) l.length c ∧ l.length ≤ c ∧ c ≤ 9223372036854775807 ∧ W.cell? ⟨g, i, none⟩ = some (.int .i64 (l[i] : Int)) := by
  rcases h.2 with ⟨-, h0⟩ | ⟨g, cap, cur, rfl, h1, h2, h3, h4, h5, h6⟩
  · omega
  · refine ⟨g, cap, rfl, h3, by unfold maxLen at h4; omega, ?_⟩
    have h7 : W.cell? ⟨g, i, none⟩ = cur[i]? := by simp [World.cell?, h2]
    have h8 : (ic l)[i]? = some (.int .i64 (l[i] : Int)) := by simp [ic, List.getElem?_eq_getElem hi]
    rw [h7, ← h8, ← h6, ← Array.getElem?_toList, List.getElem?_take, if_pos (by omega)]
/-- The first numbers agree. -/
def eqTo (a b : List Nat) (i : Nat) : Prop := ∀ j, j < i → a[j]? = b[j]?
theorem eqTo_all {a b : List Nat} (hl : a.length = b.length) (h : eqTo a b a.length) : a = b := by
  refine List.ext_getElem? fun i => ?_
  by_cases hi : i < a.length
  · exact h i hi
  · rw [List.getElem?_eq_none (by omega), List.getElem?_eq_none (by omega)]
set_option maxHeartbeats 4000000 in
theorem ints_any (u v : Value) (a b : List Nat) (w : World) (ha : IlIn w u a) (hb : IlIn w v b) (hl : a.length ≤ 100000) :
    Calls Tryz.prog 18 #[u, v] w fun e w' => e = .returned (.bool (decide (a = b))) ∧ Below w.heap.size w w' := by
  obtain ⟨A, c1, rfl⟩ := il_form ha
  obtain ⟨B, c2, rfl⟩ := il_form hb
  have HA := Lib.hid ha; clear ha
  have HB := Lib.hid hb; clear hb
  obtain ⟨z, hz⟩ : ∃ z, decide (a = b) = z := ⟨_, rfl⟩
  have HZ := Lib.hid hz
  rw [hz]; clear hz
  by_cases hn : a.length = b.length
  · have HN := Lib.hid hn
    have k9 : ((a.length : Int) == (b.length : Int)) = true := by rw [beq_iff_eq]; omega
    rw [← hn] at HB k9 ⊢
    clear hn k9
    go_enter Tryz.func18, Tryz.ntmps18
    go_wp2_with fail
    go_loopw [5] (fun t wr => ∃ i : Nat, i ≤ a.length ∧ t = .int .i64 (i : Int) ∧ Hid (eqTo a b i) ∧ Hid (Below w.heap.size w wr)) (fun t _ => a.length - (intOf t).toNat)
    case atStart => exact ⟨0, by omega, rfl, Lib.hid (fun i hi => by omega), Lib.hid (Below.refl _ _)⟩
    case round =>
      obtain ⟨i, hi, rfl, HT, HW⟩ := hrel
      by_cases hlt : i < a.length
      · have k0 : (i : Int) < (a.length : Int) := by omega
        have k1 : (0 : Int) ≤ (i : Int) := by omega
        have hib : i < b.length := by have := HN.out; omega
        have HBn : b.length = a.length := HN.out.symm
        obtain ⟨g, c, e1, m1, m2, p1⟩ := il_at (HA.out.under HW.out) hlt
        obtain ⟨g', c', e2, m3, m4, q1⟩ := il_at (by have h9 := HB.out; exact h9.under HW.out) hib
        obtain ⟨rfl, rfl⟩ : A = some ⟨g, 0, none⟩ ∧ c1 = c := by injection e1 with x1 x2 x3; exact ⟨x1, x3⟩
        obtain ⟨rfl, rfl⟩ : B = some ⟨g', 0, none⟩ ∧ c2 = c' := by injection e2 with x1 x2 x3; exact ⟨x1, x3⟩
        rw [HBn] at m3
        clear e1 e2
        have HST := Lib.hid (show a[i] = b[i] → eqTo a b (i + 1) from fun h j hj => by
          rcases (by omega : j < i ∨ j = i) with hj' | rfl
          · exact HT.out j hj'
          · rw [List.getElem?_eq_getElem hlt, List.getElem?_eq_getElem hib, h])
        have HNO := Lib.hid (show a[i] ≠ b[i] → ¬ a = b from fun h h' => by subst h'; exact h rfl)
        clear HBn
        generalize a[i] = x at *
        generalize b[i] = y at *
        clear hib
        go_upto_region 6 with fail
        refine wp_region_held_drew (S := fun w' : World => w'.cell? ⟨g, i, none⟩ = some (.int .i64 (x : Int)) ∧ w'.cell? ⟨g', i, none⟩ = some (.int .i64 (y : Int))) (by kernel_rfl) ⟨p1, q1⟩ (fun hHeld => ?_)
        refine wpAnyH_take (i := 0) (oi := ⟨some 17, _, _, _, _, none⟩) (v := ?_) rfl (by kernel_rfl) (by kernel_rfl) (by kernel_rfl) (fun _ _ _ h => h) (Or.inl ⟨by rfl, ?_⟩) (by assumption) ?_
        case refine_2 => (intro wx hSx; (try dsimp only at hSx); go_simp; first | done | with_reducible rfl)
        ((try simp only [Act.put]); (try simp only [List.setIfInBounds_toArray]); (try simp only [List.set_cons_succ]); (try simp only [List.set_cons_zero]))
        refine wpAnyH_take (i := 1) (oi := ⟨some 18, _, _, _, _, none⟩) (v := ?_) rfl (by kernel_rfl) (by kernel_rfl) (by kernel_rfl) (fun _ _ _ h => h) (Or.inl ⟨by rfl, ?_⟩) (by assumption) ?_
        case refine_2 => (intro wx hSx; (try dsimp only at hSx); go_simp; first | done | with_reducible rfl)
        ((try simp only [Act.put]); (try simp only [List.setIfInBounds_toArray]); (try simp only [List.set_cons_succ]); (try simp only [List.set_cons_zero]))
        refine wpAnyH_take (i := 2) (oi := ⟨some 19, _, _, _, _, none⟩) (v := ?_) rfl (by kernel_rfl) (by kernel_rfl) (by kernel_rfl) (fun _ _ _ h => h) (Or.inl ⟨by rfl, ?_⟩) (by assumption) ?_
        case refine_2 => (intro wx hSx; (try dsimp only at hSx); go_simp; first | done | with_reducible rfl)
        ((try simp only [Act.put]); (try simp only [List.setIfInBounds_toArray]); (try simp only [List.set_cons_succ]); (try simp only [List.set_cons_zero]))
        refine wpAnyH_take (i := 3) (oi := ⟨some 20, _, _, _, _, none⟩) (v := ?_) rfl (by kernel_rfl) (by kernel_rfl) (by kernel_rfl) (fun _ _ _ h => h) (Or.inl ⟨by rfl, ?_⟩) (by assumption) ?_
        case refine_2 => (intro wx hSx; (try dsimp only at hSx); go_simp; first | done | with_reducible rfl)
        ((try simp only [Act.put]); (try simp only [List.setIfInBounds_toArray]); (try simp only [List.set_cons_succ]); (try simp only [List.set_cons_zero]))
        refine wpAnyH_take (i := 4) (oi := ⟨some 21, _, _, _, _, none⟩) (v := ?_) rfl (by kernel_rfl) (by kernel_rfl) (by kernel_rfl) (fun _ _ _ h => h) (Or.inl ⟨by rfl, ?_⟩) (by assumption) ?_
        case refine_2 => (intro wx hSx; (try dsimp only at hSx); go_simp; first | done | with_reducible rfl)
        ((try simp only [Act.put]); (try simp only [List.setIfInBounds_toArray]); (try simp only [List.set_cons_succ]); (try simp only [List.set_cons_zero]))
        refine wpAnyH_take (i := 5) (oi := ⟨some 22, _, _, _, _, none⟩) (v := ?_) rfl (by kernel_rfl) (by kernel_rfl) (by kernel_rfl) (fun _ _ _ h => h) (Or.inl ⟨by rfl, ?_⟩) (by assumption) ?_
        case refine_2 => (intro wx hSx; (try dsimp only at hSx); go_simp; first | done | with_reducible rfl)
        ((try simp only [Act.put]); (try simp only [List.setIfInBounds_toArray]); (try simp only [List.set_cons_succ]); (try simp only [List.set_cons_zero]))
        refine wpAnyH_take (i := 6) (oi := ⟨some 23, _, _, _, _, none⟩) (v := ?_) rfl (by kernel_rfl) (by kernel_rfl) (by kernel_rfl) (fun _ _ _ h => h) (Or.inl ⟨by rfl, ?_⟩) (by assumption) ?_
        case refine_2 => (intro wx hSx; (try dsimp only at hSx); go_simp; first | done | with_reducible rfl)
        ((try simp only [Act.put]); (try simp only [List.setIfInBounds_toArray]); (try simp only [List.set_cons_succ]); (try simp only [List.set_cons_zero]))
        refine wpAnyH_take (i := 7) (oi := ⟨some 24, _, _, _, _, none⟩) (v := ?_) rfl (by kernel_rfl) (by kernel_rfl) (by kernel_rfl) (fun _ _ _ h => h) (Or.inl ⟨by rfl, ?_⟩) (by assumption) ?_
        case refine_2 => (intro wx hSx; (try dsimp only at hSx); go_simp; first | done | with_reducible rfl)
        ((try simp only [Act.put]); (try simp only [List.setIfInBounds_toArray]); (try simp only [List.set_cons_succ]); (try simp only [List.set_cons_zero]))
        refine wpAnyH_take (i := 8) (oi := ⟨some 25, _, _, _, _, none⟩) (v := ?_) rfl (by kernel_rfl) (by kernel_rfl) (by kernel_rfl) (fun _ _ _ h => h) (Or.inl ⟨by rfl, ?_⟩) (by assumption) ?_
        case refine_2 => (intro wx hSx; (try dsimp only at hSx); go_simp; first | done | with_reducible rfl)
        ((try simp only [Act.put]); (try simp only [List.setIfInBounds_toArray]); (try simp only [List.set_cons_succ]); (try simp only [List.set_cons_zero]))
        refine wpAnyH_done (by kernel_rfl) ?_ _
        have HB2 := Lib.hid (HW.out.trans (show Below w.heap.size wr wr.drew from ⟨rfl, rfl, rfl, Nat.le_refl _, fun _ _ => rfl⟩))
        clear hHeld p1 q1
        by_cases hxy : x = y
        · have HS2 := Lib.hid (HST.out hxy)
          subst hxy
          clear HST HNO
          go_wp2_with fail
          go_roundw
          case rel => exact ⟨i + 1, by omega, by go_num, HS2, HB2⟩
          case measure => simp [intOf]; omega
        · have hc : ((x : Int) == (y : Int)) = false := by rw [beq_eq_false_iff_ne]; omega
          have HN2 := Lib.hid (HNO.out hxy)
          clear HST HNO
          go_wp2_with fail
          go_ret
          exact ⟨by rw [← HZ.out, decide_eq_false HN2.out]; rfl, HB2.out⟩
      · have k0 : ¬ (i : Int) < (a.length : Int) := by omega
        have HY := Lib.hid (show a = b from eqTo_all HN.out (fun j hj => HT.out j (by omega)))
        go_wp2_with fail
        go_ret
        exact ⟨by rw [← HZ.out, decide_eq_true HY.out]; rfl, HW.out⟩
  · have k9 : ((a.length : Int) == (b.length : Int)) = false := by rw [beq_eq_false_iff_ne]; omega
    have HN := Lib.hid (show ¬ a = b from fun h => hn (by rw [h])); clear hn
    go_enter Tryz.func18, Tryz.ntmps18
    go_wp2_with fail
    go_ret
    exact ⟨by rw [← HZ.out, decide_eq_false HN.out]; rfl, Below.refl _ _⟩
end Go.Proofs.YtejoabaanclcbaaGreat.Tk

