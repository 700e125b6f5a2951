/- Texts of this proof. -/
import Derived.Test.YtlakgkoohdfiaaaDoorQaa
namespace Go.Proofs.YtlakgkoohdfiaaaDoor.Tm
/-- A reading of a line. -/
structure Pt where
  v : Int
  t : Int
  i : Nat
instance : Inhabited Pt := ⟨⟨0, 0, 0⟩⟩
def hrs (a b : Pt) : Int := (b.t - a.t + 59) / 60
def slw (s : Int) (a b : Pt) : Bool := decide (b.v - a.v ≤ s * hrs a b ∧ a.v - b.v ≤ s * hrs a b)
def pa (L : List Pt) (i : Nat) : Pt := L.getD i default
theorem pa_get {L : List Pt} {i : Nat} (h : i < L.length) : pa L i = L[i] := by simp [pa, List.getD, h]
/-- The step rule: bad at i, the last good one being g. -/
def bad (s : Int) (L : List Pt) (g i : Nat) : Bool := !(slw s (pa L g) (pa L i)) && !(decide (i + 1 < L.length) && slw s (pa L i) (pa L (i + 1)))
/-- The last good one before i. -/
def gd (s : Int) (L : List Pt) : Nat → Nat
  | 0 => 0
  | i + 1 => if bad s L (gd s L i) i = true then gd s L i else i
def rj (s : Int) (L : List Pt) (i : Nat) : Bool := bad s L (gd s L i) i
/-- The spike rule at i. -/
def spk (p : Int) (L : List Pt) (i : Nat) : Bool := decide (0 < p ∧ 0 < i ∧ i + 1 < L.length ∧
  ((pa L i).v > (pa L (i - 1)).v + p ∧ (pa L i).v > (pa L (i + 1)).v + p ∨ (pa L i).v < (pa L (i - 1)).v - p ∧ (pa L i).v < (pa L (i + 1)).v - p) ∧
  (pa L (i - 1)).v - (pa L (i + 1)).v ≤ p ∧ (pa L (i + 1)).v - (pa L (i - 1)).v ≤ p)
def rjt (s p : Int) (L : List Pt) (i : Nat) : Bool := (decide (0 < s) && rj s L i) || spk p L i
theorem slw_self (s : Int) (a : Pt) : slw s a a = true := by
  unfold slw hrs
  rw [Int.sub_self, Int.sub_self]
  exact decide_eq_true ⟨by simp, by simp⟩
theorem rj_zero (s : Int) (L : List Pt) : rj s L 0 = false := by
  unfold rj bad gd
  rw [slw_self]; rfl
theorem gd_le (s : Int) (L : List Pt) : ∀ i, gd s L i ≤ i
  | 0 => Nat.le_refl _
  | i + 1 => by
    unfold gd
    split
    · have := gd_le s L i; omega
    · omega
theorem gd_lt (s : Int) (L : List Pt) {i : Nat} (h : 0 < i) : gd s L i < i := by
  obtain ⟨j, rfl⟩ : ∃ j, i = j + 1 := ⟨i - 1, by omega⟩
  unfold gd
  split
  · have := gd_le s L j; omega
  · omega
theorem gd_one (s : Int) (L : List Pt) : gd s L 1 = 0 := by
  have := gd_lt s L (i := 1) (by omega); omega

/-! The same line, shifted. -/
/-- Two lines whose readings differ by the same value and the same time. -/
structure Sft (a b : Int) (L L' : List Pt) : Prop where
  len : L'.length = L.length
  v : ∀ i, i < L.length → (pa L' i).v = (pa L i).v + a
  t : ∀ i, i < L.length → (pa L' i).t = (pa L i).t + b
section
variable {a b : Int} {L L' : List Pt}
theorem Sft.slw (h : Sft a b L L') (s : Int) {i j : Nat} (hi : i < L.length) (hj : j < L.length) : slw s (pa L' i) (pa L' j) = slw s (pa L i) (pa L j) := by
  unfold Tm.slw hrs
  rw [h.v i hi, h.v j hj, h.t i hi, h.t j hj]
  rw [show (pa L j).t + b - ((pa L i).t + b) = (pa L j).t - (pa L i).t by omega, show (pa L j).v + a - ((pa L i).v + a) = (pa L j).v - (pa L i).v by omega, show (pa L i).v + a - ((pa L j).v + a) = (pa L i).v - (pa L j).v by omega]
theorem Sft.bad (h : Sft a b L L') (s : Int) {g i : Nat} (hg : g < L.length) (hi : i < L.length) : bad s L' g i = bad s L g i := by
  unfold Tm.bad
  rw [h.slw s hg hi, h.len]
  by_cases k : i + 1 < L.length
  · rw [h.slw s hi k]
  · simp [k]
theorem Sft.gd (h : Sft a b L L') (s : Int) : ∀ i, i ≤ L.length → gd s L' i = gd s L i
  | 0, _ => rfl
  | i + 1, hi => by
    unfold Tm.gd
    rw [h.gd s i (by omega), h.bad s (by have := gd_le s L i; omega) (by omega)]
theorem Sft.rjt (h : Sft a b L L') (s p : Int) {i : Nat} (hi : i < L.length) : rjt s p L' i = rjt s p L i := by
  unfold Tm.rjt
  have e1 : rj s L' i = rj s L i := by
    unfold rj
    rw [h.gd s i (by omega), h.bad s (by have := gd_le s L i; omega) hi]
  have e2 : spk p L' i = spk p L i := by
    unfold spk
    rw [h.len]
    by_cases k : i + 1 < L.length
    · rw [h.v i hi, h.v (i + 1) k, h.v (i - 1) (by omega)]
      refine decide_eq_decide.2 ?_
      constructor
      · rintro ⟨h0, h1, h2, h3, h4, h5⟩; exact ⟨h0, h1, h2, by omega, by omega, by omega⟩
      · rintro ⟨h0, h1, h2, h3, h4, h5⟩; exact ⟨h0, h1, h2, by omega, by omega, by omega⟩
    · simp [k]
  rw [e1, e2]
end

/-! Lines. -/
/-- A list of points in strictly ascending time. -/
def Srt (L : List Pt) : Prop := L.Pairwise fun x y => x.t < y.t
end Go.Proofs.YtlakgkoohdfiaaaDoor.Tm

namespace Go.Proofs.YtlakgkoohdfiaaaDoor.Tm
open Go.RowKit

/-- The cells of a point, and of a flag. -/
def ptE (x : Pt) : List Value := [.int .i64 x.v, .int .i64 x.t, .int .i64 (x.i : Int)]
def flE (q : Nat × Int) : List Value := [.int .i64 (q.1 : Int), .int .i64 q.2, .int .i64 4]
theorem ptE_len (x : Pt) : (ptE x).length = 3 := rfl
theorem flE_len (x : Nat × Int) : (flE x).length = 3 := rfl
section
variable {α : Type} {f : α → List Value}
def rc (f : α → List Value) (L : List α) : List Value := L.flatMap f
theorem rc_len (h : ∀ x, (f x).length = 3) (L : List α) : (rc f L).length = L.length * 3 := by
  induction L with
  | nil => rfl
  | cons x L ih => show (f x ++ rc f L).length = _; rw [List.length_append, ih, h, List.length_cons]; omega
theorem rc_at (h : ∀ x, (f x).length = 3) : ∀ (L : List α) (i : Nat) (hi : i < L.length) (j : Nat), j < 3 → (rc f L)[i * 3 + j]? = (f L[i])[j]?
  | x :: r, 0, _, j, hj => by
    show (f x ++ rc f r)[0 * 3 + j]? = _
    rw [Nat.zero_mul, Nat.zero_add, List.getElem?_append_left (by rw [h]; exact hj)]
    rfl
  | x :: r, i + 1, hi, j, hj => by
    have := rc_at h r i (by simpa using hi) j hj
    show (f x ++ rc f r)[(i + 1) * 3 + j]? = _
    rw [List.getElem?_append_right (by rw [h]; omega), show (i + 1) * 3 + j - (f x).length = i * 3 + j by rw [h]; omega]
    exact this
theorem rc_app (L : List α) (x : α) : rc f (L ++ [x]) = rc f L ++ f x := by simp [rc]
/-- A list of such structs in memory. -/
def In3 (f : α → List Value) (W : World) (v : Value) (L : List α) : Prop := ∃ A cap, v = .slice A L.length cap ∧ L.length ≤ cap ∧ cap ≤ 9223372036854775807 ∧ ∀ i (h : i < L.length), ∃ g off, A = some ⟨g, off, none⟩ ∧ g < W.heap.size ∧ ∀ j, j < 3 → W.cell? ⟨g, off + i * 3 + j, none⟩ = (f L[i])[j]?
theorem In3.under {W W' : World} {v : Value} {L : List α} (h : In3 f W v L) (hb : Below W.heap.size W W') : In3 f W' v L := by
  obtain ⟨A, cap, h1, h2, h3, h4⟩ := h
  refine ⟨A, cap, h1, h2, h3, fun i hi => ?_⟩
  obtain ⟨g, off, e, hg, h8⟩ := h4 i hi
  exact ⟨g, off, e, Nat.lt_of_lt_of_le hg hb.size, fun j hj => (hb.cell (p := ⟨g, off + i * 3 + j, none⟩) hg).trans (h8 j hj)⟩
theorem In3.own {W : World} {base : Nat} {e : TypeId} {v : Value} {L : List α} (hf : ∀ x, (f x).length = 3) (h : W.ownsRow base e 3 v L.length (rc f L)) : In3 f W v L := by
  rcases h.2 with ⟨rfl, h0⟩ | ⟨g, cap, cur, rfl, hb, hg, hc, hm, hs, hx⟩
  · exact ⟨none, 0, by rw [h0], by omega, by omega, fun i hi => by omega⟩
  · refine ⟨some ⟨g, 0, none⟩, cap, rfl, hc, by unfold maxLen at hm; omega, fun i hi => ⟨g, 0, rfl, (Array.getElem?_eq_some_iff.1 hg).1, fun j hj => ?_⟩⟩
    have h1 : W.cell? ⟨g, 0 + i * 3 + j, none⟩ = cur[0 + i * 3 + j]? := by simp [World.cell?, hg]
    rw [h1, ← rc_at hf L i hi j hj, ← hx, Nat.zero_add, ← Array.getElem?_toList, List.getElem?_take, if_pos (by omega)]
end
end Go.Proofs.YtlakgkoohdfiaaaDoor.Tm

namespace Go.Proofs.YtlakgkoohdfiaaaDoor.Tm
open Go.RowKit

theorem hours_any (m : Int) (w : World) (h0 : 0 ≤ m) (h1 : m ≤ 52595999) :
    Calls Tryd.prog 111 #[.int .i64 m] w fun e w' => e = .returned (.int .i64 ((m + 59) / 60)) ∧ w' = w := by
  have hq : (m + 60 - 1) / 60 = (m + 59) / 60 := by congr 1; omega
  have HQ := Lib.hid hq; clear hq
  go_enter Tryd.func111, Tryd.ntmps111
  go_wp2_with fail
  go_ret
  exact ⟨ret_i64 HQ.out, rfl⟩
/-- Values and times of a line as readings may have them. -/
def Pb (x : Pt) : Prop := (-11000 ≤ x.v ∧ x.v ≤ 11000) ∧ 0 ≤ x.t ∧ x.t ≤ 52595999
theorem hrs_bd {a b : Pt} (ha : Pb a) (hb : Pb b) (h : a.t ≤ b.t) : 0 ≤ hrs a b ∧ hrs a b ≤ 876601 := by
  unfold hrs
  obtain ⟨-, h1, h2⟩ := ha
  obtain ⟨-, h3, h4⟩ := hb
  omega
set_option maxHeartbeats 2000000 in
theorem slow_any (x y : Pt) (s : Int) (gs : Nat) (w : World) (hx : Pb x) (hy : Pb y) (ht : x.t ≤ y.t) (s0 : 0 ≤ s) (s1 : s ≤ 10000) (hg : gs < w.heap.size) (hc : w.cell? ⟨gs, 0, none⟩ = some (.int .i64 s)) :
    Calls Tryd.prog 110 #[.agg (ptE x).toArray, .agg (ptE y).toArray, .pointer (some ⟨gs, 0, none⟩)] w fun e w' => e = .returned (.bool (slw s x y)) ∧ Below w.heap.size w w' := by
  obtain ⟨h1, h2⟩ := hrs_bd hx hy ht
  have hp0 : 0 ≤ s * hrs x y := Int.mul_nonneg s0 h1
  have hp1 : s * hrs x y ≤ 10000 * 876601 := Int.mul_le_mul s1 h2 h1 (by decide)
  have hm := hours_any (y.t - x.t)
  have HE : Hid (slw s x y = (decide (y.v - x.v ≤ s * hrs x y) && decide (x.v - y.v ≤ s * hrs x y))) := Lib.hid (by unfold slw; exact Bool.decide_and _ _)
  have hh : hrs x y = (y.t - x.t + 59) / 60 := rfl
  obtain ⟨xv, xt, xi⟩ := x
  obtain ⟨yv, yt, yi⟩ := y
  obtain ⟨⟨a1, a2⟩, a3, a4⟩ := hx
  obtain ⟨⟨b1, b2⟩, b3, b4⟩ := hy
  dsimp only at a1 a2 a3 a4 b1 b2 b3 b4 ht hm HE hh
  rw [hh] at h1 h2 hp0 hp1 HE
  generalize (yt - xt + 59) / 60 = H at *
  clear hh
  generalize slw s ⟨xv, xt, xi⟩ ⟨yv, yt, yi⟩ = z at *
  have HM := Lib.hid hm; clear hm
  show Calls Tryd.prog 110 #[.agg #[.int .i64 xv, .int .i64 xt, .int .i64 (xi : Int)], .agg #[.int .i64 yv, .int .i64 yt, .int .i64 (yi : Int)], .pointer (some ⟨gs, 0, none⟩)] w _
  have b0 := ((Below.refl w.heap.size w).alloc (Nat.le_refl _) (.cells #[.int .i64 xv, .int .i64 xt, .int .i64 (xi : Int)] 137)).alloc (by simp) (.cells #[.int .i64 yv, .int .i64 yt, .int .i64 (yi : Int)] 137)
  have I0 : Hid (Below w.heap.size w ((w.alloc (.cells #[.int .i64 xv, .int .i64 xt, .int .i64 (xi : Int)] 137)).alloc (.cells #[.int .i64 yv, .int .i64 yt, .int .i64 (yi : Int)] 137)) ∧ Row ((w.alloc (.cells #[.int .i64 xv, .int .i64 xt, .int .i64 (xi : Int)] 137)).alloc (.cells #[.int .i64 yv, .int .i64 yt, .int .i64 (yi : Int)] 137)) w.heap.size 137 #[.int .i64 xv, .int .i64 xt, .int .i64 (xi : Int)] ∧ Row ((w.alloc (.cells #[.int .i64 xv, .int .i64 xt, .int .i64 (xi : Int)] 137)).alloc (.cells #[.int .i64 yv, .int .i64 yt, .int .i64 (yi : Int)] 137)) (w.heap.size + 1) 137 #[.int .i64 yv, .int .i64 yt, .int .i64 (yi : Int)]) := Lib.hid ⟨b0, (Row.new _ _ _).alloc _, Row.newAt (by simp)⟩
  have HC := Lib.hid hc
  have HG := Lib.hid hg
  clear b0 hc hg
  go_enter Tryd.func110, Tryd.ntmps110
  go_upto_region 1 with fail
  refine forget (fun Y => Hid (Below w.heap.size w Y ∧ Row Y w.heap.size 137 #[.int .i64 xv, .int .i64 xt, .int .i64 (xi : Int)] ∧ Row Y (w.heap.size + 1) 137 #[.int .i64 yv, .int .i64 yt, .int .i64 (yi : Int)])) I0 ?_
  clear I0
  have HCg : Hid (∀ Y, Below w.heap.size w Y → Y.cell? ⟨gs, 0, none⟩ = some (.int .i64 s)) := Lib.hid (fun Y h => (h.cell (p := ⟨gs, 0, none⟩) HG.out).trans HC.out)
  clear HC HG
  obtain ⟨gy, hgy⟩ : ∃ g, w.heap.size + 1 = g := ⟨_, rfl⟩
  obtain ⟨gx, hgx⟩ : ∃ g, w.heap.size = g := ⟨_, rfl⟩
  have HGX := Lib.hid hgx
  rw [hgy, hgx]
  clear hgy hgx
  rintro Y HY
  have k0 := HCg.out Y (HGX.out ▸ HY.out.1)
  obtain ⟨p0, p1, p2⟩ := row3 HY.out.2.1
  obtain ⟨q0, q1, q2⟩ := row3 HY.out.2.2
  have hwr : IntKind.i64.wrap (yt - xt) = yt - xt := IntWalk.i64_in _ (by omega)
  have hws : IntKind.i64.wrap (s * H) = s * H := IntWalk.i64_in _ (by omega)
  go_region_held3 (fun w' => w'.cell? ⟨gs, 0, none⟩ = some (.int .i64 s) ∧ w'.cell? ⟨gx, 1, none⟩ = some (.int .i64 xt) ∧ w'.cell? ⟨gy, 1, none⟩ = some (.int .i64 yt)) (go_keep) ((go_at_call 111; refine (HM.out _ (by omega) (by omega)).mono ?_; rintro e w1 ⟨rfl, rfl⟩))
  have HB := Lib.hid HY.out.1
  obtain ⟨c1, hc1⟩ : ∃ c, decide (yv - xv ≤ s * H) = c := ⟨_, rfl⟩
  obtain ⟨c2, hc2⟩ : ∃ c, decide (xv - yv ≤ s * H) = c := ⟨_, rfl⟩
  rw [hc1, hc2] at HE
  cases c1 with
  | true =>
    have j1 := of_decide_eq_true hc1
    clear hc1
    go_wp2_with fail
    go_ret
    exact ⟨ret_bool (by rw [HE.out]; rfl), below_drewN (HGX.out ▸ HB.out) 1⟩
  | false =>
    have j1 := of_decide_eq_false hc1
    clear hc1
    go_wp2_with fail
    go_ret
    exact ⟨ret_bool (by rw [HE.out]; rfl), below_drewN (HGX.out ▸ HB.out) 1⟩
/-- The cells of a struct of three in memory, in the walk's form. -/
theorem In3.cells {W : World} {L : List Pt} {A : Option Addr} {n cap : Nat} (h : In3 ptE W (.slice A n cap) L) {i : Nat} (hi : i < L.length) : ∃ g off, A = some ⟨g, off, none⟩ ∧ g < W.heap.size ∧ W.cell? ⟨g, off + i * 3, none⟩ = some (.int .i64 (pa L i).v) ∧ W.cell? ⟨g, off + i * 3 + 1, none⟩ = some (.int .i64 (pa L i).t) ∧ W.cell? ⟨g, off + i * 3 + 2, none⟩ = some (.int .i64 ((pa L i).i : Int)) := by
  obtain ⟨A', cap', e, -, -, hat⟩ := h
  injection e with e1 e2 e3
  subst e1
  obtain ⟨g, off, e, hg, hc⟩ := hat i hi
  rw [pa_get hi]
  exact ⟨g, off, e, hg, hc 0 (by omega), hc 1 (by omega), hc 2 (by omega)⟩
theorem In3.form {α : Type} {f : α → List Value} {W : World} {v : Value} {L : List α} (h : In3 f W v L) : ∃ A cap, v = .slice A L.length cap ∧ L.length ≤ 9223372036854775807 := by
  obtain ⟨A, cap, e, h1, h2, -⟩ := h
  exact ⟨A, cap, e, by omega⟩
theorem spk_eq {p : Int} {L : List Pt} {i : Nat} (h0 : 0 < p) (h1 : 0 < i) (h2 : i + 1 < L.length) {lo hi : Int} (hlo : min (pa L (i - 1)).v (pa L (i + 1)).v = lo) (hhi : max (pa L (i - 1)).v (pa L (i + 1)).v = hi) :
    spk p L i = (decide (hi - lo ≤ p) && (decide ((pa L i).v > hi + p) || decide ((pa L i).v < lo - p))) := by
  unfold spk
  rw [Bool.eq_iff_iff]
  simp only [Bool.and_eq_true, Bool.or_eq_true, decide_eq_true_eq]
  omega
theorem spk_zero (L : List Pt) (i : Nat) : spk 0 L i = false := by unfold spk; simp
theorem spk_first (p : Int) (L : List Pt) : spk p L 0 = false := by unfold spk; simp
theorem spk_last (p : Int) (L : List Pt) {i : Nat} (h : L.length ≤ i + 1) : spk p L i = false := by
  unfold spk
  refine decide_eq_false ?_
  rintro ⟨-, -, h2, -⟩
  omega
set_option maxHeartbeats 2000000 in
theorem isSpike_any (v : Value) (L : List Pt) (i : Nat) (p : Int) (w : World) (hv : In3 ptE w v L) (hi : i < L.length) (hl : L.length ≤ 100000) (hb : ∀ j, j < L.length → Pb (pa L j)) (p0 : 0 ≤ p) (p1 : p ≤ 10000) :
    Calls Tryd.prog 81 #[v, .int .i64 (i : Int), .int .i64 p] w fun e w' => e = .returned (.bool (spk p L i)) ∧ Below w.heap.size w w' := by
  obtain ⟨A, cap, rfl, -⟩ := hv.form
  have HV := Lib.hid hv; clear hv
  have HB := Lib.hid hb; clear hb
  by_cases h0 : p = 0
  · subst h0
    have HE := Lib.hid (spk_zero L i)
    go_enter Tryd.func81, Tryd.ntmps81
    go_wp2_with fail
    go_ret
    exact ⟨ret_bool (by rw [HE.out]), Below.refl _ _⟩
  · have k0 : (p == 0) = false := beq_eq_false_iff_ne.2 h0
    by_cases h1 : i = 0
    · subst h1
      have HE := Lib.hid (spk_first p L)
      clear h0
      go_enter Tryd.func81, Tryd.ntmps81
      go_wp2_with fail
      go_ret
      exact ⟨ret_bool (by rw [HE.out]), Below.refl _ _⟩
    · have k1 : ((i : Int) == 0) = false := beq_eq_false_iff_ne.2 (by omega)
      obtain ⟨m, hm⟩ : ∃ m : Int, (L.length : Int) - 1 = m := ⟨_, rfl⟩
      have hmw : IntKind.i64.wrap m = m := IntWalk.i64_in _ (by omega)
      by_cases h2 : i + 1 < L.length
      · have k2 : ((i : Int) == m) = false := beq_eq_false_iff_ne.2 (by omega)
        go_enter Tryd.func81, Tryd.ntmps81
        go_upto_region 3 with fail
        obtain ⟨ib, hib⟩ : ∃ j : Nat, (i : Int) - 1 = (j : Int) := ⟨i - 1, by omega⟩
        obtain ⟨ia, hia⟩ : ∃ j : Nat, (i : Int) + 1 = (j : Int) := ⟨i + 1, by omega⟩
        have ja0 : (0 : Int) ≤ (ia : Int) := by omega
        have ja1 : (ia : Int) < (L.length : Int) := by omega
        have jb0 : (0 : Int) ≤ (ib : Int) := by omega
        have jb1 : (ib : Int) < (L.length : Int) := by omega
        have ji0 : (0 : Int) ≤ (i : Int) := by omega
        have ji1 : (i : Int) < (L.length : Int) := by omega
        have hwa : IntKind.i64.wrap (ia : Int) = ia := IntWalk.i64_in _ (by omega)
        have hwb : IntKind.i64.wrap (ib : Int) = ib := IntWalk.i64_in _ (by omega)
        have hibn : ib = i - 1 := by omega
        have hian : ia = i + 1 := by omega
        obtain ⟨g, off, rfl, hg, c0, -, -⟩ := HV.out.cells hi
        obtain ⟨g', off', e, -, b0, -, -⟩ := HV.out.cells (i := ib) (by omega)
        injection e with e; injection e with e1 e2
        subst e1 e2
        obtain ⟨g', off', e, -, a0, -, -⟩ := HV.out.cells (i := ia) (by omega)
        injection e with e; injection e with e1 e2
        subst e1 e2
        have hbc := HB.out i hi
        have hbb := HB.out ib (by omega)
        have hba := HB.out ia (by omega)
        have HE := Lib.hid (fun lo hi (q1 : min (pa L ib).v (pa L ia).v = lo) (q2 : max (pa L ib).v (pa L ia).v = hi) => spk_eq (p := p) (L := L) (i := i) (by omega) (by omega) h2 (lo := lo) (hi := hi) (by rw [← hibn, ← hian]; exact q1) (by rw [← hibn, ← hian]; exact q2))
        clear hibn hian
        obtain ⟨⟨x1, x2⟩, -⟩ := hbc
        obtain ⟨⟨x3, x4⟩, -⟩ := hbb
        obtain ⟨⟨x5, x6⟩, -⟩ := hba
        generalize (pa L i).v = vc at *
        generalize (pa L ib).v = vb at *
        generalize (pa L ia).v = va at *
        go_quiet (fail)
        obtain ⟨lo, hlo⟩ : ∃ q, (if va < vb then va else vb) = q := ⟨_, rfl⟩
        obtain ⟨hh, hhi⟩ : ∃ q, (if vb < va then va else vb) = q := ⟨_, rfl⟩
        have hlo' : min vb va = lo := by rw [← hlo]; split <;> omega
        have hhi' : max vb va = hh := by rw [← hhi]; split <;> omega
        have HR := Lib.hid (HE.out lo hh hlo' hhi')
        clear HE
        have l1 : -11000 ≤ lo ∧ lo ≤ 11000 := by omega
        have l2 : -11000 ≤ hh ∧ hh ≤ 11000 := by omega
        clear hlo' hhi'
        obtain ⟨d1, hd1⟩ : ∃ c, decide (hh - lo ≤ p) = c := ⟨_, rfl⟩
        obtain ⟨d2, hd2⟩ : ∃ c, decide (vc > hh + p) = c := ⟨_, rfl⟩
        obtain ⟨d3, hd3⟩ : ∃ c, decide (vc < lo - p) = c := ⟨_, rfl⟩
        rw [hd1, hd2, hd3] at HR
        go_upto_region 5 with fail
        have HB2 : Hid (Below w.heap.size w (w.drewN nq)) := Lib.hid (below_drewN (Below.refl _ _) nq)
        generalize w.drewN nq = w1 at *
        cases d1 with
        | false =>
          have r1 := of_decide_eq_false hd1
          clear hd1
          go_wp2_with fail
          go_ret
          exact ⟨ret_bool (by rw [HR.out]; rfl), HB2.out⟩
        | true =>
          have r1 := of_decide_eq_true hd1
          clear hd1
          cases d2 with
          | false =>
            have r2 := of_decide_eq_false hd2
            clear hd2
            go_wp2_with fail
            go_ret
            exact ⟨ret_bool (by rw [HR.out]; rfl), HB2.out⟩
          | true =>
            have r2 := of_decide_eq_true hd2
            clear hd2
            go_wp2_with fail
            go_ret
            exact ⟨ret_bool (by rw [HR.out]; rfl), HB2.out⟩
      · have k2 : ((i : Int) == m) = true := beq_iff_eq.2 (by omega)
        have HE := Lib.hid (spk_last p L (i := i) (by omega))
        go_enter Tryd.func81, Tryd.ntmps81
        go_wp2_with fail
        go_ret
        exact ⟨ret_bool (by rw [HE.out]), Below.refl _ _⟩
end Go.Proofs.YtlakgkoohdfiaaaDoor.Tm

namespace Go.Proofs.YtlakgkoohdfiaaaDoor.Tm
open Go.RowKit

theorem In3.cellsF {W : World} {L : List (Nat × Int)} {A : Option Addr} {n cap : Nat} (h : In3 flE W (.slice A n cap) L) {i : Nat} (hi : i < L.length) : ∃ g off, A = some ⟨g, off, none⟩ ∧ g < W.heap.size ∧ W.cell? ⟨g, off + i * 3, none⟩ = some (.int .i64 ((L[i].1 : Nat) : Int)) ∧ W.cell? ⟨g, off + i * 3 + 1, none⟩ = some (.int .i64 L[i].2) ∧ W.cell? ⟨g, off + i * 3 + 2, none⟩ = some (.int .i64 4) := by
  obtain ⟨A', cap', e, -, -, hat⟩ := h
  injection e with e1 e2 e3
  subst e1
  obtain ⟨g, off, e, hg, hc⟩ := hat i hi
  exact ⟨g, off, e, hg, hc 0 (by omega), hc 1 (by omega), hc 2 (by omega)⟩
theorem In3.form' {α : Type} {f : α → List Value} {W : World} {v : Value} {L : List α} (h : In3 f W v L) : ∃ A cap, v = .slice A L.length cap ∧ L.length ≤ 9223372036854775807 := by
  obtain ⟨A, cap, e, h1, h2, -⟩ := h
  exact ⟨A, cap, e, by omega⟩
/-- What Flags leaves. -/
def FgO (A B : List (Nat × Int)) (w : World) (e : Ending) (w' : World) : Prop := e = .returned (.bool (decide (A = B))) ∧ Below w.heap.size w w'
set_option maxRecDepth 100000 in
set_option maxHeartbeats 2000000 in
theorem flags_any (va vb : Value) (A B : List (Nat × Int)) (w : World) (ha : In3 flE w va A) (hb : In3 flE w vb B) :
    Calls Tryd.prog 43 #[va, vb] w (FgO A B w) := by
  obtain ⟨Aa, ca, ea, hla⟩ := ha.form'
  obtain ⟨Ab, cb, eb, hlb⟩ := hb.form'
  subst ea eb
  have HA := Lib.hid ha
  have HB := Lib.hid hb
  clear ha hb
  by_cases hl : A.length = B.length
  · have HL := Lib.hid hl
    generalize hn : B.length = n at *
    have HN := Lib.hid hn
    clear hn
    rw [hl] at hla HA ⊢
    clear hl
    go_enter Tryd.func43, Tryd.ntmps43
    go_wp2_with fail
    go_loopw [5] (fun t wr => ∃ k : Nat, k ≤ n ∧ t = .int .i64 (k : Int) ∧ Hid (Below w.heap.size w wr) ∧ Hid (∀ j (h1 : j < A.length) (h2 : j < B.length), j < k → A[j] = B[j])) (fun t _ => n - (intOf t).toNat)
    case atStart => exact ⟨0, Nat.zero_le _, rfl, Lib.hid (Below.refl _ _), Lib.hid (fun j _ _ h => by omega)⟩
    case round =>
      obtain ⟨k, hk, rfl, HW, HZ⟩ := hrel
      by_cases hlt : k < n
      · have k1 : (k : Int) < (n : Int) := by omega
        have k2 : (0 : Int) ≤ (k : Int) := by omega
        have hka : k < A.length := by have := HL.out; omega
        have hkb : k < B.length := by have := HN.out; omega
        obtain ⟨g, off, hAa, -, a0, a1, a2⟩ := (HA.out.under HW.out).cellsF hka
        obtain ⟨g', off', hAb, -, b0, b1, b2⟩ := (HB.out.under HW.out).cellsF hkb
        subst hAa hAb
        have HE : Hid (decide (A = B) = true → A[k] = B[k]) := Lib.hid (fun h => by have := of_decide_eq_true h; subst this; rfl)
        have HS : Hid (A[k] = B[k] → ∀ j (h1 : j < A.length) (h2 : j < B.length), j < k + 1 → A[j] = B[j]) := Lib.hid (fun h j h1 h2 hj => by
          rcases (by omega : j < k ∨ j = k) with q | rfl
          · exact HZ.out j h1 h2 q
          · exact h)
        generalize A[k] = x at *
        generalize B[k] = y at *
        obtain ⟨x1, x2⟩ := x
        obtain ⟨y1, y2⟩ := y
        dsimp only at a0 a1 b0 b1
        by_cases h1 : x1 = y1
        · subst h1
          by_cases h2 : x2 = y2
          · subst h2
            have HS2 := Lib.hid (HS.out rfl)
            go_upto_region 6 with fail
            go_quiet (fail)
            have HW2 : Hid (Below w.heap.size w (wr.drewN nq)) := Lib.hid (below_drewN HW.out nq)
            generalize wr.drewN nq = w2 at *
            go_wp2_with fail
            go_roundw
            case rel => exact ⟨k + 1, by omega, by go_num, HW2, HS2⟩
            case measure => simp [intOf]; omega
          · have kx : (x2 == y2) = false := beq_eq_false_iff_ne.2 h2
            have HF : Hid (decide (A = B) = false) := Lib.hid (by cases q : decide (A = B) with | false => rfl | true => have := HE.out q; injection this with _ e; exact absurd e h2)
            go_upto_region 6 with fail
            go_quiet (fail)
            have HW2 : Hid (Below w.heap.size w (wr.drewN nq)) := Lib.hid (below_drewN HW.out nq)
            generalize wr.drewN nq = w2 at *
            go_wp2_with fail
            go_ret
            exact ⟨ret_bool HF.out.symm, HW2.out⟩
        · have kx : ((x1 : Int) == (y1 : Int)) = false := beq_eq_false_iff_ne.2 (by omega)
          have HF : Hid (decide (A = B) = false) := Lib.hid (by cases q : decide (A = B) with | false => rfl | true => have := HE.out q; injection this with e _; exact absurd e h1)
          go_upto_region 6 with fail
          go_quiet (fail)
          have HW2 : Hid (Below w.heap.size w (wr.drewN nq)) := Lib.hid (below_drewN HW.out nq)
          generalize wr.drewN nq = w2 at *
          go_wp2_with fail
          go_ret
          exact ⟨ret_bool HF.out.symm, HW2.out⟩
      · obtain rfl : k = n := by omega
        have k1 : ¬ (k : Int) < (k : Int) := by omega
        have HT : Hid (decide (A = B) = true) := Lib.hid (decide_eq_true (List.ext_getElem (by rw [HL.out, HN.out]) fun j h1 h2 => HZ.out j h1 h2 (by have := HL.out; omega)))
        go_wp2_with fail
        go_ret
        exact ⟨ret_bool HT.out.symm, HW.out⟩
  · have HF : Hid (decide (A = B) = false) := Lib.hid (decide_eq_false (fun e => hl (by rw [e])))
    have kx : ((A.length : Int) == (B.length : Int)) = false := beq_eq_false_iff_ne.2 (by omega)
    generalize hn : B.length = n at *
    generalize hm : A.length = m at *
    have HM := Lib.hid hm
    have HN := Lib.hid hn
    clear hm hn
    go_enter Tryd.func43, Tryd.ntmps43
    go_wp2_with fail
    go_ret
    exact ⟨ret_bool HF.out.symm, Below.refl _ _⟩
end Go.Proofs.YtlakgkoohdfiaaaDoor.Tm
