/- Texts of this proof. -/
import Derived.Test.YtejoabaanclcbaaGreatQaa
import Derived.RegionTactic
import Derived.BigRegion
import Derived.Deep.Cut
import Derived.Deep.CutRange
import Derived.ChangeAlike
import Derived.Test.YtejoabaanclcbaaGreatLat
import Derived.Maps.OwnSet
import Derived.Maps.OwnOps
import Derived.Maps.Views
import Derived.DeepKeys4
namespace Go.Proofs.YtejoabaanclcbaaGreat
open Go.RowKit

/-- The weights of all vertices. -/
abbrev va (f : Nat) (a b c : Int) : Array Value := #[.int .i8 (Ico.wt f a b c 0), .int .i8 (Ico.wt f a b c 1), .int .i8 (Ico.wt f a b c 2), .int .i8 (Ico.wt f a b c 3), .int .i8 (Ico.wt f a b c 4), .int .i8 (Ico.wt f a b c 5), .int .i8 (Ico.wt f a b c 6), .int .i8 (Ico.wt f a b c 7), .int .i8 (Ico.wt f a b c 8), .int .i8 (Ico.wt f a b c 9), .int .i8 (Ico.wt f a b c 10), .int .i8 (Ico.wt f a b c 11)]
abbrev y12 : Array Value := #[.int .i8 0, .int .i8 0, .int .i8 0, .int .i8 0, .int .i8 0, .int .i8 0, .int .i8 0, .int .i8 0, .int .i8 0, .int .i8 0, .int .i8 0, .int .i8 0]
theorem va_of {f : Nat} (hf : f < 20) (a b c : Int) :
    ((y12.setIfInBounds (Ico.cor f 0) (.int .i8 a)).setIfInBounds (Ico.cor f 1) (.int .i8 b)).setIfInBounds (Ico.cor f 2) (.int .i8 c) = va f a b c := by
  rcases twenty hf with rfl | rfl | rfl | rfl | rfl | rfl | rfl | rfl | rfl | rfl | rfl | rfl | rfl | rfl | rfl | rfl | rfl | rfl | rfl | rfl <;> rfl
theorem y12_at (j : Nat) (h : j < 12) : y12[j]? = some (.int .i8 0) := by
  have : j = 0 ∨ j = 1 ∨ j = 2 ∨ j = 3 ∨ j = 4 ∨ j = 5 ∨ j = 6 ∨ j = 7 ∨ j = 8 ∨ j = 9 ∨ j = 10 ∨ j = 11 := by omega
  rcases this with rfl | rfl | rfl | rfl | rfl | rfl | rfl | rfl | rfl | rfl | rfl | rfl <;> rfl
theorem va_at (f : Nat) (a b c : Int) (j : Nat) (h : j < 12) : (va f a b c)[j]? = some (.int .i8 (Ico.wt f a b c j)) := by
  have : j = 0 ∨ j = 1 ∨ j = 2 ∨ j = 3 ∨ j = 4 ∨ j = 5 ∨ j = 6 ∨ j = 7 ∨ j = 8 ∨ j = 9 ∨ j = 10 ∨ j = 11 := by omega
  rcases this with rfl | rfl | rfl | rfl | rfl | rfl | rfl | rfl | rfl | rfl | rfl | rfl <;> rfl
set_option maxRecDepth 100000 in
set_option maxHeartbeats 1000000 in
theorem weightsOf_any (f : Nat) (a b c : Int) (w : World) (hf : f < 20) (ha0 : 0 ≤ a) (ha : a ≤ 8) (hb0 : 0 ≤ b) (hb8 : b ≤ 8) (hc0 : 0 ≤ c) (hc : c ≤ 8) :
    Calls Tryz.prog 130 #[.agg #[.int .i64 f, .int .i64 a, .int .i64 b, .int .i64 c]] w fun e w' => e = .returned (.agg (va f a b c)) ∧ Below w.heap.size w w' := by
  go_enter Tryz.func130, Tryz.ntmps130
  go_upto_region 3 with (go_at_call 139; refine (corners_yes _ _ hf).mono ?_; rintro e w1 ⟨rfl, hb⟩)
  have r1 : Row w1 w.heap.size 134 #[.int .i64 f, .int .i64 a, .int .i64 b, .int .i64 c] := (((Row.new w _ _).alloc _).alloc _).under hb
  have r2 : Row w1 (w.heap.size + 1) 178 y12 := ((Row.newAt (by simp)).alloc _).under hb
  have r3 : Row w1 (w.heap.size + 1 + 1) 178 y12 := (Row.newAt (by simp)).under hb
  have b1 : Below w.heap.size w w1 := ((((Below.refl _ _).alloc (Nat.le_refl _) _).alloc (by simp) _).alloc (by simp; omega) _).trans (hb.mono (by simp; omega))
  have z1 : w.heap.size + 3 ≤ w1.heap.size := by have := hb.size; simp at this; omega
  refine forget (fun Y => Below w.heap.size w Y ∧ Row Y w.heap.size 134 #[.int .i64 f, .int .i64 a, .int .i64 b, .int .i64 c] ∧ Row Y (w.heap.size + 1) 178 y12 ∧ Row Y (w.heap.size + 1 + 1) 178 y12 ∧ Row Y w1.heap.size 130 #[.int .i64 (Ico.cor f 0), .int .i64 (Ico.cor f 1), .int .i64 (Ico.cor f 2)]) ⟨b1.alloc b1.size _, r1.alloc _, r2.alloc _, r3.alloc _, Row.new _ _ _⟩ ?_
  clear r1 r2 r3 b1 hb
  generalize w1.heap.size = gc at *
  rintro Y ⟨bY, r1, r2, r3, r4⟩
  obtain ⟨p0, p1, p2, p3⟩ := row4 r1
  obtain ⟨q0, q1, q2⟩ := row3 r4
  have l0 := Ico.cor_lt f 0
  have l1 := Ico.cor_lt f 1
  have l2 := Ico.cor_lt f 2
  obtain ⟨n1, n2, n3⟩ := Ico.cor_ne f hf
  have k0 : Y.cell? ⟨w.heap.size + 1 + 1, Ico.cor f 0, none⟩ = some (.int .i8 0) := (r3.cell _).trans (y12_at _ l0)
  have k1 : Y.cell? ⟨w.heap.size + 1 + 1, Ico.cor f 1, none⟩ = some (.int .i8 0) := (r3.cell _).trans (y12_at _ l1)
  have k2 : Y.cell? ⟨w.heap.size + 1 + 1, Ico.cor f 2, none⟩ = some (.int .i8 0) := (r3.cell _).trans (y12_at _ l2)
  have m0 := r3.thaw (Ico.cor f 0)
  have m1 := r3.thaw (Ico.cor f 1)
  have m2 := r3.thaw (Ico.cor f 2)
  have W := Lib.hid (va_of hf a b c)
  have e0 : w.heap.size ≠ w.heap.size + 1 + 1 := by omega
  have e1 : gc ≠ w.heap.size + 1 + 1 := by omega
  have R3 := Lib.hid r3
  have R2 := Lib.hid r2
  have hg2 : w.heap.size ≤ w.heap.size + 1 := by omega
  have hg3 : w.heap.size ≤ w.heap.size + 1 + 1 := by omega
  have hg23 : w.heap.size + 1 ≠ w.heap.size + 1 + 1 := by omega
  clear r1 r2 r3 r4
  generalize Ico.cor f 0 = x at *
  generalize Ico.cor f 1 = y at *
  generalize Ico.cor f 2 = z at *
  generalize w.heap.size + 1 + 1 = g3 at *
  generalize w.heap.size + 1 = g2 at *
  go_region
  go_upto_region 4 with fail
  have ne23 : g2 ≠ g3 := hg23
  have hR : ∀ n : World, n = (((Y.setCell ⟨g3, x, none⟩ (.int .i8 a)).setCell ⟨g3, y, none⟩ (.int .i8 b)).setCell ⟨g3, z, none⟩ (.int .i8 c)).drew → Below w.heap.size w n ∧ Row n g2 178 y12 ∧ Row n g3 178 (va f a b c) := by
    rintro n rfl
    exact ⟨(((bY.setCell (p := ⟨g3, x, none⟩) hg3 _).setCell (p := ⟨g3, y, none⟩) hg3 _).setCell (p := ⟨g3, z, none⟩) hg3 _).drew, ((R2.out.far (Ne.symm ne23) _).far (Ne.symm ne23) _).far (Ne.symm ne23) _, by rw [← W.out]; exact ((R3.out.put _ _).put _ _).put _ _⟩
  refine forget (fun n => Below w.heap.size w n ∧ Row n g2 178 y12 ∧ Row n g3 178 (va f a b c)) (hR _ rfl) ?_
  clear hR R2 R3 W k0 k1 k2 m0 m1 m2 p0 p1 p2 p3 q0 q1 q2 bY
  rintro V ⟨bV, v2, v3⟩
  obtain ⟨⟨c0, c1, c2, c3, c4, c5⟩, c6, c7, c8, c9, c10, c11⟩ := row12 v3
  obtain ⟨⟨d0, d1, d2, d3, d4, d5⟩, d6, d7, d8, d9, d10, d11⟩ := row12 v2
  have t0 := v2.thaw
  have V2 := Lib.hid v2
  clear v2 v3
  go_wp2
  exact bodyPost_ret (v := .agg (va f a b c)) (results_cell_row Tryz.results130 _ _ g2 178 _ (0, 0) _ rfl (put12 _ _ _ _ _ _ _ _ _ _ _ _ V2.out) Tryz.underlying178 rfl (by kernel_rfl)) rfl ⟨rfl, below12 _ _ _ _ _ _ _ _ _ _ _ _ bV hg2⟩
end Go.Proofs.YtejoabaanclcbaaGreat



namespace Go.Proofs.YtejoabaanclcbaaGreat
open Go.RowKit Go.Maps

theorem laidOutK : laidOutB Tryz.prog = true := by kernel_rfl
theorem wkeyed : Keyed Tryz.prog 178 :=
  Keyed.of_law (deep_law_laid (m := 3) laidOutK (by decide) (of_decide_eq_true (by kernel_rfl)) (by kernel_rfl) (by kernel_rfl))
theorem mapM_some {α β : Type} {f : α → Option β} : ∀ {l : List α}, (∀ x ∈ l, ∃ y, f x = some y) → ∃ ys, l.mapM f = some ys
  | [], _ => ⟨[], rfl⟩
  | x :: r, h => by
    obtain ⟨y, hy⟩ := h x (by simp)
    obtain ⟨ys, hys⟩ := mapM_some (l := r) fun z hz => h z (by simp [hz])
    exact ⟨y :: ys, by simp [List.mapM_cons, hy, hys]⟩
theorem keyT : Tryz.prog.keyType 178 = true := by kernel_rfl
theorem cellsW : Tryz.prog.cellsOf 178 = 12 := by kernel_rfl
theorem cells8 : Tryz.prog.cellsOf 176 = 1 := by kernel_rfl
set_option maxRecDepth 100000 in
theorem key_some (vs : List Value) (hl : vs.length = 12) (h : ∀ v ∈ vs, ∃ x : Int, v = .int .i8 x ∧ (Lit.int .i8 x).wf = true) : ∃ l, keyOf Tryz.prog 178 (.agg vs.toArray) = some l := by
  have hts : ∃ d, Tryz.prog.types.size = d + 1 := ⟨Tryz.prog.types.size - 1, by have : 0 < Tryz.prog.types.size := of_decide_eq_true (by kernel_rfl); omega⟩
  obtain ⟨d, hd⟩ := hts
  have hm : ∃ ys, ((List.range 12).mapM fun i => Tryz.prog.keyLits (d + 1) 176 ((vs.drop (i * 1)).take 1)) = some ys := by
    refine mapM_some fun i hi => ?_
    rw [List.mem_range] at hi
    obtain ⟨x, hx, hw⟩ := h (vs[i]'(by omega)) (List.getElem_mem _)
    have e : (vs.drop (i * 1)).take 1 = [.int .i8 x] := by
      rw [Nat.mul_one, List.drop_eq_getElem_cons (by omega), hx]; rfl
    refine ⟨[.int .i8 x], ?_⟩
    rw [e]
    unfold Program.keyLits
    rw [Tryz.underlying176]
    simp [hw]
  obtain ⟨ys, hy⟩ := hm
  unfold keyOf
  rw [Tryz.underlying178]
  simp only [keyT, Bool.true_and]
  have hform : Value.formed Tryz.prog 178 (.agg vs.toArray) = true := by
    unfold Value.formed
    rw [Tryz.underlying178, cellsW]
    simp [hl]
  rw [hform, if_pos rfl, hd]
  unfold Program.keyLits
  rw [Tryz.underlying178]
  simp only [cellsW, cells8, Value.cells]
  rw [if_pos (by simp [hl]), hy]
  exact ⟨_, rfl⟩
/-- The key of a point. -/
noncomputable def kl (f a b c : Nat) : Lit := (keyOf Tryz.prog 178 (.agg (va f a b c))).getD (.bool false)
theorem wt_n (f a b c v : Nat) (ha : a ≤ 8) (hb : b ≤ 8) (hc : c ≤ 8) : 0 ≤ Ico.wt f a b c v ∧ Ico.wt f a b c v ≤ 8 := by
  rw [← Lat.wn_wt]
  have := Lat.wn_le (f := f) ha hb hc v
  omega
theorem wf8 {x : Int} (h1 : 0 ≤ x) (h2 : x ≤ 8) : (Lit.int .i8 x).wf = true := by
  have : x = 0 ∨ x = 1 ∨ x = 2 ∨ x = 3 ∨ x = 4 ∨ x = 5 ∨ x = 6 ∨ x = 7 ∨ x = 8 := by omega
  rcases this with rfl | rfl | rfl | rfl | rfl | rfl | rfl | rfl | rfl <;> decide
set_option maxRecDepth 100000 in
theorem kl_is {f a b c : Nat} (ha : a ≤ 8) (hb : b ≤ 8) (hc : c ≤ 8) : keyOf Tryz.prog 178 (.agg (va f a b c)) = some (kl f a b c) := by
  obtain ⟨l, hl⟩ := key_some (va f a b c).toList rfl (by
    intro v hv
    have key : ∀ j, ∃ x : Int, Value.int .i8 (Ico.wt f a b c j) = .int .i8 x ∧ (Lit.int .i8 x).wf = true := fun j => ⟨_, rfl, by
      obtain ⟨h1, h2⟩ := wt_n f a b c j ha hb hc
      exact wf8 h1 h2⟩
    simp only [List.mem_cons, List.not_mem_nil, or_false] at hv
    rcases hv with rfl | rfl | rfl | rfl | rfl | rfl | rfl | rfl | rfl | rfl | rfl | rfl <;> exact key _)
  have e : (va f a b c).toList.toArray = va f a b c := rfl
  rw [e] at hl
  unfold kl
  rw [hl]; rfl
set_option maxRecDepth 100000 in
theorem kl_congr {f a b c g x y z : Nat} (h : ∀ v, Lat.wn f a b c v = Lat.wn g x y z v) : kl f a b c = kl g x y z := by
  have h' : ∀ v, Ico.wt f a b c v = Ico.wt g x y z v := fun v => by rw [← Lat.wn_wt, ← Lat.wn_wt, h]
  unfold kl va
  simp only [h']
set_option maxRecDepth 100000 in
theorem kl_inj {f a b c g x y z : Nat} (hf : f < 20) (hg : g < 20) (ha : a ≤ 8) (hb : b ≤ 8) (hc : c ≤ 8) (hx : x ≤ 8) (hy : y ≤ 8) (hz : z ≤ 8) (h : kl f a b c = kl g x y z) : Lat.pk f a b c = Lat.pk g x y z := by
  have e := wkeyed.inj (kl_is (f := f) ha hb hc) (h ▸ kl_is (f := g) hx hy hz)
  injection e with e
  rw [Lat.pk_eq hf, Lat.pk_eq hg]
  have hv : ∀ v, v < 12 → Lat.wn f a b c v = Lat.wn g x y z v := by
    intro v hv
    have h1 := va_at f a b c v hv
    rw [e, va_at g x y z v hv] at h1
    injection h1 with h1
    injection h1 with _ h1
    rw [← Lat.wn_wt, ← Lat.wn_wt] at h1
    omega
  unfold Lat.wl
  rw [List.map_congr_left fun v hv' => hv v (List.mem_range.1 hv')]
section
variable {H : Type}
/-- What the map holds. -/
def Bor (D : DataW H) (bor : List (Nat × Nat)) : Prop := ∀ f a b c : Nat, f < 20 → a ≤ 8 → b ≤ 8 → c ≤ 8 →
  (Maps.has D (kl f a b c) = (Lat.look (Lat.pk f a b c) bor).isSome) ∧ ∀ i : Nat, Lat.look (Lat.pk f a b c) bor = some i → D.atKey (kl f a b c) (.lit (.int .i64 0)) = .lit (.int .i64 i)
theorem Bor.start : Bor (.map [] : DataW H) [] := fun _ _ _ _ _ _ _ _ => ⟨rfl, fun i h => by cases h⟩
set_option maxRecDepth 100000 in
theorem Bor.put {D : DataW H} {bor : List (Nat × Nat)} (h : Bor D bor) (hD : IsMap D) {f a b c : Nat} (hf : f < 20) (ha : a ≤ 8) (hb : b ≤ 8) (hc : c ≤ 8) (i : Nat) : Bor (D.put (kl f a b c) (.lit (.int .i64 i))) ((Lat.pk f a b c, i) :: bor) := by
  intro g x y z hg hx hy hz
  by_cases e : Lat.pk f a b c = Lat.pk g x y z
  · have hk : kl f a b c = kl g x y z := kl_congr (Lat.pk_wn hf hg (by omega) (by omega) (by omega) (by omega) (by omega) (by omega) e)
    rw [← hk]
    refine ⟨?_, fun j hj => ?_⟩
    · rw [has_put_same hD (wkeyed.key (kl_is ha hb hc))]
      simp [Lat.look, e]
    · rw [atKey_put_same hD (wkeyed.key (kl_is ha hb hc))]
      simp [Lat.look, e] at hj
      rw [hj]
  · have hk : kl g x y z ≠ kl f a b c := fun h' => e (kl_inj hf hg ha hb hc hx hy hz h'.symm)
    have hl : Lat.look (Lat.pk g x y z) ((Lat.pk f a b c, i) :: bor) = Lat.look (Lat.pk g x y z) bor := by
      have hb' : Nat.beq (Lat.pk f a b c) (Lat.pk g x y z) = false := by
        cases hb' : Nat.beq (Lat.pk f a b c) (Lat.pk g x y z)
        · rfl
        · exact absurd (Nat.eq_of_beq_eq_true hb') e
      simp [Lat.look, hb']
    rw [hl, has_put_other hk]
    refine ⟨(h g x y z hg hx hy hz).1, fun j hj => ?_⟩
    rw [atKey_put_other hk]
    exact (h g x y z hg hx hy hz).2 j hj
end
end Go.Proofs.YtejoabaanclcbaaGreat


