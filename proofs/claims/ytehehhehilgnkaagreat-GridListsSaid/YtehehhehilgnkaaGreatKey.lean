/- The key of the map of border nodes: the weights of all vertices in eight bits; what the map holds. -/
import Derived.Test.YtehehhehilgnkaaGreatWof
import Derived.Test.YtehehhehilgnkaaGreatLat
import Derived.Maps.OwnSet
import Derived.Maps.OwnOps
import Derived.Maps.Views
import Derived.DeepKeys4
namespace Go.Proofs.YtehehhehilgnkaaGreat
open Go.RowKit Go.Maps

theorem laidOutK : laidOutB Tryz.prog = true := by kernel_rfl
theorem wkeyed : Keyed Tryz.prog 98 :=
  Keyed.of_law (deep_law_laid (m := 3) laidOutK (by decide) (of_decide_eq_true (by kernel_rfl)) (by kernel_rfl) (by kernel_rfl))
theorem mapM_some {α β : Type} {f : α → Option β} : ∀ {l : List α}, (∀ x ∈ l, ∃ y, f x = some y) → ∃ ys, l.mapM f = some ys
  | [], _ => ⟨[], rfl⟩
  | x :: r, h => by
    obtain ⟨y, hy⟩ := h x (by simp)
    obtain ⟨ys, hys⟩ := mapM_some (l := r) fun z hz => h z (by simp [hz])
    exact ⟨y :: ys, by simp [List.mapM_cons, hy, hys]⟩
theorem keyT : Tryz.prog.keyType 98 = true := by kernel_rfl
theorem cellsW : Tryz.prog.cellsOf 98 = 12 := by kernel_rfl
theorem cells8 : Tryz.prog.cellsOf 96 = 1 := by kernel_rfl
set_option maxRecDepth 100000 in
theorem key_some (vs : List Value) (hl : vs.length = 12) (h : ∀ v ∈ vs, ∃ x : Int, v = .int .i8 x ∧ (Lit.int .i8 x).wf = true) : ∃ l, keyOf Tryz.prog 98 (.agg vs.toArray) = some l := by
  have hts : ∃ d, Tryz.prog.types.size = d + 1 := ⟨Tryz.prog.types.size - 1, by have : 0 < Tryz.prog.types.size := of_decide_eq_true (by kernel_rfl); omega⟩
  obtain ⟨d, hd⟩ := hts
  have hm : ∃ ys, ((List.range 12).mapM fun i => Tryz.prog.keyLits (d + 1) 96 ((vs.drop (i * 1)).take 1)) = some ys := by
    refine mapM_some fun i hi => ?_
    rw [List.mem_range] at hi
    obtain ⟨x, hx, hw⟩ := h (vs[i]'(by omega)) (List.getElem_mem _)
    have e : (vs.drop (i * 1)).take 1 = [.int .i8 x] := by
      rw [Nat.mul_one, List.drop_eq_getElem_cons (by omega), hx]; rfl
    refine ⟨[.int .i8 x], ?_⟩
    rw [e]
    unfold Program.keyLits
    rw [Tryz.underlying96]
    simp [hw]
  obtain ⟨ys, hy⟩ := hm
  unfold keyOf
  rw [Tryz.underlying98]
  simp only [keyT, Bool.true_and]
  have hform : Value.formed Tryz.prog 98 (.agg vs.toArray) = true := by
    unfold Value.formed
    rw [Tryz.underlying98, cellsW]
    simp [hl]
  rw [hform, if_pos rfl, hd]
  unfold Program.keyLits
  rw [Tryz.underlying98]
  simp only [cellsW, cells8, Value.cells]
  rw [if_pos (by simp [hl]), hy]
  exact ⟨_, rfl⟩
/-- The key of a point. -/
noncomputable def kl (f a b c : Nat) : Lit := (keyOf Tryz.prog 98 (.agg (va f a b c))).getD (.bool false)
theorem wt_n (f a b c v : Nat) (ha : a ≤ 8) (hb : b ≤ 8) (hc : c ≤ 8) : 0 ≤ Ico.wt f a b c v ∧ Ico.wt f a b c v ≤ 8 := by
  rw [← Lat.wn_wt]
  have := Lat.wn_le (f := f) ha hb hc v
  omega
theorem wf8 {x : Int} (h1 : 0 ≤ x) (h2 : x ≤ 8) : (Lit.int .i8 x).wf = true := by
  have : x = 0 ∨ x = 1 ∨ x = 2 ∨ x = 3 ∨ x = 4 ∨ x = 5 ∨ x = 6 ∨ x = 7 ∨ x = 8 := by omega
  rcases this with rfl | rfl | rfl | rfl | rfl | rfl | rfl | rfl | rfl <;> decide
set_option maxRecDepth 100000 in
theorem kl_is {f a b c : Nat} (ha : a ≤ 8) (hb : b ≤ 8) (hc : c ≤ 8) : keyOf Tryz.prog 98 (.agg (va f a b c)) = some (kl f a b c) := by
  obtain ⟨l, hl⟩ := key_some (va f a b c).toList rfl (by
    intro v hv
    have key : ∀ j, ∃ x : Int, Value.int .i8 (Ico.wt f a b c j) = .int .i8 x ∧ (Lit.int .i8 x).wf = true := fun j => ⟨_, rfl, by
      obtain ⟨h1, h2⟩ := wt_n f a b c j ha hb hc
      exact wf8 h1 h2⟩
    simp only [List.mem_cons, List.not_mem_nil, or_false] at hv
    rcases hv with rfl | rfl | rfl | rfl | rfl | rfl | rfl | rfl | rfl | rfl | rfl | rfl <;> exact key _)
  have e : (va f a b c).toList.toArray = va f a b c := rfl
  rw [e] at hl
  unfold kl
  rw [hl]; rfl
set_option maxRecDepth 100000 in
theorem kl_congr {f a b c g x y z : Nat} (h : ∀ v, Lat.wn f a b c v = Lat.wn g x y z v) : kl f a b c = kl g x y z := by
  have h' : ∀ v, Ico.wt f a b c v = Ico.wt g x y z v := fun v => by rw [← Lat.wn_wt, ← Lat.wn_wt, h]
  unfold kl va
  simp only [h']
set_option maxRecDepth 100000 in
theorem kl_inj {f a b c g x y z : Nat} (hf : f < 20) (hg : g < 20) (ha : a ≤ 8) (hb : b ≤ 8) (hc : c ≤ 8) (hx : x ≤ 8) (hy : y ≤ 8) (hz : z ≤ 8) (h : kl f a b c = kl g x y z) : Lat.pk f a b c = Lat.pk g x y z := by
  have e := wkeyed.inj (kl_is (f := f) ha hb hc) (h ▸ kl_is (f := g) hx hy hz)
  injection e with e
  rw [Lat.pk_eq hf, Lat.pk_eq hg]
  have hv : ∀ v, v < 12 → Lat.wn f a b c v = Lat.wn g x y z v := by
    intro v hv
    have h1 := va_at f a b c v hv
    rw [e, va_at g x y z v hv] at h1
    injection h1 with h1
    injection h1 with _ h1
    rw [← Lat.wn_wt, ← Lat.wn_wt] at h1
    omega
  unfold Lat.wl
  rw [List.map_congr_left fun v hv' => hv v (List.mem_range.1 hv')]
section
variable {H : Type}
/-- What the map holds. -/
def Bor (D : DataW H) (bor : List (Nat × Nat)) : Prop := ∀ f a b c : Nat, f < 20 → a ≤ 8 → b ≤ 8 → c ≤ 8 →
  (Maps.has D (kl f a b c) = (Lat.look (Lat.pk f a b c) bor).isSome) ∧ ∀ i : Nat, Lat.look (Lat.pk f a b c) bor = some i → D.atKey (kl f a b c) (.lit (.int .i64 0)) = .lit (.int .i64 i)
theorem Bor.start : Bor (.map [] : DataW H) [] := fun _ _ _ _ _ _ _ _ => ⟨rfl, fun i h => by cases h⟩
set_option maxRecDepth 100000 in
theorem Bor.put {D : DataW H} {bor : List (Nat × Nat)} (h : Bor D bor) (hD : IsMap D) {f a b c : Nat} (hf : f < 20) (ha : a ≤ 8) (hb : b ≤ 8) (hc : c ≤ 8) (i : Nat) : Bor (D.put (kl f a b c) (.lit (.int .i64 i))) ((Lat.pk f a b c, i) :: bor) := by
  intro g x y z hg hx hy hz
  by_cases e : Lat.pk f a b c = Lat.pk g x y z
  · have hk : kl f a b c = kl g x y z := kl_congr (Lat.pk_wn hf hg (by omega) (by omega) (by omega) (by omega) (by omega) (by omega) e)
    rw [← hk]
    refine ⟨?_, fun j hj => ?_⟩
    · rw [has_put_same hD (wkeyed.key (kl_is ha hb hc))]
      simp [Lat.look, e]
    · rw [atKey_put_same hD (wkeyed.key (kl_is ha hb hc))]
      simp [Lat.look, e] at hj
      rw [hj]
  · have hk : kl g x y z ≠ kl f a b c := fun h' => e (kl_inj hf hg ha hb hc hx hy hz h'.symm)
    have hl : Lat.look (Lat.pk g x y z) ((Lat.pk f a b c, i) :: bor) = Lat.look (Lat.pk g x y z) bor := by
      have hb' : Nat.beq (Lat.pk f a b c) (Lat.pk g x y z) = false := by
        cases hb' : Nat.beq (Lat.pk f a b c) (Lat.pk g x y z)
        · rfl
        · exact absurd (Nat.eq_of_beq_eq_true hb') e
      simp [Lat.look, hb']
    rw [hl, has_put_other hk]
    refine ⟨(h g x y z hg hx hy hz).1, fun j hj => ?_⟩
    rw [atKey_put_other hk]
    exact (h g x y z hg hx hy hz).2 j hj
end
end Go.Proofs.YtehehhehilgnkaaGreat

