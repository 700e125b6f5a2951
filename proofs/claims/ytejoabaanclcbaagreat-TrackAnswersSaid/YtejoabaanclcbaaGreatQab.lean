/- Texts of this proof. -/
import Derived.Test.YtejoabaanclcbaaGreatQaa
import Derived.RegionTactic
import Derived.BigRegion
import Derived.Deep.Cut
import Derived.Deep.CutRange
import Derived.ChangeAlike
import Derived.Test.YtejoabaanclcbaaGreatQac
import Derived.Maps.OwnSet
import Derived.Maps.OwnOps
import Derived.Maps.Views
import Derived.DeepKeys4
import Derived.Laws.OwnMore
import Derived.StillTailTactics
import Derived.OwnWalk
import Derived.Deep.AppendLies
import Derived.Deep.RegionLaw
import Derived.Deep.RegionHeld3
import Derived.IntWalk
namespace Go.Proofs.YtejoabaanclcbaaGreat
open Go.RowKit

/-- The weights of all vertices. -/
abbrev va (f : Nat) (a b c : Int) : Array Value := #[.int .i8 (Ico.wt f a b c 0), .int .i8 (Ico.wt f a b c 1), .int .i8 (Ico.wt f a b c 2), .int .i8 (Ico.wt f a b c 3), .int .i8 (Ico.wt f a b c 4), .int .i8 (Ico.wt f a b c 5), .int .i8 (Ico.wt f a b c 6), .int .i8 (Ico.wt f a b c 7), .int .i8 (Ico.wt f a b c 8), .int .i8 (Ico.wt f a b c 9), .int .i8 (Ico.wt f a b c 10), .int .i8 (Ico.wt f a b c 11)]
abbrev y12 : Array Value := #[.int .i8 0, .int .i8 0, .int .i8 0, .int .i8 0, .int .i8 0, .int .i8 0, .int .i8 0, .int .i8 0, .int .i8 0, .int .i8 0, .int .i8 0, .int .i8 0]
theorem va_of {f : Nat} (hf : f < 20) (a b c : Int) :
    ((y12.setIfInBounds (Ico.cor f 0) (.int .i8 a)).setIfInBounds (Ico.cor f 1) (.int .i8 b)).setIfInBounds (Ico.cor f 2) (.int .i8 c) = va f a b c := by
  rcases twenty hf with rfl | rfl | rfl | rfl | rfl | rfl | rfl | rfl | rfl | rfl | rfl | rfl | rfl | rfl | rfl | rfl | rfl | rfl | rfl | rfl <;> rfl
theorem y12_at (j : Nat) (h : j < 12) : y12[j]? = some (.int .i8 0) := by
  have : j = 0 ∨ j = 1 ∨ j = 2 ∨ j = 3 ∨ j = 4 ∨ j = 5 ∨ j = 6 ∨ j = 7 ∨ j = 8 ∨ j = 9 ∨ j = 10 ∨ j = 11 := by omega
  rcases this with rfl | rfl | rfl | rfl | rfl | rfl | rfl | rfl | rfl | rfl | rfl | rfl <;> rfl
theorem va_at (f : Nat) (a b c : Int) (j : Nat) (h : j < 12) : (va f a b c)[j]? = some (.int .i8 (Ico.wt f a b c j)) := by
  have : j = 0 ∨ j = 1 ∨ j = 2 ∨ j = 3 ∨ j = 4 ∨ j = 5 ∨ j = 6 ∨ j = 7 ∨ j = 8 ∨ j = 9 ∨ j = 10 ∨ j = 11 := by omega
  rcases this with rfl | rfl | rfl | rfl | rfl | rfl | rfl | rfl | rfl | rfl | rfl | rfl <;> rfl
set_option maxRecDepth 100000 in
set_option maxHeartbeats 1000000 in
theorem weightsOf_any (f : Nat) (a b c : Int) (w : World) (hf : f < 20) (ha0 : 0 ≤ a) (ha : a ≤ 8) (hb0 : 0 ≤ b) (hb8 : b ≤ 8) (hc0 : 0 ≤ c) (hc : c ≤ 8) :
    Calls Tryz.prog 130 #[.agg #[.int .i64 f, .int .i64 a, .int .i64 b, .int .i64 c]] w fun e w' => e = .returned (.agg (va f a b c)) ∧ Below w.heap.size w w' := by
  go_enter Tryz.func130, Tryz.ntmps130
  go_upto_region 3 with (go_at_call 139; refine (corners_yes _ _ hf).mono ?_; rintro e w1 ⟨rfl, hb⟩)
  have r1 : Row w1 w.heap.size 134 #[.int .i64 f, .int .i64 a, .int .i64 b, .int .i64 c] := (((Row.new w _ _).alloc _).alloc _).under hb
  have r2 : Row w1 (w.heap.size + 1) 178 y12 := ((Row.newAt (by simp)).alloc _).under hb
  have r3 : Row w1 (w.heap.size + 1 + 1) 178 y12 := (Row.newAt (by simp)).under hb
  have b1 : Below w.heap.size w w1 := ((((Below.refl _ _).alloc (Nat.le_refl _) _).alloc (by simp) _).alloc (by simp; omega) _).trans (hb.mono (by simp; omega))
  have z1 : w.heap.size + 3 ≤ w1.heap.size := by have := hb.size; simp at this; omega
  refine forget (fun Y => Below w.heap.size w Y ∧ Row Y w.heap.size 134 #[.int .i64 f, .int .i64 a, .int .i64 b, .int .i64 c] ∧ Row Y (w.heap.size + 1) 178 y12 ∧ Row Y (w.heap.size + 1 + 1) 178 y12 ∧ Row Y w1.heap.size 130 #[.int .i64 (Ico.cor f 0), .int .i64 (Ico.cor f 1), .int .i64 (Ico.cor f 2)]) ⟨b1.alloc b1.size _, r1.alloc _, r2.alloc _, r3.alloc _, Row.new _ _ _⟩ ?_
  clear r1 r2 r3 b1 hb
  generalize w1.heap.size = gc at *
  rintro Y ⟨bY, r1, r2, r3, r4⟩
  obtain ⟨p0, p1, p2, p3⟩ := row4 r1
  obtain ⟨q0, q1, q2⟩ := row3 r4
  have l0 := Ico.cor_lt f 0
  have l1 := Ico.cor_lt f 1
  have l2 := Ico.cor_lt f 2
  obtain ⟨n1, n2, n3⟩ := Ico.cor_ne f hf
  have k0 : Y.cell? ⟨w.heap.size + 1 + 1, Ico.cor f 0, none⟩ = some (.int .i8 0) := (r3.cell _).trans (y12_at _ l0)
  have k1 : Y.cell? ⟨w.heap.size + 1 + 1, Ico.cor f 1, none⟩ = some (.int .i8 0) := (r3.cell _).trans (y12_at _ l1)
  have k2 : Y.cell? ⟨w.heap.size + 1 + 1, Ico.cor f 2, none⟩ = some (.int .i8 0) := (r3.cell _).trans (y12_at _ l2)
  have m0 := r3.thaw (Ico.cor f 0)
  have m1 := r3.thaw (Ico.cor f 1)
  have m2 := r3.thaw (Ico.cor f 2)
  have W := Lib.hid (va_of hf a b c)
  have e0 : w.heap.size ≠ w.heap.size + 1 + 1 := by omega
  have e1 : gc ≠ w.heap.size + 1 + 1 := by omega
  have R3 := Lib.hid r3
  have R2 := Lib.hid r2
  have hg2 : w.heap.size ≤ w.heap.size + 1 := by omega
  have hg3 : w.heap.size ≤ w.heap.size + 1 + 1 := by omega
  have hg23 : w.heap.size + 1 ≠ w.heap.size + 1 + 1 := by omega
  clear r1 r2 r3 r4
  generalize Ico.cor f 0 = x at *
  generalize Ico.cor f 1 = y at *
  generalize Ico.cor f 2 = z at *
  generalize w.heap.size + 1 + 1 = g3 at *
  generalize w.heap.size + 1 = g2 at *
  go_region
  go_upto_region 4 with fail
  have ne23 : g2 ≠ g3 := hg23
  have hR : ∀ n : World, n = (((Y.setCell ⟨g3, x, none⟩ (.int .i8 a)).setCell ⟨g3, y, none⟩ (.int .i8 b)).setCell ⟨g3, z, none⟩ (.int .i8 c)).drew → Below w.heap.size w n ∧ Row n g2 178 y12 ∧ Row n g3 178 (va f a b c) := by
    rintro n rfl
    exact ⟨(((bY.setCell (p := ⟨g3, x, none⟩) hg3 _).setCell (p := ⟨g3, y, none⟩) hg3 _).setCell (p := ⟨g3, z, none⟩) hg3 _).drew, ((R2.out.far (Ne.symm ne23) _).far (Ne.symm ne23) _).far (Ne.symm ne23) _, by rw [← W.out]; exact ((R3.out.put _ _).put _ _).put _ _⟩
  refine forget (fun n => Below w.heap.size w n ∧ Row n g2 178 y12 ∧ Row n g3 178 (va f a b c)) (hR _ rfl) ?_
  clear hR R2 R3 W k0 k1 k2 m0 m1 m2 p0 p1 p2 p3 q0 q1 q2 bY
  rintro V ⟨bV, v2, v3⟩
  obtain ⟨⟨c0, c1, c2, c3, c4, c5⟩, c6, c7, c8, c9, c10, c11⟩ := row12 v3
  obtain ⟨⟨d0, d1, d2, d3, d4, d5⟩, d6, d7, d8, d9, d10, d11⟩ := row12 v2
  have t0 := v2.thaw
  have V2 := Lib.hid v2
  clear v2 v3
  go_wp2
  exact bodyPost_ret (v := .agg (va f a b c)) (results_cell_row Tryz.results130 _ _ g2 178 _ (0, 0) _ rfl (put12 _ _ _ _ _ _ _ _ _ _ _ _ V2.out) Tryz.underlying178 rfl (by kernel_rfl)) rfl ⟨rfl, below12 _ _ _ _ _ _ _ _ _ _ _ _ bV hg2⟩
end Go.Proofs.YtejoabaanclcbaaGreat



namespace Go.Proofs.YtejoabaanclcbaaGreat
open Go.RowKit Go.Maps

theorem laidOutK : laidOutB Tryz.prog = true := by kernel_rfl
theorem wkeyed : Keyed Tryz.prog 178 :=
  Keyed.of_law (deep_law_laid (m := 3) laidOutK (by decide) (of_decide_eq_true (by kernel_rfl)) (by kernel_rfl) (by kernel_rfl))
theorem mapM_some {α β : Type} {f : α → Option β} : ∀ {l : List α}, (∀ x ∈ l, ∃ y, f x = some y) → ∃ ys, l.mapM f = some ys
  | [], _ => ⟨[], rfl⟩
  | x :: r, h => by
    obtain ⟨y, hy⟩ := h x (by simp)
    obtain ⟨ys, hys⟩ := mapM_some (l := r) fun z hz => h z (by simp [hz])
    exact ⟨y :: ys, by simp [List.mapM_cons, hy, hys]⟩
theorem keyT : Tryz.prog.keyType 178 = true := by kernel_rfl
theorem cellsW : Tryz.prog.cellsOf 178 = 12 := by kernel_rfl
theorem cells8 : Tryz.prog.cellsOf 176 = 1 := by kernel_rfl
set_option maxRecDepth 100000 in
theorem key_some (vs : List Value) (hl : vs.length = 12) (h : ∀ v ∈ vs, ∃ x : Int, v = .int .i8 x ∧ (Lit.int .i8 x).wf = true) : ∃ l, keyOf Tryz.prog 178 (.agg vs.toArray) = some l := by
  have hts : ∃ d, Tryz.prog.types.size = d + 1 := ⟨Tryz.prog.types.size - 1, by have : 0 < Tryz.prog.types.size := of_decide_eq_true (by kernel_rfl); omega⟩
  obtain ⟨d, hd⟩ := hts
  have hm : ∃ ys, ((List.range 12).mapM fun i => Tryz.prog.keyLits (d + 1) 176 ((vs.drop (i * 1)).take 1)) = some ys := by
    refine mapM_some fun i hi => ?_
    rw [List.mem_range] at hi
    obtain ⟨x, hx, hw⟩ := h (vs[i]'(by omega)) (List.getElem_mem _)
    have e : (vs.drop (i * 1)).take 1 = [.int .i8 x] := by
      rw [Nat.mul_one, List.drop_eq_getElem_cons (by omega), hx]; rfl
    refine ⟨[.int .i8 x], ?_⟩
    rw [e]
    unfold Program.keyLits
    rw [Tryz.underlying176]
    simp [hw]
  obtain ⟨ys, hy⟩ := hm
  unfold keyOf
  rw [Tryz.underlying178]
  simp only [keyT, Bool.true_and]
  have hform : Value.formed Tryz.prog 178 (.agg vs.toArray) = true := by
    unfold Value.formed
    rw [Tryz.underlying178, cellsW]
    simp [hl]
  rw [hform, if_pos rfl, hd]
  unfold Program.keyLits
  rw [Tryz.underlying178]
  simp only [cellsW, cells8, Value.cells]
  rw [if_pos (by simp [hl]), hy]
  exact ⟨_, rfl⟩
/-- The key of a point. -/
noncomputable def kl (f a b c : Nat) : Lit := (keyOf Tryz.prog 178 (.agg (va f a b c))).getD (.bool false)
theorem wt_n (f a b c v : Nat) (ha : a ≤ 8) (hb : b ≤ 8) (hc : c ≤ 8) : 0 ≤ Ico.wt f a b c v ∧ Ico.wt f a b c v ≤ 8 := by
  rw [← Lat.wn_wt]
  have := Lat.wn_le (f := f) ha hb hc v
  omega
theorem wf8 {x : Int} (h1 : 0 ≤ x) (h2 : x ≤ 8) : (Lit.int .i8 x).wf = true := by
  have : x = 0 ∨ x = 1 ∨ x = 2 ∨ x = 3 ∨ x = 4 ∨ x = 5 ∨ x = 6 ∨ x = 7 ∨ x = 8 := by omega
  rcases this with rfl | rfl | rfl | rfl | rfl | rfl | rfl | rfl | rfl <;> decide
set_option maxRecDepth 100000 in
theorem kl_is {f a b c : Nat} (ha : a ≤ 8) (hb : b ≤ 8) (hc : c ≤ 8) : keyOf Tryz.prog 178 (.agg (va f a b c)) = some (kl f a b c) := by
  obtain ⟨l, hl⟩ := key_some (va f a b c).toList rfl (by
    intro v hv
    have key : ∀ j, ∃ x : Int, Value.int .i8 (Ico.wt f a b c j) = .int .i8 x ∧ (Lit.int .i8 x).wf = true := fun j => ⟨_, rfl, by
      obtain ⟨h1, h2⟩ := wt_n f a b c j ha hb hc
      exact wf8 h1 h2⟩
    simp only [List.mem_cons, List.not_mem_nil, or_false] at hv
    rcases hv with rfl | rfl | rfl | rfl | rfl | rfl | rfl | rfl | rfl | rfl | rfl | rfl <;> exact key _)
  have e : (va f a b c).toList.toArray = va f a b c := rfl
  rw [e] at hl
  unfold kl
  rw [hl]; rfl
set_option maxRecDepth 100000 in
theorem kl_congr {f a b c g x y z : Nat} (h : ∀ v, Lat.wn f a b c v = Lat.wn g x y z v) : kl f a b c = kl g x y z := by
  have h' : ∀ v, Ico.wt f a b c v = Ico.wt g x y z v := fun v => by rw [← Lat.wn_wt, ← Lat.wn_wt, h]
  unfold kl va
  simp only [h']
set_option maxRecDepth 100000 in
theorem kl_inj {f a b c g x y z : Nat} (hf : f < 20) (hg : g < 20) (ha : a ≤ 8) (hb : b ≤ 8) (hc : c ≤ 8) (hx : x ≤ 8) (hy : y ≤ 8) (hz : z ≤ 8) (h : kl f a b c = kl g x y z) : Lat.pk f a b c = Lat.pk g x y z := by
  have e := wkeyed.inj (kl_is (f := f) ha hb hc) (h ▸ kl_is (f := g) hx hy hz)
  injection e with e
  rw [Lat.pk_eq hf, Lat.pk_eq hg]
  have hv : ∀ v, v < 12 → Lat.wn f a b c v = Lat.wn g x y z v := by
    intro v hv
    have h1 := va_at f a b c v hv
    rw [e, va_at g x y z v hv] at h1
    injection h1 with h1
    injection h1 with _ h1
    rw [← Lat.wn_wt, ← Lat.wn_wt] at h1
    omega
  unfold Lat.wl
  rw [List.map_congr_left fun v hv' => hv v (List.mem_range.1 hv')]
section
variable {H : Type}
/-- What the map holds. -/
def Bor (D : DataW H) (bor : List (Nat × Nat)) : Prop := ∀ f a b c : Nat, f < 20 → a ≤ 8 → b ≤ 8 → c ≤ 8 →
  (Maps.has D (kl f a b c) = (Lat.look (Lat.pk f a b c) bor).isSome) ∧ ∀ i : Nat, Lat.look (Lat.pk f a b c) bor = some i → D.atKey (kl f a b c) (.lit (.int .i64 0)) = .lit (.int .i64 i)
theorem Bor.start : Bor (.map [] : DataW H) [] := fun _ _ _ _ _ _ _ _ => ⟨rfl, fun i h => by cases h⟩
set_option maxRecDepth 100000 in
theorem Bor.put {D : DataW H} {bor : List (Nat × Nat)} (h : Bor D bor) (hD : IsMap D) {f a b c : Nat} (hf : f < 20) (ha : a ≤ 8) (hb : b ≤ 8) (hc : c ≤ 8) (i : Nat) : Bor (D.put (kl f a b c) (.lit (.int .i64 i))) ((Lat.pk f a b c, i) :: bor) := by
  intro g x y z hg hx hy hz
  by_cases e : Lat.pk f a b c = Lat.pk g x y z
  · have hk : kl f a b c = kl g x y z := kl_congr (Lat.pk_wn hf hg (by omega) (by omega) (by omega) (by omega) (by omega) (by omega) e)
    rw [← hk]
    refine ⟨?_, fun j hj => ?_⟩
    · rw [has_put_same hD (wkeyed.key (kl_is ha hb hc))]
      simp [Lat.look, e]
    · rw [atKey_put_same hD (wkeyed.key (kl_is ha hb hc))]
      simp [Lat.look, e] at hj
      rw [hj]
  · have hk : kl g x y z ≠ kl f a b c := fun h' => e (kl_inj hf hg ha hb hc hx hy hz h'.symm)
    have hl : Lat.look (Lat.pk g x y z) ((Lat.pk f a b c, i) :: bor) = Lat.look (Lat.pk g x y z) bor := by
      have hb' : Nat.beq (Lat.pk f a b c) (Lat.pk g x y z) = false := by
        cases hb' : Nat.beq (Lat.pk f a b c) (Lat.pk g x y z)
        · rfl
        · exact absurd (Nat.eq_of_beq_eq_true hb') e
      simp [Lat.look, hb']
    rw [hl, has_put_other hk]
    refine ⟨(h g x y z hg hx hy hz).1, fun j hj => ?_⟩
    rw [atKey_put_other hk]
    exact (h g x y z hg hx hy hz).2 j hj
end
end Go.Proofs.YtejoabaanclcbaaGreat



namespace Go.Proofs.YtejoabaanclcbaaGreat
open Go.RowKit Go.Maps

theorem own_ne {w : World} {base size n g : Nat} {e t : TypeId} {v : Value} {xs : List Value} {cs : Array Value} (h : w.ownsRow base e size v n xs) (hr : Row w g t cs) (hne : e ≠ t) : some g ≠ v.ownBlock := by
  rcases h.2 with ⟨rfl, _⟩ | ⟨g', cap, cur, rfl, _, hh, _⟩
  · simp [Value.ownBlock]
  · intro he
    have : g = g' := by simpa [Value.ownBlock] using he
    subst this
    unfold Row at hr
    rw [hr] at hh
    injection hh with hh
    injection hh with _ ht
    exact hne ht.symm
theorem map_ne {H : Type} {w : World} {base size n b m : Nat} {e k : TypeId} {v : Value} {xs : List Value} {R : Value → Option (DataW H × List MemPlace)} {D : DataW H} (h : w.ownsRow base e size v n xs) (hm : w.ownsMap Tryz.prog k R b m D) : some b ≠ v.ownBlock := by
  rcases h.2 with ⟨rfl, _⟩ | ⟨g', cap, cur, rfl, _, hh, _⟩
  · simp [Value.ownBlock]
  · intro he
    have : b = g' := by simpa [Value.ownBlock] using he
    subst this
    obtain ⟨es, clock, hb, _⟩ := hm
    rw [hb] at hh
    injection hh with hh
    cases hh
theorem map_row_ne {H : Type} {w : World} {b m g : Nat} {t k : TypeId} {cs : Array Value} {R : Value → Option (DataW H × List MemPlace)} {D : DataW H} (hr : Row w g t cs) (hm : w.ownsMap Tryz.prog k R b m D) : b ≠ g := by
  rintro rfl
  obtain ⟨es, clock, hb, _⟩ := hm
  unfold Row at hr
  rw [hb] at hr
  injection hr with hh
  cases hh
theorem own_under {w w' : World} {base size n : Nat} {e : TypeId} {v : Value} {xs : List Value} (h : w.ownsRow base e size v n xs) (hb : Below w.heap.size w w') : w'.ownsRow base e size v n xs := by
  refine h.kept (row := none) (grown_below hb) ?_
  cases hv : v.ownBlock
  · exact .inl rfl
  · exact .inr (by simp)
theorem below_own {a b c : World} {B size n : Nat} {e : TypeId} {v : Value} {xs : List Value} (h : Below B a b) (hB : B ≤ b.heap.size) (ho : b.ownsRow B e size v n xs) (k : b.grownBy c v.ownBlock) : Below B a c :=
  ⟨k.os.trans h.os, k.tape.trans h.tape, k.output.trans h.output, Nat.le_trans h.size k.size, fun i hi => (k.block i (by omega) (fun e => by have := (ho.lt i e.symm).1; omega)).trans (h.block i hi)⟩
theorem below_by {a b c : World} {B g : Nat} (h : Below B a b) (hB : B ≤ b.heap.size) (hg : B ≤ g) (k : b.grownBy c (some g)) : Below B a c :=
  ⟨k.os.trans h.os, k.tape.trans h.tape, k.output.trans h.output, Nat.le_trans h.size k.size, fun i hi => (k.block i (by omega) (fun e => by injection e with e; omega)).trans (h.block i hi)⟩
theorem grown_one (w : World) (g j : Nat) (u : Value) : w.grownBy (w.setCell ⟨g, j, none⟩ u) (some g) :=
  ⟨rfl, rfl, rfl, by simp [World.setCell], fun i _ hne => Below.heap_setCell w ⟨g, j, none⟩ u i (fun e => hne (by rw [e]))⟩

/-- A weight of a point in the units of places. -/
def wd (n a : Nat) : Int := ((a * (840 / n) : Nat) : Int)
/-- The cells of a node. -/
def nc (n : Nat) (p : Lat.Pt) : List Value := [.int .i64 p.1, .int .i64 (wd n p.2.1), .int .i64 (wd n p.2.2), .int .i64 (wd n (n - p.2.1 - p.2.2))]
def ncs (n : Nat) (l : List Lat.Pt) : List Value := l.flatMap (nc n)
theorem ncs_snoc (n : Nat) (l : List Lat.Pt) (p : Lat.Pt) : ncs n (l ++ [p]) = ncs n l ++ nc n p := by simp [ncs]
theorem nc_one (n : Nat) (p : Lat.Pt) : ∀ u ∈ nc n p, u.oneCell' = true := by
  intro u hu
  simp only [nc, List.mem_cons, List.not_mem_nil, or_false] at hu
  rcases hu with rfl | rfl | rfl | rfl <;> rfl
theorem infoPlace : (Tryz.prog.info? 32).map (fun i => (i.zero, i.size, i.bytes)) = some (some (.agg #[.int .i64 0, .int .i64 0, .int .i64 0, .int .i64 0]), 4, 32) := by kernel_rfl

/-- What is known of the lattice in block gl and the map in block gm. -/
structure Mk (W : World) (n gl gm : Nat) (rv : List Lat.Pt) (cnt : Nat) (bor ix : List (Nat × Nat)) (w : World) : Prop where
  below : Below W.heap.size W w
  gl0 : W.heap.size ≤ gl
  gm0 : W.heap.size ≤ gm
  lat : ∃ cs g cap, Row w gl 171 cs ∧ cs.size = 1621 ∧ cs[0]? = some (.slice (some ⟨g, 0, none⟩) cnt cap) ∧ w.ownsRow W.heap.size 32 4 (.slice (some ⟨g, 0, none⟩) cnt cap) cnt (ncs n rv.reverse) ∧
    ∀ j, j < 1620 → cs[j + 1]? = some (.int .i64 ((Lat.look j ix).getD 0 : Nat))
  map : ∃ (D : DataW Unit) (k : Nat), w.ownsMap Tryz.prog 178 (plainElem Tryz.prog 3) gm k D ∧ Bor D bor ∧ k ≤ bor.length
section
variable {W w w' : World} {n gl gm : Nat} {rv : List Lat.Pt} {cnt : Nat} {bor ix : List (Nat × Nat)}
theorem Mk.under (h : Mk W n gl gm rv cnt bor ix w) (hb : Below w.heap.size w w') : Mk W n gl gm rv cnt bor ix w' := by
  obtain ⟨cs, g, cap, h1, h2, h3, h4, h5⟩ := h.lat
  obtain ⟨D, k, m1, m2, m3⟩ := h.map
  exact ⟨h.below.trans (hb.mono h.below.size), h.gl0, h.gm0, ⟨cs, g, cap, h1.under hb, h2, h3, own_under h4 hb, h5⟩, D, k, m1.kept (grown_below (r := none) hb) (by simp), m2, m3⟩
theorem Mk.alloc (h : Mk W n gl gm rv cnt bor ix w) (o : Obj) : Mk W n gl gm rv cnt bor ix (w.alloc o) := h.under ((Below.refl _ _).alloc (Nat.le_refl _) o)
theorem Mk.drew (h : Mk W n gl gm rv cnt bor ix w) : Mk W n gl gm rv cnt bor ix w.drew := ⟨h.below.drew, h.gl0, h.gm0, h.lat, h.map⟩
theorem Mk.drewN (h : Mk W n gl gm rv cnt bor ix w) (k : Nat) : Mk W n gl gm rv cnt bor ix (w.drewN k) := ⟨below_drewN h.below k, h.gl0, h.gm0, h.lat, h.map⟩
theorem Mk.ltl (h : Mk W n gl gm rv cnt bor ix w) : gl < w.heap.size := by obtain ⟨cs, g, cap, h1, _⟩ := h.lat; exact h1.lt
/-- A node is appended and the field stored. -/
theorem Mk.grow (h : Mk W n gl gm rv cnt bor ix w) {p : Lat.Pt} {g cap g' cap' : Nat} (hown : w.ownsRow W.heap.size 32 4 (.slice (some ⟨g, 0, none⟩) cnt cap) cnt (ncs n rv.reverse))
    (hown' : w'.ownsRow W.heap.size 32 4 (.slice (some ⟨g', 0, none⟩) (cnt + 1) cap') (cnt + 1) (ncs n rv.reverse ++ nc n p)) (hg : w.grownBy w' (Value.slice (some ⟨g, 0, none⟩) cnt cap).ownBlock) :
    Mk W n gl gm (p :: rv) (cnt + 1) bor ix (w'.setCell ⟨gl, 0, none⟩ (.slice (some ⟨g', 0, none⟩) (cnt + 1) cap')) := by
  obtain ⟨cs, g0, cap0, h1, h2, h3, h4, h5⟩ := h.lat
  obtain ⟨D, k, m1, m2, m3⟩ := h.map
  have r1 : Row w' gl 171 cs := h1.grown hg (own_ne hown h1 (by decide))
  have n1 := own_ne hown' r1 (by decide)
  refine ⟨(below_own h.below h.below.size hown hg).setCell h.gl0 _, h.gl0, h.gm0, ⟨_, g', cap', r1.put 0 _, by simpa using h2, by simp [h2], ?_, fun j hj => ?_⟩, D, k, ?_, m2, m3⟩
  · rw [List.reverse_cons, ncs_snoc]
    exact hown'.kept (grown_one _ _ _ _) (.inr (Ne.symm n1))
  · rw [Array.getElem?_setIfInBounds]
    simp [h5 j hj]
  · have k1 := m1.kept hg (map_ne hown m1)
    exact k1.kept (grown_one _ _ _ _) (by have := map_row_ne r1 k1; simpa using this)
/-- A border node is entered into the map. -/
theorem Mk.enter (h : Mk W n gl gm rv cnt bor ix w) {D : DataW Unit} {f a b c k i : Nat} (hf : f < 20) (ha : a ≤ 8) (hb : b ≤ 8) (hc : c ≤ 8) (m1 : w.ownsMap Tryz.prog 178 (plainElem Tryz.prog 3) gm k D) (m2 : Bor D bor) (m3 : k ≤ bor.length)
    (hm : w'.ownsMap Tryz.prog 178 (plainElem Tryz.prog 3) gm (k + 1) (D.put (kl f a b c) (.lit (.int .i64 i)))) (hg : w.grownBy w' (some gm)) :
    Mk W n gl gm rv cnt ((Lat.pk f a b c, i) :: bor) ix w' := by
  obtain ⟨cs, g, cap, h1, h2, h3, h4, h5⟩ := h.lat
  have e1 := map_row_ne h1 m1
  have e2 := map_ne h4 m1
  exact ⟨below_by h.below h.below.size h.gm0 hg, h.gl0, h.gm0, ⟨cs, g, cap, h1.grown hg (by simpa using Ne.symm e1), h2, h3, h4.kept hg (.inr (Ne.symm e2)), h5⟩, _, _, hm, m2.put m1.isMap hf ha hb hc i, by simp; omega⟩
/-- The index of a point is stored. -/
theorem Mk.index (h : Mk W n gl gm rv cnt bor ix w) (o i : Nat) (ho : o < 1620) : Mk W n gl gm rv cnt bor ((o, i) :: ix) (w.setCell ⟨gl, o + 1, none⟩ (.int .i64 i)) := by
  obtain ⟨cs, g, cap, h1, h2, h3, h4, h5⟩ := h.lat
  obtain ⟨D, k, m1, m2, m3⟩ := h.map
  have n1 := own_ne h4 h1 (by decide)
  refine ⟨h.below.setCell h.gl0 _, h.gl0, h.gm0, ⟨_, g, cap, h1.put (o + 1) _, by simpa using h2, by rw [Array.getElem?_setIfInBounds]; simp [h3], h4.kept (grown_one _ _ _ _) (.inr (Ne.symm n1)), fun j hj => ?_⟩, D, k, m1.kept (grown_one _ _ _ _) (by have := map_row_ne h1 m1; simpa using this), m2, m3⟩
  rw [Array.getElem?_setIfInBounds]
  by_cases e : o = j
  · subst e
    simp [Lat.look]; omega
  · have hb : Nat.beq o j = false := by
      cases hb : Nat.beq o j
      · rfl
      · exact absurd (Nat.eq_of_beq_eq_true hb) e
    simp [Lat.look, hb, e, h5 j hj]
end
end Go.Proofs.YtejoabaanclcbaaGreat



namespace Go.Proofs.YtejoabaanclcbaaGreat
open Go.RowKit Go.Maps

theorem mul_in {x : Nat} {q : Int} (_h0 : 0 ≤ (x : Int)) (h8 : x ≤ 8) (q0 : 0 ≤ q) (q1 : q ≤ 840) : IntKind.i64.wrap ((x : Int) * q) = (x : Int) * q := by
  have a : (x : Int) * q ≤ 8 * 840 := Int.mul_le_mul (by omega) q1 q0 (by omega)
  have b : 0 ≤ (x : Int) * q := Int.mul_nonneg (by omega) q0
  exact IntWalk.i64_in _ (by omega)
set_option maxRecDepth 100000 in
set_option maxHeartbeats 4000000 in
theorem enter_in (W : World) (n gl gm f a b c : Nat) (rv : List Lat.Pt) (cnt : Nat) (bor ix : List (Nat × Nat)) (w : World) (h : Mk W n gl gm rv cnt bor ix w)
    (_hf : f < 20) (ha : a ≤ 8) (hb : b ≤ 8) (hc : c ≤ 8) (hn : a + b + c = n) (a0 : 0 < a) (b0 : 0 < b) (c0 : 0 < c) (hcnt : cnt ≤ 100000) :
    Calls Tryz.prog 127 #[.pointer (some ⟨gl, 0, none⟩), .agg #[.int .i64 f, .int .i64 a, .int .i64 b, .int .i64 c], .map (some gm)] w fun e w' => e = .returned (.int .i64 cnt) ∧ Mk W n gl gm ((f, a, b) :: rv) (cnt + 1) bor ix w' := by
  obtain ⟨i0, hi, hz0, hz1, hz2⟩ := info_parts infoPlace
  have h1 := h.alloc (.cells #[.int .i64 f, .int .i64 a, .int .i64 b, .int .i64 c] 134)
  obtain ⟨cs, g, cap, l1, l2, l3, l4, l5⟩ := h1.lat
  have c0' : (w.alloc (.cells #[.int .i64 f, .int .i64 a, .int .i64 b, .int .i64 c] 134)).cell? ⟨gl, 0, none⟩ = some (.slice (some ⟨g, 0, none⟩) cnt cap) := (l1.cell 0).trans l3
  have za : ((a : Int) == 0) = false := beq_eq_false_iff_ne.2 (by omega)
  have zb : ((b : Int) == 0) = false := beq_eq_false_iff_ne.2 (by omega)
  have zc : ((c : Int) == 0) = false := beq_eq_false_iff_ne.2 (by omega)
  have hgl := h.ltl
  have HN := Lib.hid hn; clear hn
  have H1 := Lib.hid h1; clear h1 h l2 l5
  have L1 := Lib.hid l1; clear l1
  have L4 := Lib.hid l4; clear l4
  go_enter Tryz.func127, Tryz.ntmps127
  go_upto_region 9 with fail
  have hq : (840 : Int) / (↑a + ↑b + ↑c) = ((840 / n : Nat) : Int) := by rw [← HN.out]; simp
  have hq0 : 0 ≤ (840 : Int) / (↑a + ↑b + ↑c) ∧ (840 : Int) / (↑a + ↑b + ↑c) ≤ 840 := by
    rw [hq]
    have := Nat.div_le_self 840 n
    generalize 840 / n = t at *
    omega
  have HQ := Lib.hid hq; clear hq
  generalize hqq : (840 : Int) / (↑a + ↑b + ↑c) = q at *
  clear hqq
  obtain ⟨q0, q1⟩ := hq0
  have w1 : IntKind.i64.wrap ((a : Int) * q) = (a : Int) * q := mul_in (by omega) ha q0 q1
  have w2 : IntKind.i64.wrap ((b : Int) * q) = (b : Int) * q := mul_in (by omega) hb q0 q1
  have w3 : IntKind.i64.wrap ((c : Int) * q) = (c : Int) * q := mul_in (by omega) hc q0 q1
  refine forget (fun Y => Mk W n gl gm rv cnt bor ix Y ∧ (∃ cs, Row Y gl 171 cs ∧ cs[0]? = some (.slice (some ⟨g, 0, none⟩) cnt cap)) ∧ Y.ownsRow W.heap.size 32 4 (.slice (some ⟨g, 0, none⟩) cnt cap) cnt (ncs n rv.reverse) ∧
    Row Y w.heap.size 134 #[.int .i64 f, .int .i64 a, .int .i64 b, .int .i64 c]) ⟨H1.out, ⟨cs, L1.out, l3⟩, L4.out, Row.new _ _ _⟩ ?_
  clear L1 l3 H1 L4 c0'
  generalize w.heap.size = gp at *
  rintro Y ⟨h1, ⟨cs, l1, l3⟩, l4, r⟩
  obtain ⟨p0, p1, p2, p3⟩ := row4 r
  have c0' : Y.cell? ⟨gl, 0, none⟩ = some (.slice (some ⟨g, 0, none⟩) cnt cap) := (l1.cell 0).trans l3
  have egp : gl ≠ gp := fun e => by subst e; have := l1.symm.trans r; injection this with this; injection this with _ t; exact absurd t (by decide)
  have HX : Hid (∀ (o : Obj) (x : World), (Y.alloc o).drew.grownBy x (some g) → x.cell? ⟨gl, 0, none⟩ = some (.slice (some ⟨g, 0, none⟩) cnt cap) ∧ x.frozen? ⟨gl, 0, none⟩ = false ∧
      x.cell? ⟨gp, 0, none⟩ = some (.int .i64 f) ∧ x.cell? ⟨gp, 1, none⟩ = some (.int .i64 a) ∧ x.cell? ⟨gp, 2, none⟩ = some (.int .i64 b) ∧ x.cell? ⟨gp, 3, none⟩ = some (.int .i64 c)) := Lib.hid (fun o x hx => by
    have k : Row (Y.alloc o).drew gl 171 cs := (l1.alloc o).drew
    have k2 := k.grown hx (own_ne (w := (Y.alloc o).drew) ((l4.alloc o)) k (by decide))
    have m : Row (Y.alloc o).drew gp 134 _ := (r.alloc o).drew
    exact ⟨(k2.cell 0).trans l3, k2.thaw 0, row4 (m.grown hx (own_ne (w := (Y.alloc o).drew) ((l4.alloc o)) m (by decide)))⟩)
  have PA : Hid (∀ o : Obj, (Y.alloc o).drew.cell? ⟨gp, 0, none⟩ = some (.int .i64 f) ∧ (Y.alloc o).drew.cell? ⟨gp, 1, none⟩ = some (.int .i64 a) ∧ (Y.alloc o).drew.cell? ⟨gp, 2, none⟩ = some (.int .i64 b) ∧ (Y.alloc o).drew.cell? ⟨gp, 3, none⟩ = some (.int .i64 c)) := Lib.hid (fun o => row4 (r.alloc o).drew)
  have H1 := Lib.hid h1; clear h1 l1 l3 r
  have L4 := Lib.hid l4; clear l4
  refine wp_region_held_drew (S := (fun w' : World => w'.cell? ⟨gp, 0, none⟩ = some (.int .i64 f) ∧ w'.cell? ⟨gp, 1, none⟩ = some (.int .i64 a) ∧ w'.cell? ⟨gp, 2, none⟩ = some (.int .i64 b) ∧ w'.cell? ⟨gp, 3, none⟩ = some (.int .i64 c))) (by kernel_rfl) ⟨p0, p1, p2, p3⟩ (fun hHeld => ?_)
  refine tk 0 rfl ?_
  try go_frame
  refine tk 1 rfl ?_
  try go_frame
  refine tk 2 rfl ?_
  try go_frame
  refine tk 3 rfl ?_
  try go_frame
  refine tk 5 rfl ?_
  try go_frame
  refine tk 6 rfl ?_
  try go_frame
  refine tk 7 rfl ?_
  try go_frame
  refine tk 8 rfl ?_
  try go_frame
  refine tk 9 rfl ?_
  try go_frame
  refine tk 10 rfl ?_
  try go_frame
  refine tk 11 rfl ?_
  try go_frame
  refine tk 12 rfl ?_
  try go_frame
  refine tk 13 rfl ?_
  try go_frame
  refine tk 14 rfl ?_
  try go_frame
  refine tk 15 rfl ?_
  try go_frame
  refine tk 16 rfl ?_
  try go_frame
  refine tk 17 rfl ?_
  try go_frame
  refine tk 18 rfl ?_
  try go_frame
  refine tk 19 rfl ?_
  try go_frame
  refine wpAnyH_ready (rs := [4, 20]) (by kernel_rfl) (by simp) ?_
  refine AllReadyH.cons rfl (fun K hK => ?_) (AllReadyH.cons rfl (fun K hK => ?_) AllReadyH.nil)
  · go_simp
    refine hK.out _ _ ⟨p0, p1, p2, p3⟩ (fun hHeld2 => ?_)
    clear hK K hHeld
    try go_frame
    refine wpAnyH_ready (rs := [20]) (by kernel_rfl) (by simp) ?_
    refine AllReadyH.cons rfl (fun K hK => ?_) AllReadyH.nil
    go_simp
    refine hK.out _ _ (PA.out _) (fun hHeld => ?_)
    clear hK K hHeld2
    try go_frame
    refine wpAnyH_ready (rs := [21]) (by kernel_rfl) (by simp) ?_
    refine AllReadyH.cons rfl (fun K hK => ?_) AllReadyH.nil
    refine step_append_lies _ (by rfl) _ _ _ (by rfl) W.heap.size 32 i0 _ 4 32 Tryz.underlying86 hi hz0 hz1 hz2 rfl (by decide) (.slice (some ⟨g, 0, none⟩) cnt cap) cnt (ncs n rv.reverse) (by rfl) ((L4.out.alloc _).drew) ⟨Y.heap.size, 0, none⟩ 1 1 [.int .i64 f, .int .i64 ((a : Int) * q), .int .i64 ((b : Int) * q), .int .i64 ((c : Int) * q)] (by rfl) (by rfl) (World.news_of_block (cs := #[.int .i64 f, .int .i64 ((a : Int) * q), .int .i64 ((b : Int) * q), .int .i64 ((c : Int) * q)]) (t := 32) (fr := (0, 0)) (heap_alloc_new Y _)) (by simp [Value.oneCell']) (by omega) (by unfold maxLen; omega) (by omega) (by have := H1.out.below.size; simp; omega) (Y.heap.size + 1) (by simp) ?_
    intro g' cap' x hown1 hgrow hat hlt
    obtain ⟨k1, k2, k3, k4, k5, k6⟩ := HX.out _ _ hgrow
    refine hK.out _ _ ?_ (fun hHeld2 => ?_)
    · exact ⟨k3, k4, k5, k6⟩
    clear hK K hHeld
    try simp only [Act.put, List.setIfInBounds_toArray]
    refine tk 22 rfl ?_
    try go_frame
    refine tk 23 rfl ?_
    try go_frame
    refine wpAnyH_ready (rs := [24]) (by kernel_rfl) (by simp) ?_
    refine AllReadyH.cons rfl (fun K hK => ?_) AllReadyH.nil
    go_simp
    refine hK.out _ _ ?_ (fun hHeld => ?_)
    · exact ⟨by rw [World.cell?_setCell_far _ _ _ _ egp]; exact k3, by rw [World.cell?_setCell_far _ _ _ _ egp]; exact k4, by rw [World.cell?_setCell_far _ _ _ _ egp]; exact k5, by rw [World.cell?_setCell_far _ _ _ _ egp]; exact k6⟩
    clear hK K hHeld hHeld2
    try go_frame
    refine wpAnyH_done (by kernel_rfl) ?_ _
    go_wp2_with fail
    go_ret
    refine ⟨rfl, ?_⟩
    have hnc : nc n (f, a, b) = [.int .i64 f, .int .i64 ((a : Int) * q), .int .i64 ((b : Int) * q), .int .i64 ((c : Int) * q)] := by
      rw [HQ.out]; simp [nc, wd, ← HN.out, show a + b + c - a - b = c by omega]
    exact (H1.out.alloc _).drew.grow ((L4.out.alloc _).drew) (by rw [hnc]; exact hown1) hgrow
  · go_simp
    refine hK.out _ _ (PA.out _) (fun hHeld2 => ?_)
    clear hK K hHeld
    try go_frame
    refine wpAnyH_ready (rs := [4]) (by kernel_rfl) (by simp) ?_
    refine AllReadyH.cons rfl (fun K hK => ?_) AllReadyH.nil
    have ca : ∀ o : Obj, (Y.alloc o).cell? ⟨gl, 0, none⟩ = some (.slice (some ⟨g, 0, none⟩) cnt cap) := fun o => (World.cell?_alloc_some Y _ o (by rw [c0']; rfl)).trans c0'
    go_simp
    refine hK.out _ _ (PA.out _) (fun hHeld => ?_)
    clear hK K hHeld2
    try go_frame
    refine wpAnyH_ready (rs := [21]) (by kernel_rfl) (by simp) ?_
    refine AllReadyH.cons rfl (fun K hK => ?_) AllReadyH.nil
    refine step_append_lies _ (by rfl) _ _ _ (by rfl) W.heap.size 32 i0 _ 4 32 Tryz.underlying86 hi hz0 hz1 hz2 rfl (by decide) (.slice (some ⟨g, 0, none⟩) cnt cap) cnt (ncs n rv.reverse) (by rfl) ((L4.out.alloc _).drew) ⟨Y.heap.size, 0, none⟩ 1 1 [.int .i64 f, .int .i64 ((a : Int) * q), .int .i64 ((b : Int) * q), .int .i64 ((c : Int) * q)] (by rfl) (by rfl) (World.news_of_block (cs := #[.int .i64 f, .int .i64 ((a : Int) * q), .int .i64 ((b : Int) * q), .int .i64 ((c : Int) * q)]) (t := 32) (fr := (0, 0)) (heap_alloc_new Y _)) (by simp [Value.oneCell']) (by omega) (by unfold maxLen; omega) (by omega) (by have := H1.out.below.size; simp; omega) (Y.heap.size + 1) (by simp) ?_
    intro g' cap' x hown1 hgrow hat hlt
    obtain ⟨k1, k2, k3, k4, k5, k6⟩ := HX.out _ _ hgrow
    refine hK.out _ _ ?_ (fun hHeld2 => ?_)
    · exact ⟨k3, k4, k5, k6⟩
    clear hK K hHeld
    try simp only [Act.put, List.setIfInBounds_toArray]
    refine tk 22 rfl ?_
    try go_frame
    refine tk 23 rfl ?_
    try go_frame
    refine wpAnyH_ready (rs := [24]) (by kernel_rfl) (by simp) ?_
    refine AllReadyH.cons rfl (fun K hK => ?_) AllReadyH.nil
    go_simp
    refine hK.out _ _ ?_ (fun hHeld => ?_)
    · exact ⟨by rw [World.cell?_setCell_far _ _ _ _ egp]; exact k3, by rw [World.cell?_setCell_far _ _ _ _ egp]; exact k4, by rw [World.cell?_setCell_far _ _ _ _ egp]; exact k5, by rw [World.cell?_setCell_far _ _ _ _ egp]; exact k6⟩
    clear hK K hHeld hHeld2
    try go_frame
    refine wpAnyH_done (by kernel_rfl) ?_ _
    go_wp2_with fail
    go_ret
    refine ⟨rfl, ?_⟩
    have hnc : nc n (f, a, b) = [.int .i64 f, .int .i64 ((a : Int) * q), .int .i64 ((b : Int) * q), .int .i64 ((c : Int) * q)] := by
      rw [HQ.out]; simp [nc, wd, ← HN.out, show a + b + c - a - b = c by omega]
    exact (H1.out.alloc _).drew.grow ((L4.out.alloc _).drew) (by rw [hnc]; exact hown1) hgrow
end Go.Proofs.YtejoabaanclcbaaGreat


