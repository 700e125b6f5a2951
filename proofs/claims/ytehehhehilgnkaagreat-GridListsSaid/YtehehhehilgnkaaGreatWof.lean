/- The contract of weightsOf: the weights of all vertices in a point, in eight bits. -/
import Derived.Test.YtehehhehilgnkaaGreatTwelve
import Derived.RegionTactic
import Derived.BigRegion
import Derived.Deep.Cut
import Derived.Deep.CutRange
import Derived.ChangeAlike
namespace Go.Proofs.YtehehhehilgnkaaGreat
open Go.RowKit

/-- The weights of all vertices. -/
abbrev va (f : Nat) (a b c : Int) : Array Value := #[.int .i8 (Ico.wt f a b c 0), .int .i8 (Ico.wt f a b c 1), .int .i8 (Ico.wt f a b c 2), .int .i8 (Ico.wt f a b c 3), .int .i8 (Ico.wt f a b c 4), .int .i8 (Ico.wt f a b c 5), .int .i8 (Ico.wt f a b c 6), .int .i8 (Ico.wt f a b c 7), .int .i8 (Ico.wt f a b c 8), .int .i8 (Ico.wt f a b c 9), .int .i8 (Ico.wt f a b c 10), .int .i8 (Ico.wt f a b c 11)]
abbrev y12 : Array Value := #[.int .i8 0, .int .i8 0, .int .i8 0, .int .i8 0, .int .i8 0, .int .i8 0, .int .i8 0, .int .i8 0, .int .i8 0, .int .i8 0, .int .i8 0, .int .i8 0]
theorem va_of {f : Nat} (hf : f < 20) (a b c : Int) :
    ((y12.setIfInBounds (Ico.cor f 0) (.int .i8 a)).setIfInBounds (Ico.cor f 1) (.int .i8 b)).setIfInBounds (Ico.cor f 2) (.int .i8 c) = va f a b c := by
  rcases twenty hf with rfl | rfl | rfl | rfl | rfl | rfl | rfl | rfl | rfl | rfl | rfl | rfl | rfl | rfl | rfl | rfl | rfl | rfl | rfl | rfl <;> rfl
theorem y12_at (j : Nat) (h : j < 12) : y12[j]? = some (.int .i8 0) := by
  have : j = 0 ∨ j = 1 ∨ j = 2 ∨ j = 3 ∨ j = 4 ∨ j = 5 ∨ j = 6 ∨ j = 7 ∨ j = 8 ∨ j = 9 ∨ j = 10 ∨ j = 11 := by omega
  rcases this with rfl | rfl | rfl | rfl | rfl | rfl | rfl | rfl | rfl | rfl | rfl | rfl <;> rfl
theorem va_at (f : Nat) (a b c : Int) (j : Nat) (h : j < 12) : (va f a b c)[j]? = some (.int .i8 (Ico.wt f a b c j)) := by
  have : j = 0 ∨ j = 1 ∨ j = 2 ∨ j = 3 ∨ j = 4 ∨ j = 5 ∨ j = 6 ∨ j = 7 ∨ j = 8 ∨ j = 9 ∨ j = 10 ∨ j = 11 := by omega
  rcases this with rfl | rfl | rfl | rfl | rfl | rfl | rfl | rfl | rfl | rfl | rfl | rfl <;> rfl
set_option maxRecDepth 100000 in
set_option maxHeartbeats 1000000 in
theorem weightsOf_any (f : Nat) (a b c : Int) (w : World) (hf : f < 20) (ha0 : 0 ≤ a) (ha : a ≤ 8) (hb0 : 0 ≤ b) (hb8 : b ≤ 8) (hc0 : 0 ≤ c) (hc : c ≤ 8) :
    Calls Tryz.prog 49 #[.agg #[.int .i64 f, .int .i64 a, .int .i64 b, .int .i64 c]] w fun e w' => e = .returned (.agg (va f a b c)) ∧ Below w.heap.size w w' := by
  go_enter Tryz.func49, Tryz.ntmps49
  go_upto_region 3 with (go_at_call 76; refine (corners_yes _ _ hf).mono ?_; rintro e w1 ⟨rfl, hb⟩)
  have r1 : Row w1 w.heap.size 79 #[.int .i64 f, .int .i64 a, .int .i64 b, .int .i64 c] := (((Row.new w _ _).alloc _).alloc _).under hb
  have r2 : Row w1 (w.heap.size + 1) 98 y12 := ((Row.newAt (by simp)).alloc _).under hb
  have r3 : Row w1 (w.heap.size + 1 + 1) 98 y12 := (Row.newAt (by simp)).under hb
  have b1 : Below w.heap.size w w1 := ((((Below.refl _ _).alloc (Nat.le_refl _) _).alloc (by simp) _).alloc (by simp; omega) _).trans (hb.mono (by simp; omega))
  have z1 : w.heap.size + 3 ≤ w1.heap.size := by have := hb.size; simp at this; omega
  refine forget (fun Y => Below w.heap.size w Y ∧ Row Y w.heap.size 79 #[.int .i64 f, .int .i64 a, .int .i64 b, .int .i64 c] ∧ Row Y (w.heap.size + 1) 98 y12 ∧ Row Y (w.heap.size + 1 + 1) 98 y12 ∧ Row Y w1.heap.size 57 #[.int .i64 (Ico.cor f 0), .int .i64 (Ico.cor f 1), .int .i64 (Ico.cor f 2)]) ⟨b1.alloc b1.size _, r1.alloc _, r2.alloc _, r3.alloc _, Row.new _ _ _⟩ ?_
  clear r1 r2 r3 b1 hb
  generalize w1.heap.size = gc at *
  rintro Y ⟨bY, r1, r2, r3, r4⟩
  obtain ⟨p0, p1, p2, p3⟩ := row4 r1
  obtain ⟨q0, q1, q2⟩ := row3 r4
  have l0 := Ico.cor_lt f 0
  have l1 := Ico.cor_lt f 1
  have l2 := Ico.cor_lt f 2
  obtain ⟨n1, n2, n3⟩ := Ico.cor_ne f hf
  have k0 : Y.cell? ⟨w.heap.size + 1 + 1, Ico.cor f 0, none⟩ = some (.int .i8 0) := (r3.cell _).trans (y12_at _ l0)
  have k1 : Y.cell? ⟨w.heap.size + 1 + 1, Ico.cor f 1, none⟩ = some (.int .i8 0) := (r3.cell _).trans (y12_at _ l1)
  have k2 : Y.cell? ⟨w.heap.size + 1 + 1, Ico.cor f 2, none⟩ = some (.int .i8 0) := (r3.cell _).trans (y12_at _ l2)
  have m0 := r3.thaw (Ico.cor f 0)
  have m1 := r3.thaw (Ico.cor f 1)
  have m2 := r3.thaw (Ico.cor f 2)
  have W := Lib.hid (va_of hf a b c)
  have e0 : w.heap.size ≠ w.heap.size + 1 + 1 := by omega
  have e1 : gc ≠ w.heap.size + 1 + 1 := by omega
  have R3 := Lib.hid r3
  have R2 := Lib.hid r2
  have hg2 : w.heap.size ≤ w.heap.size + 1 := by omega
  have hg3 : w.heap.size ≤ w.heap.size + 1 + 1 := by omega
  have hg23 : w.heap.size + 1 ≠ w.heap.size + 1 + 1 := by omega
  clear r1 r2 r3 r4
  generalize Ico.cor f 0 = x at *
  generalize Ico.cor f 1 = y at *
  generalize Ico.cor f 2 = z at *
  generalize w.heap.size + 1 + 1 = g3 at *
  generalize w.heap.size + 1 = g2 at *
  go_region
  go_upto_region 4 with fail
  have ne23 : g2 ≠ g3 := hg23
  have hR : ∀ n : World, n = (((Y.setCell ⟨g3, x, none⟩ (.int .i8 a)).setCell ⟨g3, y, none⟩ (.int .i8 b)).setCell ⟨g3, z, none⟩ (.int .i8 c)).drew → Below w.heap.size w n ∧ Row n g2 98 y12 ∧ Row n g3 98 (va f a b c) := by
    rintro n rfl
    exact ⟨(((bY.setCell (p := ⟨g3, x, none⟩) hg3 _).setCell (p := ⟨g3, y, none⟩) hg3 _).setCell (p := ⟨g3, z, none⟩) hg3 _).drew, ((R2.out.far (Ne.symm ne23) _).far (Ne.symm ne23) _).far (Ne.symm ne23) _, by rw [← W.out]; exact ((R3.out.put _ _).put _ _).put _ _⟩
  refine forget (fun n => Below w.heap.size w n ∧ Row n g2 98 y12 ∧ Row n g3 98 (va f a b c)) (hR _ rfl) ?_
  clear hR R2 R3 W k0 k1 k2 m0 m1 m2 p0 p1 p2 p3 q0 q1 q2 bY
  rintro V ⟨bV, v2, v3⟩
  obtain ⟨⟨c0, c1, c2, c3, c4, c5⟩, c6, c7, c8, c9, c10, c11⟩ := row12 v3
  obtain ⟨⟨d0, d1, d2, d3, d4, d5⟩, d6, d7, d8, d9, d10, d11⟩ := row12 v2
  have t0 := v2.thaw
  have V2 := Lib.hid v2
  clear v2 v3
  go_wp2
  exact bodyPost_ret (v := .agg (va f a b c)) (results_cell_row Tryz.results49 _ _ g2 98 _ (0, 0) _ rfl (put12 _ _ _ _ _ _ _ _ _ _ _ _ V2.out) Tryz.underlying98 rfl (by kernel_rfl)) rfl ⟨rfl, below12 _ _ _ _ _ _ _ _ _ _ _ _ bV hg2⟩
end Go.Proofs.YtehehhehilgnkaaGreat

