/- The contract of weights of the program. -/
import Derived.Test.YtlakgkoohdfiaaaDoorQac
import Derived.RegionTactic
import Derived.BigRegion
import Derived.Deep.Cut
import Derived.Deep.CutRange
import Derived.ChangeAlike
namespace Go.Proofs.YtlakgkoohdfiaaaDoor.Pl
open Go.RowKit

set_option maxRecDepth 100000 in
set_option maxHeartbeats 1000000 in
theorem weights_any (f : Nat) (a b c : Int) (w : World) (hf : f < 20) :
    Calls Tryd.prog 138 #[.agg #[.int .i64 f, .int .i64 a, .int .i64 b, .int .i64 c]] w fun e w' => e = .returned (.agg (wa f a b c)) ∧ Below w.heap.size w w' := by
  go_enter Tryd.func138, Tryd.ntmps138
  go_upto_region 3 with (go_at_call 139; refine (cornersOf_any _ _ hf).mono ?_; rintro e w1 ⟨rfl, hb⟩)
  have r1 : Row w1 w.heap.size 27 #[.int .i64 f, .int .i64 a, .int .i64 b, .int .i64 c] := (((Row.new w _ _).alloc _).alloc _).under hb
  have r2 : Row w1 (w.heap.size + 1) 65 z12 := ((Row.newAt (by simp)).alloc _).under hb
  have r3 : Row w1 (w.heap.size + 1 + 1) 65 z12 := (Row.newAt (by simp)).under hb
  have b1 : Below w.heap.size w w1 := ((((Below.refl _ _).alloc (Nat.le_refl _) _).alloc (by simp) _).alloc (by simp; omega) _).trans (hb.mono (by simp; omega))
  have z1 : w.heap.size + 3 ≤ w1.heap.size := by have := hb.size; simp at this; omega
  refine forget (fun Y => Below w.heap.size w Y ∧ Row Y w.heap.size 27 #[.int .i64 f, .int .i64 a, .int .i64 b, .int .i64 c] ∧ Row Y (w.heap.size + 1) 65 z12 ∧ Row Y (w.heap.size + 1 + 1) 65 z12 ∧ Row Y w1.heap.size 192 #[.int .i64 (Ico.cor f 0), .int .i64 (Ico.cor f 1), .int .i64 (Ico.cor f 2)]) ⟨b1.alloc b1.size _, r1.alloc _, r2.alloc _, r3.alloc _, Row.new _ _ _⟩ ?_
  clear r1 r2 r3 b1 hb
  generalize w1.heap.size = gc at *
  rintro Y ⟨bY, r1, r2, r3, r4⟩
  obtain ⟨p0, p1, p2, p3⟩ := row4 r1
  obtain ⟨q0, q1, q2⟩ := row3 r4
  have l0 := Ico.cor_lt f 0
  have l1 := Ico.cor_lt f 1
  have l2 := Ico.cor_lt f 2
  obtain ⟨n1, n2, n3⟩ := Ico.cor_ne f hf
  have k0 : Y.cell? ⟨w.heap.size + 1 + 1, Ico.cor f 0, none⟩ = some (.int .i64 0) := (r3.cell _).trans (z12_at _ l0)
  have k1 : Y.cell? ⟨w.heap.size + 1 + 1, Ico.cor f 1, none⟩ = some (.int .i64 0) := (r3.cell _).trans (z12_at _ l1)
  have k2 : Y.cell? ⟨w.heap.size + 1 + 1, Ico.cor f 2, none⟩ = some (.int .i64 0) := (r3.cell _).trans (z12_at _ l2)
  have m0 := r3.thaw (Ico.cor f 0)
  have m1 := r3.thaw (Ico.cor f 1)
  have m2 := r3.thaw (Ico.cor f 2)
  have W := Lib.hid (wa_of hf a b c)
  have e0 : w.heap.size ≠ w.heap.size + 1 + 1 := by omega
  have e1 : gc ≠ w.heap.size + 1 + 1 := by omega
  have R3 := Lib.hid r3
  have R2 := Lib.hid r2
  have hg2 : w.heap.size ≤ w.heap.size + 1 := by omega
  have hg3 : w.heap.size ≤ w.heap.size + 1 + 1 := by omega
  have hg23 : w.heap.size + 1 ≠ w.heap.size + 1 + 1 := by omega
  clear r1 r2 r3 r4
  generalize Ico.cor f 0 = x at *
  generalize Ico.cor f 1 = y at *
  generalize Ico.cor f 2 = z at *
  generalize w.heap.size + 1 + 1 = g3 at *
  generalize w.heap.size + 1 = g2 at *
  go_region
  go_upto_region 4 with fail
  have ne23 : g2 ≠ g3 := hg23
  have hR : ∀ n : World, n = (((Y.setCell ⟨g3, x, none⟩ (.int .i64 a)).setCell ⟨g3, y, none⟩ (.int .i64 b)).setCell ⟨g3, z, none⟩ (.int .i64 c)).drew → Below w.heap.size w n ∧ Row n g2 65 z12 ∧ Row n g3 65 (wa f a b c) := by
    rintro n rfl
    exact ⟨(((bY.setCell (p := ⟨g3, x, none⟩) hg3 _).setCell (p := ⟨g3, y, none⟩) hg3 _).setCell (p := ⟨g3, z, none⟩) hg3 _).drew, ((R2.out.far (Ne.symm ne23) _).far (Ne.symm ne23) _).far (Ne.symm ne23) _, by rw [← W.out]; exact ((R3.out.put _ _).put _ _).put _ _⟩
  refine forget (fun n => Below w.heap.size w n ∧ Row n g2 65 z12 ∧ Row n g3 65 (wa f a b c)) (hR _ rfl) ?_
  clear hR R2 R3 W k0 k1 k2 m0 m1 m2 p0 p1 p2 p3 q0 q1 q2 bY
  rintro V ⟨bV, v2, v3⟩
  obtain ⟨⟨c0, c1, c2, c3, c4, c5⟩, c6, c7, c8, c9, c10, c11⟩ := row12 v3
  obtain ⟨⟨d0, d1, d2, d3, d4, d5⟩, d6, d7, d8, d9, d10, d11⟩ := row12 v2
  have t0 := v2.thaw
  have V2 := Lib.hid v2
  clear v2 v3
  go_wp2
  exact bodyPost_ret (v := .agg (wa f a b c)) (results_cell_row Tryd.results138 _ _ g2 65 _ (0, 0) _ rfl (put12 _ _ _ _ _ _ _ _ _ _ _ _ V2.out) Tryd.underlying65 rfl (by kernel_rfl)) rfl ⟨rfl, below12 _ _ _ _ _ _ _ _ _ _ _ _ bV hg2⟩
end Go.Proofs.YtlakgkoohdfiaaaDoor.Pl

