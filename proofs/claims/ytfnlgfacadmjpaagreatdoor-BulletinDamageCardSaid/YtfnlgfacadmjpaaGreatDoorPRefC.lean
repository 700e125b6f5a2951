/- Contracts of the reference's On, Addresses, Normal. -/
import Derived.Test.YtfnlgfacadmjpaaGreatDoorPRefB
namespace Go.Proofs.YtfnlgfacadmjpaaGreatDoor.Pl
open Go.RowKit

set_option maxRecDepth 100000 in
set_option maxHeartbeats 2000000 in
theorem on_any (f n : Nat) (a b c : Int) (r : Bool) (w : World) (hv : Ico.Vld f a b c) (hlt : n < 20) (hr : Ico.ok f a b c n = r) :
    Calls Tryz.prog 172 #[.int .i64 n, .agg (wa f a b c)] w fun e w' => e = .returned (.tuple #[.agg #[.int .i64 n, .int .i64 (Ico.wt f a b c (Ico.cor n 0)), .int .i64 (Ico.wt f a b c (Ico.cor n 1)), .int .i64 (Ico.wt f a b c (Ico.cor n 2))], .bool r]) ∧ Below w.heap.size w w' := by
  obtain ⟨y1, y2⟩ := Ico.wt_bd hv (Ico.cor n 0)
  obtain ⟨z1, z2⟩ := Ico.wt_bd hv (Ico.cor n 1)
  obtain ⟨x1, x2⟩ := Ico.wt_bd hv (Ico.cor n 2)
  have R : Hid ((Ico.wt f a b c (Ico.cor n 0) + Ico.wt f a b c (Ico.cor n 1) + Ico.wt f a b c (Ico.cor n 2) == 840) = r) := Lib.hid (by rw [← hr]; unfold Ico.ok Ico.sm; rw [Bool.eq_iff_iff]; simp)
  clear hr hv
  go_enter Tryz.func172, Tryz.ntmps172
  go_upto_region 2 with (go_at_call 191; refine (refCorners_yes _ _ hlt).mono ?_; rintro e w4 ⟨rfl, hb4⟩)
  have r1 : Row w4 w.heap.size 170 (wa f a b c) := ((Row.new w _ _).alloc _).under hb4
  have r2 : Row w4 (w.heap.size + 1) 50 #[.int .i64 0, .int .i64 0, .int .i64 0, .int .i64 0] := (Row.newAt (by simp)).under hb4
  have b1 : Below w.heap.size w w4 := (((Below.refl _ _).alloc (Nat.le_refl _) _).alloc (by simp) _).trans (hb4.mono (by simp; omega))
  refine forget (fun Y => Below w.heap.size w Y ∧ Row Y w.heap.size 170 (wa f a b c) ∧ Row Y (w.heap.size + 1) 50 #[.int .i64 0, .int .i64 0, .int .i64 0, .int .i64 0] ∧ Row Y w4.heap.size 152 #[.int .i64 (Ico.cor n 0), .int .i64 (Ico.cor n 1), .int .i64 (Ico.cor n 2)]) ⟨b1.alloc b1.size _, r1.alloc _, r2.alloc _, Row.new _ _ _⟩ ?_
  clear r1 r2 b1 hb4
  generalize w4.heap.size = go at *
  rintro Y ⟨bY, r1, r2, r4⟩
  have hge : w.heap.size ≤ w.heap.size + 1 := by omega
  generalize w.heap.size + 1 = gr at *
  obtain ⟨q0, q1, q2⟩ := row3 r4
  have l0 := Ico.cor_lt n 0
  have l1 := Ico.cor_lt n 1
  have l2 := Ico.cor_lt n 2
  have m0 := (r1.cell (Ico.cor n 0)).trans (wa_at f a b c _ l0)
  have m1 := (r1.cell (Ico.cor n 1)).trans (wa_at f a b c _ l1)
  have m2 := (r1.cell (Ico.cor n 2)).trans (wa_at f a b c _ l2)
  have n0 : (0 : Int) ≤ (Ico.cor n 0 : Int) ∧ (Ico.cor n 0 : Int) < 12 := by omega
  have n1 : (0 : Int) ≤ (Ico.cor n 1 : Int) ∧ (Ico.cor n 1 : Int) < 12 := by omega
  have n2 : (0 : Int) ≤ (Ico.cor n 2 : Int) ∧ (Ico.cor n 2 : Int) < 12 := by omega
  obtain ⟨n00, n01⟩ := n0
  obtain ⟨n10, n11⟩ := n1
  obtain ⟨n20, n21⟩ := n2
  have R2 := Lib.hid r2; clear r2 r1 r4
  obtain ⟨gw, hgw⟩ : ∃ g, w.heap.size = g := ⟨_, rfl⟩
  rw [hgw] at m0 m1 m2 ⊢
  have HGW := Lib.hid hgw; clear hgw
  go_region_held3 (fun w' => (w'.cell? ⟨go, 0, none⟩ = some (.int .i64 (Ico.cor n 0)) ∧ w'.cell? ⟨go, 1, none⟩ = some (.int .i64 (Ico.cor n 1)) ∧ w'.cell? ⟨go, 2, none⟩ = some (.int .i64 (Ico.cor n 2))) ∧ w'.cell? ⟨gw, Ico.cor n 0, none⟩ = some (.int .i64 (Ico.wt f a b c (Ico.cor n 0))) ∧ w'.cell? ⟨gw, Ico.cor n 1, none⟩ = some (.int .i64 (Ico.wt f a b c (Ico.cor n 1))) ∧ w'.cell? ⟨gw, Ico.cor n 2, none⟩ = some (.int .i64 (Ico.wt f a b c (Ico.cor n 2))))
    (go_keep) (fail)
  go_upto_region 3 with fail
  have hlr := R2.out.lt
  refine forget (fun Z => Below w.heap.size w Z ∧ Row Z gr 50 #[.int .i64 0, .int .i64 0, .int .i64 0, .int .i64 0] ∧ Row Z Y.heap.size 50 #[.int .i64 n, .int .i64 (Ico.wt f a b c (Ico.cor n 0)), .int .i64 (Ico.wt f a b c (Ico.cor n 1)), .int .i64 (Ico.wt f a b c (Ico.cor n 2))] ∧ gr ≠ Y.heap.size) ⟨(bY.alloc bY.size _).drew, (R2.out.alloc _).drew, (Row.new _ _ _).drew, by omega⟩ ?_
  clear R2 q0 q1 q2 m0 m1 m2 n00 n01 n10 n11 n20 n21 l0 l1 l2 bY hlr
  generalize Y.heap.size = gq at *
  rintro Z ⟨bZ, rr, rq, hne⟩
  generalize hA : Ico.wt f a b c (Ico.cor n 0) = A at *
  generalize hB : Ico.wt f a b c (Ico.cor n 1) = B at *
  generalize hC : Ico.wt f a b c (Ico.cor n 2) = C at *
  have HA := Lib.hid hA; clear hA
  have HB := Lib.hid hB; clear hB
  have HC := Lib.hid hC; clear hC
  obtain ⟨c0, c1, c2, c3⟩ := row4 rq
  obtain ⟨d0, d1, d2, d3⟩ := row4 rr
  have t0 := rr.thaw 0
  have t1 := rr.thaw 1
  have t2 := rr.thaw 2
  have t3 := rr.thaw 3
  have RR := Lib.hid rr; clear rr rq
  rw [HGW.out] at bZ hge
  go_region
  go_wp2_with fail
  refine bodyPost_ret (v := .tuple #[.agg #[.int .i64 n, .int .i64 A, .int .i64 B, .int .i64 C], .bool (A + B + C == 840)]) (by simp [results, Tryz.results172, d0, d1, d2, d3, go_sem]) rfl ⟨by rw [HA.out, HB.out, HC.out, R.out], ?_⟩
  rw [HGW.out]
  exact (set4_below bZ hge).drew
end Go.Proofs.YtfnlgfacadmjpaaGreatDoor.Pl
