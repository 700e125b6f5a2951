/- The walk of GroupBack. -/
import Derived.Test.YtkdjmgdgpbmmpaaGreatDoorMze
import Derived.Test.YtkdjmgdgpbmmpaaGreatDoorMzf
import Derived.Test.YtkdjmgdgpbmmpaaGreatDoorMzg
import Derived.Test.YtkdjmgdgpbmmpaaGreatDoorMzj
namespace Go.Proofs.YtkdjmgdgpbmmpaaGreatDoor
open Go.RowKit

theorem cRep_self (k : Int) (nm : ByteArray) (t F A B C : Int) (L : List El.Elt.R) : cRep k nm t F A B C L k nm t F A B C L = 0 := by
  have z : ∀ x : Int, Cmpr.num x x = 0 := fun x => (Cmpr.num_tot.zero x x).2 rfl
  unfold cRep
  rw [(ctx_tot.zero nm nm).2 rfl, (cRs_tot.zero L L).2 rfl, z, z, z, z, z, z]
  rfl
set_option maxRecDepth 100000 in
set_option maxHeartbeats 2000000 in
theorem groupBack_any (v : Value) (w : World) (hE : Env w) (hl : ListIn w v) :
    Calls Tryz.prog 5 #[v] w fun e w' => e = .returned (.bool true) ∧ Below w.heap.size w w' := by
  go_enter Tryz.func5, Tryz.ntmps5
  go_wp2_with fail
  refine (new_any _ _ hl).mono ?_
  rintro e w1 ⟨rfl, s1, -⟩
  go_wp2_with fail
  refine (minute_any _ _ _ s1).mono ?_
  rintro e w2 ⟨m, ⟨m1, m2⟩, rfl, s2, -⟩
  go_wp2_with fail
  refine (report_any _ _ _ m s2 m1 m2).mono ?_
  rintro e w3 ⟨k, nm, t, F, A, B, C, u, L, hV, ⟨t1, t2⟩, rfl, hG⟩
  have b3 := hG.src.below
  have hR := El.RdIn.own hG.own
  have hr := rdb_near hV.time ⟨m1, m2⟩ t1 t2
  obtain ⟨Au, cu, rfl, -⟩ := id hR
  have b4 := b3.alloc b3.size (.cells (repC k nm t F A B C (.slice Au L.length cu)) 26)
  have r4 := Row.new w3 (repC k nm t F A B C (.slice Au L.length cu)) 26
  have hR4 := hR.under ((Below.refl _ _).alloc (Nat.le_refl _) (.cells (repC k nm t F A B C (.slice Au L.length cu)) 26))
  have HV := Lib.hid hV
  have HRS := Lib.hid hr
  clear hG s1 s2 hR b3 hV hr hl
  go_upto_region 4 with fail
  generalize w3.alloc (.cells (repC k nm t F A B C (.slice Au L.length cu)) 26) = W4 at *
  generalize w3.heap.size = g5 at *
  obtain ⟨c0, c1, c2, c3, c4, c5, c6, c7⟩ := row8 r4
  go_wp2_with fail
  refine (format_yes k nm t F A B C _ L _ hR4 (hE.under b4) HV.out).mono ?_
  rintro e w5 ⟨rfl, g5'⟩
  have b5 := b4.trans (g5'.mono b4.size)
  have r5 := r4.under g5'
  have hR5 := hR4.under g5'
  clear b4 r4 hR4 g5' c0 c1 c2 c3 c4 c5 c6 c7
  go_wp2_with fail
  refine (parse_yes k nm t F A B C L m t _ (hE.under b5) HV.out ⟨m1, m2⟩ HRS.out).mono ?_
  rintro e w6 ⟨v6, rfl, hQ, g6⟩
  obtain ⟨Av, cv, rfl, -⟩ := id hQ
  have ba := (Below.refl w6.heap.size w6).alloc (Nat.le_refl _) (.cells (repC k nm t F A B C (.slice Av L.length cv)) 26)
  have b7 := (b5.trans (g6.mono b5.size)).alloc (b5.trans (g6.mono b5.size)).size (.cells (repC k nm t F A B C (.slice Av L.length cv)) 26)
  have r7 := (r5.under g6).under ba
  have q7 := Row.new w6 (repC k nm t F A B C (.slice Av L.length cv)) 26
  have hR7 := (hR5.under g6).under ba
  have hQ7 := hQ.under ba
  generalize S (gtx k nm t F A B L) = sx at *
  clear b5 r5 hR5 hQ g6 ba
  go_upto_region 6 with fail
  generalize w6.alloc (.cells (repC k nm t F A B C (.slice Av L.length cv)) 26) = W7 at *
  generalize w6.heap.size = g8 at *
  obtain ⟨c0, c1, c2, c3, c4, c5, c6, c7⟩ := row8 r7
  obtain ⟨d0, d1, d2, d3, d4, d5, d6, d7⟩ := row8 q7
  have HY := Lib.hid (readable_any k nm t F A B C (.slice Au L.length cu) L m W7 hR7 (hE.under b7))
  rw [show (decide (vcode k nm t F A B C L = 0) && rdb t m) = true by rw [decide_eq_true HV.out.code, rdb_iff.2 HRS.out]; rfl] at HY
  go_wp2_with fail
  refine HY.out.mono ?_
  rintro e w8 ⟨rfl, g8'⟩
  have b8 := b7.trans (g8'.mono b7.size)
  have r8 := r7.under g8'
  have q8 := q7.under g8'
  have hR8 := hR7.under g8'
  have hQ8 := hQ7.under g8'
  clear b7 r7 q7 hR7 hQ7 g8' c0 c1 c2 c3 c4 c5 c6 c7 d0 d1 d2 d3 d4 d5 d6 d7 HY
  obtain ⟨c0, c1, c2, c3, c4, c5, c6, c7⟩ := row8 r8
  obtain ⟨d0, d1, d2, d3, d4, d5, d6, d7⟩ := row8 q8
  have HS := Lib.hid (same_any k nm t F A B C (.slice Av L.length cv) L k nm t F A B C (.slice Au L.length cu) L w8 hQ8 hR8)
  rw [show decide (Eqr k nm t F A B C L k nm t F A B C L) = true from decide_eq_true ⟨rfl, rfl, rfl, ⟨rfl, rfl, rfl, rfl⟩, rfl⟩] at HS
  go_wp2_with fail
  refine HS.out.mono ?_
  rintro e w9 ⟨rfl, g9⟩
  have b9 := b8.trans (g9.mono b8.size)
  have r9 := r8.under g9
  have q9 := q8.under g9
  have hR9 := hR8.under g9
  have hQ9 := hQ8.under g9
  clear b8 r8 q8 hR8 hQ8 g9 c0 c1 c2 c3 c4 c5 c6 c7 d0 d1 d2 d3 d4 d5 d6 d7 HS
  obtain ⟨c0, c1, c2, c3, c4, c5, c6, c7⟩ := row8 r9
  obtain ⟨d0, d1, d2, d3, d4, d5, d6, d7⟩ := row8 q9
  have HS := Lib.hid (refSame_any k nm t F A B C (.slice Av L.length cv) L k nm t F A B C (.slice Au L.length cu) L w9 hQ9 hR9)
  rw [cRep_self] at HS
  go_wp2_with fail
  refine HS.out.mono ?_
  rintro e wx ⟨rfl, gx⟩
  have bx := b9.trans (gx.mono b9.size)
  clear HS c0 c1 c2 c3 c4 c5 c6 c7 d0 d1 d2 d3 d4 d5 d6 d7 r9 q9 hR9 hQ9 b9 gx
  go_wp2_with fail
  refine (awake_from _ (hE.under bx) bx).mono ?_
  rintro e wy ⟨rfl, by'⟩
  go_wp2_with fail
  go_ret
  exact ⟨rfl, by'⟩
end Go.Proofs.YtkdjmgdgpbmmpaaGreatDoor
