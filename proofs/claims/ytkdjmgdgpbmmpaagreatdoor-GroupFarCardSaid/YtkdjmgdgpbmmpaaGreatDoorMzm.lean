/- The walk of GroupFar. -/
import Derived.Test.YtkdjmgdgpbmmpaaGreatDoorMze
import Derived.Test.YtkdjmgdgpbmmpaaGreatDoorMzf
import Derived.Test.YtkdjmgdgpbmmpaaGreatDoorMzj
namespace Go.Proofs.YtkdjmgdgpbmmpaaGreatDoor
open Go.RowKit

theorem near_ex {d h i near : Int} (ho : tmOk d h i near) : ∃ a, Ck.Nearest d h i near a := by
  have hr : 0 ≤ near ∧ near ≤ 52595999 := by have := ho.2.2; unfold Ck.Cal.rng at this; simpa using this
  obtain ⟨y, m, dd, p, q, hv, hn, -⟩ := Ck.Cal.num_of near hr.1 hr.2
  have key : ∀ n : Nat, ∃ b f, Ck.Best d h i near (y * 12 + m - 1 - 2) (y * 12 + m - 1 - 2 + n) b f := by
    intro n
    induction n with
    | zero => exact ⟨0, false, by simpa using Ck.Best.start⟩
    | succ n ih =>
      obtain ⟨b, f, hB⟩ := ih
      have e : y * 12 + m - 1 - 2 + ((n + 1 : Nat) : Int) = y * 12 + m - 1 - 2 + (n : Int) + 1 := by omega
      rw [e]
      cases hk : Ck.okM d h i (y * 12 + m - 1 - 2 + (n : Int))
      · exact ⟨b, f, hB.skip hk⟩
      · cases f
        · exact ⟨_, true, hB.first (by omega) hk⟩
        · by_cases hd : Ck.dist (Ck.valM d h i (y * 12 + m - 1 - 2 + (n : Int))) near < Ck.dist b near
          · exact ⟨_, true, hB.better (by omega) hk hd⟩
          · exact ⟨b, true, hB.keep hk hd⟩
  obtain ⟨b, f, hB⟩ := key 6
  exact ⟨b, hB.nearest hv hn (by omega) (by omega) ho.1 ho.2.1⟩
theorem rsv_ex {t near : Int} (ht : 0 ≤ t ∧ t ≤ 52595999) (hn : 0 ≤ near ∧ near ≤ 52595999) : ∃ a, rsv (dayOf t) (hourOf t) (minOf t) near = some a := by
  obtain ⟨y, m, hv, -⟩ := dt_of ht
  have ho : tmOk (dayOf t) (hourOf t) (minOf t) near := ⟨(dt_bd ht).1, Ck.Cal.vld_tod hv, Ck.Cal.rng_yes hn.1 hn.2⟩
  obtain ⟨a, ha⟩ := near_ex ho
  exact ⟨a, rsv_yes ho ha⟩
theorem cRep_time (k : Int) (nm : ByteArray) (a t F A B C : Int) (L : List El.Elt.R) : (cRep k nm a F A B C L k nm t F A B C L == 0) = decide (a = t) := by
  have z : ∀ x : Int, Cmpr.num x x = 0 := fun x => (Cmpr.num_tot.zero x x).2 rfl
  unfold cRep
  rw [(ctx_tot.zero nm nm).2 rfl, (cRs_tot.zero L L).2 rfl, z, z, z, z, z]
  have e : orL [0, 0, Cmpr.num a t, orL [0, 0, 0, 0], 0] = Cmpr.num a t := by
    simp only [orL, Cmpr.or]; simp
    exact fun h => h.symm
  rw [e, Bool.eq_iff_iff, beq_iff_eq, decide_eq_true_iff]
  exact Cmpr.num_tot.zero a t
theorem readable_is (k : Int) (nm : ByteArray) (t F A B C : Int) (u : Value) (L : List El.Elt.R) (near : Int) (r : Bool) (w0 w : World) (hL : El.RdIn w0 u L ∧ (decide (vcode k nm t F A B C L = 0) && rdb t near) = r) (hE : Env w0) (hb : Below w0.heap.size w0 w) :
    Calls Tryz.prog 26 #[repV k nm t F A B C u, .int .i64 near] w fun e w' => e = .returned (.bool r) ∧ Below w0.heap.size w0 w' := by
  have h := readable_any k nm t F A B C u L near w (hL.1.under hb) (hE.under hb)
  rw [hL.2] at h
  exact h.mono fun _ _ ⟨he, hg⟩ => ⟨he, hb.trans (hg.mono hb.size)⟩
theorem refSame_is (k : Int) (nm : ByteArray) (t F A B C : Int) (u : Value) (L : List El.Elt.R) (t' : Int) (u' : Value) (r : Bool) (w0 w : World) (hL : El.RdIn w0 u L) (hM : El.RdIn w0 u' L) (hr : decide (t = t') = r) (hb : Below w0.heap.size w0 w) :
    Calls Tryz.prog 29 #[repV k nm t F A B C u, repV k nm t' F A B C u'] w fun e w' => e = .returned (.bool r) ∧ Below w0.heap.size w0 w' := by
  have h := refSame_any k nm t F A B C u L k nm t' F A B C u' L w (hL.under hb) (hM.under hb)
  rw [cRep_time, hr] at h
  exact h.mono fun _ _ ⟨he, hg⟩ => ⟨he, hb.trans (hg.mono hb.size)⟩
set_option maxRecDepth 100000 in
set_option maxHeartbeats 4000000 in
theorem groupFar_any (v : Value) (near : Int) (w : World) (hE : Env w) (hl : ListIn w v) (hi : -9223372036854775808 ≤ near ∧ near ≤ 9223372036854775807) :
    Calls Tryz.prog 6 #[v, .int .i64 near] w fun e w' => e = .returned (.bool true) ∧ Below w.heap.size w w' := by
  go_enter Tryz.func6, Tryz.ntmps6
  go_wp2_with fail
  refine (new_any _ _ hl).mono ?_
  rintro e w1 ⟨rfl, s1, -⟩
  go_wp2_with fail
  refine (minute_any _ _ _ s1).mono ?_
  rintro e w2 ⟨m, ⟨m1, m2⟩, rfl, s2, -⟩
  go_wp2_with fail
  refine (report_any _ _ _ m s2 m1 m2).mono ?_
  rintro e w3 ⟨k, nm, t, F, A, B, C, u, L, hV, -, rfl, hG⟩
  have b3 := hG.src.below
  have hR := El.RdIn.own hG.own
  obtain ⟨Au, cu, rfl, -⟩ := id hR
  have b4 := b3.alloc b3.size (.cells (repC k nm t F A B C (.slice Au L.length cu)) 26)
  have r4 := Row.new w3 (repC k nm t F A B C (.slice Au L.length cu)) 26
  have hR4 := hR.under ((Below.refl _ _).alloc (Nat.le_refl _) (.cells (repC k nm t F A B C (.slice Au L.length cu)) 26))
  have HV := Lib.hid hV
  clear hG s1 s2 hR b3 hV hl m1 m2
  go_upto_region 4 with fail
  generalize w3.alloc (.cells (repC k nm t F A B C (.slice Au L.length cu)) 26) = W4 at *
  generalize w3.heap.size = g7 at *
  obtain ⟨c0, c1, c2, c3, c4, c5, c6, c7⟩ := row8 r4
  go_wp2_with fail
  refine (mod_any near 52596000 _ hi (by omega) (by omega)).mono ?_
  rintro e w4' ⟨rfl, rfl⟩
  have hn : 0 ≤ near % 52596000 ∧ near % 52596000 ≤ 52595999 := ⟨Int.emod_nonneg _ (by omega), by have := Int.emod_lt_of_pos near (show (0 : Int) < 52596000 by omega); omega⟩
  generalize near % 52596000 = n at *
  obtain ⟨a, ha⟩ := rsv_ex HV.out.time hn
  obtain ⟨hat, o1, o2, o3⟩ := rsv_own ha
  have HA := Lib.hid ha
  have HVa := Lib.hid (show Vd k nm a F A B C L from ⟨HV.out.kind, HV.out.name, hat, HV.out.place, HV.out.list⟩)
  have HTx := Lib.hid (show gtx k nm a F A B L = gtx k nm t F A B L by unfold gtx wds stp; rw [o1, o2, o3])
  have HB := Lib.hid (show (decide (vcode k nm t F A B C L = 0) && rdb t n) = decide (a = t) by
    rw [decide_eq_true HV.out.code, Bool.true_and, Bool.eq_iff_iff, rdb_iff, decide_eq_true_iff]
    unfold Rdb
    rw [ha]
    exact ⟨fun h => Option.some.inj h, fun h => by rw [h]⟩)
  have HBq := Lib.hid (show (decide (vcode k nm a F A B C L = 0) && rdb a n) = true by
    rw [decide_eq_true HVa.out.code, Bool.true_and, rdb_iff]
    unfold Rdb
    rw [o1, o2, o3]; exact ha)
  clear ha o1 o2 o3 hi hat
  go_wp2_with fail
  refine (format_yes k nm t F A B C _ L _ hR4 (hE.under b4) HV.out).mono ?_
  rintro e w5 ⟨rfl, g5'⟩
  have b5 := b4.trans (g5'.mono b4.size)
  have r5 := r4.under g5'
  have hR5 := hR4.under g5'
  clear b4 r4 hR4 g5' c0 c1 c2 c3 c4 c5 c6 c7
  go_wp2_with fail
  refine (parse_yes k nm t F A B C L n a _ (hE.under b5) HV.out hn HA.out).mono ?_
  rintro e w6 ⟨v6, rfl, hQ, g6⟩
  obtain ⟨Av, cv, rfl, -⟩ := id hQ
  have ba := (Below.refl w6.heap.size w6).alloc (Nat.le_refl _) (.cells (repC k nm a F A B C (.slice Av L.length cv)) 26)
  have b7 := (b5.trans (g6.mono b5.size)).alloc (b5.trans (g6.mono b5.size)).size (.cells (repC k nm a F A B C (.slice Av L.length cv)) 26)
  have r7 := (r5.under g6).under ba
  have q7 := Row.new w6 (repC k nm a F A B C (.slice Av L.length cv)) 26
  have hR7 := (hR5.under g6).under ba
  have hQ7 := hQ.under ba
  clear b5 r5 hR5 hQ g6 ba hn HA
  go_upto_region 7 with fail
  generalize w6.alloc (.cells (repC k nm a F A B C (.slice Av L.length cv)) 26) = W7 at *
  generalize w6.heap.size = g8 at *
  obtain ⟨d0, d1, d2, d3, d4, d5, d6, d7⟩ := row8 q7
  go_wp2_with fail
  refine (format_yes k nm a F A B C _ L _ hQ7 (hE.under b7) HVa.out).mono ?_
  rintro e w8 ⟨rfl, g8'⟩
  have b8 := b7.trans (g8'.mono b7.size)
  have r8 := r7.under g8'
  have q8 := q7.under g8'
  have hR8 := hR7.under g8'
  have hQ8 := hQ7.under g8'
  rw [HTx.out]
  clear b7 r7 q7 hR7 hQ7 g8' d0 d1 d2 d3 d4 d5 d6 d7 HTx
  have e1 : ((S (gtx k nm t F A B L)).toList == (S (gtx k nm t F A B L)).toList) = true := beq_self_eq_true _
  generalize S (gtx k nm t F A B L) = sx at *
  go_upto_region 10 with fail
  have HR := Lib.hid (show El.RdIn w8.drew (.slice Au L.length cu) L from hR8.under ((Below.refl w8.heap.size w8).drew))
  have HQ := Lib.hid (show El.RdIn w8.drew (.slice Av L.length cv) L from hQ8.under ((Below.refl w8.heap.size w8).drew))
  have HE := Lib.hid (hE.under b8).drew
  have R8 := Lib.hid r8
  have Q8 := Lib.hid q8
  have B8 := Lib.hid b8
  have hb2 := Below.refl w8.drew.heap.size w8.drew
  obtain ⟨⟨c0, c1, c2, c3, c4, c5, c6, c7⟩, d0, d1, d2, d3, d4, d5, d6, d7⟩ := cells2 r8 q8 hb2
  have H1 := Lib.hid (⟨HR.out, HB.out⟩ : El.RdIn w8.drew (.slice Au L.length cu) L ∧ (decide (vcode k nm t F A B C L = 0) && rdb t n) = decide (a = t))
  have H2 := Lib.hid (⟨HQ.out, HBq.out⟩ : El.RdIn w8.drew (.slice Av L.length cv) L ∧ (decide (vcode k nm a F A B C L = 0) && rdb a n) = true)
  have hlt := r8.lt
  have hlt' := q8.lt
  clear r8 q8 hR8 hQ8 b8 HB HBq HV HVa hE
  obtain ⟨bb, hbb⟩ : ∃ b, decide (a = t) = b := ⟨_, rfl⟩
  rw [hbb] at H1
  have HD := Lib.hid hbb
  clear hbb
  have H3 := Lib.hid (fun w hb => refSame_is k nm a F A B C (.slice Av L.length cv) L t (.slice Au L.length cu) bb w8.drew w HQ.out HR.out HD.out hb)
  cases bb
  all_goals
    go_region_held3 (fun w' => (w'.cell? ⟨g7, 0, none⟩ = some (.int .i64 k) ∧ w'.cell? ⟨g7, 1, none⟩ = some (.string nm) ∧ w'.cell? ⟨g7, 2, none⟩ = some (.int .i64 t) ∧ w'.cell? ⟨g7, 3, none⟩ = some (.int .i64 F) ∧ w'.cell? ⟨g7, 4, none⟩ = some (.int .i64 A) ∧ w'.cell? ⟨g7, 5, none⟩ = some (.int .i64 B) ∧ w'.cell? ⟨g7, 6, none⟩ = some (.int .i64 C) ∧ w'.cell? ⟨g7, 7, none⟩ = some (.slice Au L.length cu)) ∧
      w'.cell? ⟨g8, 0, none⟩ = some (.int .i64 k) ∧ w'.cell? ⟨g8, 1, none⟩ = some (.string nm) ∧ w'.cell? ⟨g8, 2, none⟩ = some (.int .i64 a) ∧ w'.cell? ⟨g8, 3, none⟩ = some (.int .i64 F) ∧ w'.cell? ⟨g8, 4, none⟩ = some (.int .i64 A) ∧ w'.cell? ⟨g8, 5, none⟩ = some (.int .i64 B) ∧ w'.cell? ⟨g8, 6, none⟩ = some (.int .i64 C) ∧ w'.cell? ⟨g8, 7, none⟩ = some (.slice Av L.length cv))
      (first | go_keep | exact cells2 R8.out Q8.out hb2)
      (first | (go_at_call 26; refine (readable_is _ _ _ _ _ _ _ _ _ _ _ w8.drew _ (by first | exact H1.out | exact H2.out) HE.out hb2).mono ?_; clear hb2; rintro e w9 ⟨rfl, hb2⟩) | (go_at_call 29; refine (H3.out _ hb2).mono ?_; clear hb2; rintro e w9 ⟨rfl, hb2⟩) | (go_at_call 17; refine (awake_from _ (HE.out.under hb2) hb2).mono ?_; clear hb2; rintro e w9 ⟨rfl, hb2⟩))
    go_wp2_with fail
    go_ret
    exact ⟨rfl, B8.out.trans ((undrew hb2).mono B8.out.size)⟩
end Go.Proofs.YtkdjmgdgpbmmpaaGreatDoor
