/- The walk of BulletinBack. -/
import Derived.Test.YtfnlgfacadmjpaaGreatDoorBMa
namespace Go.Proofs.YtfnlgfacadmjpaaGreatDoor.Bu
open Go.RowKit

theorem VdB.same {c : ByteArray} {t cor del : Int} {R R' : List Rp} (h : VdB c t cor del R) (hk : R'.map Rp.key = R.map Rp.key) : VdB c t cor del R' := by
  have hl : R'.length = R.length := by have := congrArg List.length hk; simpa using this
  refine ⟨h.hctr, h.htime, h.hcor, h.hdel, h.hone, by rw [hl]; exact h.hlen, fun r hr => ?_⟩
  have hm : r.key ∈ R.map Rp.key := by rw [← hk]; exact List.mem_map_of_mem hr
  obtain ⟨q, hq, e⟩ := List.mem_map.1 hm
  obtain ⟨h1, h2⟩ := h.hreps q hq
  obtain ⟨k, nm, tt, F, A, B, C, u, L⟩ := r
  obtain ⟨k', nm', tt', F', A', B', C', u', L'⟩ := q
  simp only [Rp.key, Prod.mk.injEq] at e
  obtain ⟨rfl, rfl, rfl, ⟨rfl, rfl, rfl, rfl⟩, rfl⟩ := e
  exact ⟨h1, h2⟩
set_option maxRecDepth 100000 in
set_option maxHeartbeats 4000000 in
theorem bulletinBack_any (v : Value) (w : World) (hE : Env w) (hl : ListIn w v) :
    Calls Tryz.prog 5 #[v] w fun e w' => e = .returned (.bool true) ∧ Below w.heap.size w w' := by
  have HE := Lib.hid hE
  clear hE
  go_enter Tryz.func5, Tryz.ntmps5
  go_wp2_with fail
  refine (new_any _ _ hl).mono ?_
  rintro e w1 ⟨rfl, s1, -⟩
  have hbw : w.heap.size ≤ w1.heap.size := s1.below.size
  obtain ⟨b, hb0⟩ : ∃ b, w.heap.size = b := ⟨_, rfl⟩
  have HB0 := Lib.hid hb0
  rw [hb0] at s1 ⊢
  clear hb0
  go_wp2_with fail
  refine (made_any w b w1 6 s1 (by decide)).mono ?_
  rintro e w2 ⟨c, t, cor, del, R, vr, base, rfl, hV, hR6, hM⟩
  obtain ⟨Ar, cr, er⟩ := row_form hM.own
  subst er
  have hb3 : Below w2.heap.size w2 (w2.alloc (.cells (bulC (S c) t cor del (.slice Ar R.length cr)) 24)) := (Below.refl _ _).alloc (Nat.le_refl _) _
  have H3 := Lib.hid (⟨hM.under hb3, Row.new _ _ _⟩ : RM w b base R (.slice Ar R.length cr) (w2.alloc (.cells (bulC (S c) t cor del (.slice Ar R.length cr)) 24)) ∧ Row (w2.alloc (.cells (bulC (S c) t cor del (.slice Ar R.length cr)) 24)) w2.heap.size 24 (bulC (S c) t cor del (.slice Ar R.length cr)))
  have h4b' : w2.heap.size ≠ b := by have := src_lt hM.src; omega
  have HV := Lib.hid hV
  have HP := Lib.hid (fun near Y (hY : Below w.heap.size w Y) (hn : 0 ≤ near ∧ near ≤ 52595999) (hr : Rdb t near) => parse_back c t cor del R near Y (HE.out.under hY) hV hn hr (by omega))
  have HFo := Lib.hid (fun Y (hY : Below w.heap.size w Y) (hR : RpsIn Y (.slice Ar R.length cr) R) => format_bul c t cor del (.slice Ar R.length cr) R Y (HE.out.under hY) hR hV (by omega))
  have htm := hV.htime
  clear hM hb3 hV s1
  generalize S c = sc at *
  generalize S (hdT c t cor del ++ 10 :: bdy R) = tx at *
  go_upto_region 3 with fail
  refine forget (fun V => Hid (RM w b base R (.slice Ar R.length cr) V ∧ Row V w2.heap.size 24 (bulC sc t cor del (.slice Ar R.length cr)))) H3 ?_
  clear H3
  generalize w2.heap.size = g4 at *
  have h4b := h4b'
  intro w3 H3
  obtain ⟨q0, q1, q2, q3, q4⟩ := row5 H3.out.2
  go_wp2_with fail
  refine (HFo.out _ H3.out.1.src.below H3.out.1.ins).mono ?_
  rintro e w4 ⟨rfl, hb⟩
  have H4 := Lib.hid (⟨H3.out.1.under hb, H3.out.2.under hb⟩ : RM w b base R (.slice Ar R.length cr) w4 ∧ Row w4 g4 24 (bulC sc t cor del (.slice Ar R.length cr)))
  clear hb H3 HFo q0 q1 q2 q3 q4
  obtain ⟨q0, q1, q2, q3, q4⟩ := row5 H4.out.2
  go_wp2_with fail
  refine (near_any w b w4 t H4.out.1.src htm.1 htm.2).mono ?_
  rintro e w5 ⟨near, ⟨hn, hn1, hn2⟩, rfl, hs, hg⟩
  have H5 := Lib.hid (⟨H4.out.1.step hs hg, H4.out.2.grown hg (fun e => h4b (by injection e))⟩ : RM w b base R (.slice Ar R.length cr) w5 ∧ Row w5 g4 24 (bulC sc t cor del (.slice Ar R.length cr)))
  have HRd := Lib.hid (rdb_near htm hn (by omega) (by omega))
  clear hs hg H4 q0 q1 q2 q3 q4
  go_wp2_with fail
  refine (HP.out near _ H5.out.1.src.below hn HRd.out).mono ?_
  rintro e w6 ⟨R', vr', B, d, hk, rfl, hR', hb⟩
  obtain ⟨Ar', cr', er, -⟩ := id hR'
  subst er
  have hb7 : Below w6.heap.size w6 (w6.alloc (.cells (bulC sc t cor del (.slice Ar' R'.length cr')) 24)) := (Below.refl _ _).alloc (Nat.le_refl _) _
  have H7 := Lib.hid (⟨(H5.out.1.under hb).under hb7, (H5.out.2.under hb).under hb7, Row.new _ _ _, hR'.under hb7⟩ : RM w b base R (.slice Ar R.length cr) (w6.alloc (.cells (bulC sc t cor del (.slice Ar' R'.length cr')) 24)) ∧ Row (w6.alloc (.cells (bulC sc t cor del (.slice Ar' R'.length cr')) 24)) g4 24 (bulC sc t cor del (.slice Ar R.length cr)) ∧ Row (w6.alloc (.cells (bulC sc t cor del (.slice Ar' R'.length cr')) 24)) w6.heap.size 24 (bulC sc t cor del (.slice Ar' R'.length cr')) ∧ RpsIn (w6.alloc (.cells (bulC sc t cor del (.slice Ar' R'.length cr')) 24)) (.slice Ar' R'.length cr') R')
  have HK := Lib.hid hk
  clear hb hb7 hR' hk H5 HP
  go_upto_region 5 with fail
  refine forget (fun V => Hid (RM w b base R (.slice Ar R.length cr) V ∧ Row V g4 24 (bulC sc t cor del (.slice Ar R.length cr)) ∧ Row V w6.heap.size 24 (bulC sc t cor del (.slice Ar' R'.length cr')) ∧ RpsIn V (.slice Ar' R'.length cr') R')) H7 ?_
  clear H7
  generalize w6.heap.size = g7
  intro w7 H7
  obtain ⟨q0, q1, q2, q3, q4⟩ := row5 H7.out.2.1
  obtain ⟨p0, p1, p2, p3, p4⟩ := row5 H7.out.2.2.1
  have HS := Lib.hid (same6_yes sc t cor del _ _ R R' w7 H7.out.1.ins H7.out.2.2.2 HK.out.symm)
  go_wp2_with fail
  refine HS.out.mono ?_
  rintro e w8 ⟨rfl, hb⟩
  have H8 := Lib.hid (⟨H7.out.1.src.below.trans (hb.mono H7.out.1.src.below.size), H7.out.2.2.1.under hb, H7.out.2.2.2.under hb⟩ : Below w.heap.size w w8 ∧ Row w8 g7 24 (bulC sc t cor del (.slice Ar' R'.length cr')) ∧ RpsIn w8 (.slice Ar' R'.length cr') R')
  clear hb H7 HS q0 q1 q2 q3 q4 p0 p1 p2 p3 p4
  obtain ⟨p0, p1, p2, p3, p4⟩ := row5 H8.out.2.1
  go_wp2_with fail
  refine (validate_yes sc t cor del _ R' w8 (HE.out.under H8.out.1) H8.out.2.2 (HV.out.same HK.out)).mono ?_
  rintro e w9 ⟨rfl, hb⟩
  have H9 := Lib.hid (H8.out.1.trans (hb.mono H8.out.1.size))
  clear hb H8 p0 p1 p2 p3 p4
  go_wp2_with fail
  refine (awake_from (w0 := w) w9 (HE.out.under H9.out) H9.out).mono ?_
  rintro e wA ⟨rfl, hb⟩
  have HF := Lib.hid hb
  clear hb
  go_wp2_with fail
  go_ret
  exact ⟨rfl, HF.out⟩
end Go.Proofs.YtfnlgfacadmjpaaGreatDoor.Bu
