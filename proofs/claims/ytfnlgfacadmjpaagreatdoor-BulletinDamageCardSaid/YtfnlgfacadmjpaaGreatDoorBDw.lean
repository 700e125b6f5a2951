/- The walk of BulletinDamage. -/
import Derived.Test.YtfnlgfacadmjpaaGreatDoorBDm
namespace Go.Proofs.YtfnlgfacadmjpaaGreatDoor.Bu
open Go.RowKit

set_option maxRecDepth 100000 in
set_option maxHeartbeats 4000000 in
theorem bulletinDamage_any (v : Value) (x a2 : Int) (w : World) (hE : Env w) (hl : ListIn w v) (hx : I64 x) (h2 : 0 ≤ a2 ∧ a2 ≤ 255) :
    Calls Tryz.prog 6 #[v, .int .i64 x, .int .u8 a2] w fun e w' => e = .returned (.bool true) ∧ Below w.heap.size w w' := by
  obtain ⟨by0, rfl⟩ : ∃ f : UInt8, (f.toNat : Int) = a2 := ⟨UInt8.ofNat a2.toNat, by rw [UInt8.toNat_ofNat']; omega⟩
  clear h2
  have HE := Lib.hid hE
  clear hE
  go_enter Tryz.func6, Tryz.ntmps6
  go_wp2_with fail
  refine (new_any _ _ hl).mono ?_
  rintro e w1 ⟨rfl, s1, -⟩
  have hbw : w.heap.size ≤ w1.heap.size := s1.below.size
  obtain ⟨b, hb0⟩ : ∃ b, w.heap.size = b := ⟨_, rfl⟩
  have HB0 := Lib.hid hb0
  rw [hb0] at s1 ⊢
  clear hb0
  go_wp2_with fail
  refine (made_any w b w1 6 s1 (by decide)).mono ?_
  rintro e w2 ⟨c, t, cor, del, R, vr, base, rfl, hV, hR6, hM⟩
  obtain ⟨Ar, cr, er⟩ := row_form hM.own
  subst er
  have hb3 : Below w2.heap.size w2 (w2.alloc (.cells (bulC (S c) t cor del (.slice Ar R.length cr)) 24)) := (Below.refl _ _).alloc (Nat.le_refl _) _
  have H3 := Lib.hid (⟨hM.under hb3, Row.new _ _ _⟩ : RM w b base R (.slice Ar R.length cr) (w2.alloc (.cells (bulC (S c) t cor del (.slice Ar R.length cr)) 24)) ∧ Row (w2.alloc (.cells (bulC (S c) t cor del (.slice Ar R.length cr)) 24)) w2.heap.size 24 (bulC (S c) t cor del (.slice Ar R.length cr)))
  have h4b' : w2.heap.size ≠ b := by have := src_lt hM.src; omega
  have HV := Lib.hid hV
  have HFo := Lib.hid (fun Y (hY : Below w.heap.size w Y) (hR : RpsIn Y (.slice Ar R.length cr) R) => format_bul c t cor del (.slice Ar R.length cr) R Y (HE.out.under hY) hR hV (by omega))
  have HPM := Lib.hid (fun R1 r R2 ln Y (hY : Below w.heap.size w Y) (e : R = R1 ++ r :: R2) (hf : ∀ b ∈ ln, b ≠ 10) (hn : ln.length ≤ 140) => parse_mid c t cor del R R1 R2 r ln Y (HE.out.under hY) hV e hR6 hf hn)
  have HAT := Lib.hid (fun m (hm : m < (bdy R).length) (hb : (bdy R)[m]? ≠ some 10) => bdy_at R m (fun r hr => (hV.hreps r hr).1) hm hb)
  have HGL := Lib.hid (fun r (hr : r ∈ R) => gtx_le (hV.hreps r hr).1)
  have HLF := Lib.hid (fun r (hr : r ∈ R) => line_free (hV.hreps r hr).1)
  have htm := hV.htime
  have HHd := Lib.hid (hdT_fr10 hV.hctr hV.htime hV.hcor hV.hdel)
  have hhl := hdT_len hV.hctr hV.htime hV.hcor hV.hdel hV.hone
  have hbl := bdy_len R (fun r hr => (hV.hreps r hr).1)
  have HX := Lib.hid hx
  clear hM hb3 hV s1 hx
  generalize hsc : S c = sc at *
  have HSC := Lib.hid hsc
  clear hsc
  generalize hhh : hdT c t cor del = H at *
  have HHH := Lib.hid hhh
  clear hhh
  go_upto_region 3 with fail
  refine forget (fun V => Hid (RM w b base R (.slice Ar R.length cr) V ∧ Row V w2.heap.size 24 (bulC sc t cor del (.slice Ar R.length cr)))) H3 ?_
  clear H3
  generalize w2.heap.size = g4 at *
  have h4b := h4b'
  intro w3 H3
  obtain ⟨q0, q1, q2, q3, q4⟩ := row5 H3.out.2
  go_wp2_with fail
  refine (HFo.out _ H3.out.1.src.below H3.out.1.ins).mono ?_
  rintro e w4 ⟨rfl, hb⟩
  have H4 := Lib.hid (⟨H3.out.1.under hb, H3.out.2.under hb⟩ : RM w b base R (.slice Ar R.length cr) w4 ∧ Row w4 g4 24 (bulC sc t cor del (.slice Ar R.length cr)))
  clear hb H3 HFo q0 q1 q2 q3 q4
  obtain ⟨TX, hTX⟩ : ∃ TX, H ++ 10 :: bdy R = TX := ⟨_, rfl⟩
  rw [hTX]
  have HTX := Lib.hid hTX
  obtain ⟨hn, hhn⟩ : ∃ hn, H.length = hn := ⟨_, rfl⟩
  obtain ⟨bn, hbn⟩ : ∃ bn, (bdy R).length = bn := ⟨_, rfl⟩
  have HHN := Lib.hid hhn
  have HBN := Lib.hid hbn
  have hTl : (S TX).size = hn + bn + 1 := by rw [S_size, ← hTX, ← hhn, ← hbn]; simp; omega
  have HA : Hid (∀ k (h : k < (S TX).size), TX[k]? = some ((S TX)[k]'h)) := Lib.hid (fun k h => by
    have h' : k < TX.length := by rw [S_size] at h; exact h
    rw [List.getElem?_eq_getElem h']
    rfl)
  have HA1 : Hid (∀ k, k < hn → ∃ u : UInt8, TX[k]? = some u ∧ u ≠ 10) := Lib.hid (fun k hk => by
    have hk' : k < H.length := by omega
    refine ⟨H[k], ?_, HHd.out _ (List.getElem_mem hk')⟩
    rw [← hTX, List.getElem?_append_left hk', List.getElem?_eq_getElem hk'])
  have HA2 : Hid (TX[hn]? = some 10) := Lib.hid (by rw [← hTX, ← hhn, List.getElem?_append_right (Nat.le_refl _)]; simp)
  have HA3 : Hid (∀ k, TX[hn + 1 + k]? = (bdy R)[k]?) := Lib.hid (fun k => by rw [← hTX, ← hhn, List.getElem?_append_right (by omega), show H.length + 1 + k - H.length = k + 1 by omega, List.getElem?_cons_succ])
  have HST := Lib.hid (show ∀ m (u : UInt8), TX.set (hn + 1 + m) u = H ++ 10 :: (bdy R).set m u from fun m u => by
    rw [← hTX, ← hhn, List.set_append_right _ _ (by omega), show H.length + 1 + m - H.length = m + 1 by omega, List.set_cons_succ])
  have HTL : Hid (S TX = (⟨TX.toArray⟩ : ByteArray)) := Lib.hid rfl
  rw [hhn] at hhl
  rw [hbn] at hbl
  clear hTX hhn hbn
  generalize S TX = tx at *
  go_upto_region 7 with fail
  go_loopw [11] (fun u Y => ∃ k : Nat, k ≤ hn ∧ u = .int .i64 k ∧ Y = w4) (fun u _ => hn - (intOf u).toNat)
  case atStart => exact ⟨0, Nat.zero_le _, rfl, rfl⟩
  case round =>
    obtain ⟨k, hk, rfl, rfl⟩ := hrel
    have k0 : (0 : Int) ≤ (k : Int) := by omega
    have hkn : (k : Int) < (tx.size : Int) := by omega
    have k1 : k < tx.size := by omega
    by_cases hlt : k < hn
    · have hne : ((tx[k].toNat : Int) != 10) = true := by
        obtain ⟨u, hu, hu2⟩ := HA1.out k hlt
        rw [HA.out k k1] at hu
        injection hu with hu
        rw [hu, bne_iff_ne]
        intro e
        exact hu2 (UInt8.toNat_inj.1 (by rw [show (10 : UInt8).toNat = 10 from rfl]; omega))
      go_wp2_with fail
      go_roundw
      case rel => exact ⟨k + 1, by omega, by go_num, trivial⟩
      case measure => simp [intOf]; omega
    · obtain rfl : k = hn := by omega
      have hne : ((tx[k].toNat : Int) != 10) = false := by
        have hu := HA2.out
        rw [HA.out k k1] at hu
        injection hu with hu
        rw [hu]; rfl
      clear HA1 HA2 HHd
      by_cases hb0 : bn = 0
      · have hz : ¬ (k : Int) + 1 < (k : Int) + (bn : Int) + 1 := by omega
        go_wp2_with fail
        refine (awake_from (w0 := w) _ (HE.out.under H4.out.1.src.below) H4.out.1.src.below).mono ?_
        rintro e wA ⟨rfl, hb⟩
        have HFin := Lib.hid hb
        clear hb
        go_wp2_with fail
        go_ret
        exact ⟨rfl, HFin.out⟩
      · have hz : (k : Int) + 1 < (k : Int) + (bn : Int) + 1 := by omega
        go_wp2_with fail
        refine (mod_any x _ _ HX.out (by omega) (by omega)).mono ?_
        rintro e w5 ⟨rfl, e5⟩
        have z1 : 0 ≤ x % ((k : Int) + (bn : Int) + 1 - ((k : Int) + 1)) := Int.emod_nonneg x (by omega)
        have z2 : x % ((k : Int) + (bn : Int) + 1 - ((k : Int) + 1)) < (k : Int) + (bn : Int) + 1 - ((k : Int) + 1) := Int.emod_lt_of_pos x (by omega)
        obtain ⟨m, hm⟩ : ∃ m : Nat, x % ((k : Int) + (bn : Int) + 1 - ((k : Int) + 1)) = (m : Int) := ⟨(x % ((k : Int) + (bn : Int) + 1 - ((k : Int) + 1))).toNat, by omega⟩
        rw [hm] at z1 z2 ⊢
        have hmb : m < bn := by omega
        have HM := Lib.hid hm
        clear hm z1 z2 hz hb0
        subst e5
        obtain ⟨K, hK⟩ : ∃ K : Nat, (k : Int) + 1 + (m : Int) = (K : Int) := ⟨k + 1 + m, by omega⟩
        have K1 : K < tx.size := by omega
        have K0 : (0 : Int) ≤ (K : Int) := by omega
        have K2 : (K : Int) < (k : Int) + (bn : Int) + 1 := by omega
        by_cases hb1 : tx[K] = 10
        · have hb1' : ((tx[K].toNat : Int) == 10) = true := by rw [hb1]; rfl
          clear hb1
          go_wp2_with fail
          refine (awake_from (w0 := w) _ (HE.out.under H4.out.1.src.below) H4.out.1.src.below).mono ?_
          rintro e wA ⟨rfl, hb⟩
          have HFin := Lib.hid hb
          clear hb
          go_wp2_with fail
          go_ret
          exact ⟨rfl, HFin.out⟩
        · have hb1' : ((tx[K].toNat : Int) == 10) = false := by
            rw [beq_eq_false_iff_ne]
            intro e
            exact hb1 (UInt8.toNat_inj.1 (by rw [show (10 : UInt8).toNat = 10 from rfl]; omega))
          clear hb1
          obtain ⟨u, hu⟩ : ∃ u : UInt8, bits BinOp.xor IntKind.u8 (tx[K].toNat : Int) (by0.toNat : Int) = (u.toNat : Int) := by
            obtain ⟨n1, n2⟩ := bounds_u8 (wf_bits BinOp.xor IntKind.u8 (tx[K].toNat : Int) (by0.toNat : Int))
            exact ⟨UInt8.ofNat (bits BinOp.xor IntKind.u8 (tx[K].toNat : Int) (by0.toNat : Int)).toNat, by rw [UInt8.toNat_ofNat']; omega⟩
          by_cases hb2 : u = 10
          · have hb2' : ((u.toNat : Int) == 10) = true := by rw [hb2]; rfl
            clear hb2
            go_wp2_with fail
            refine (awake_from (w0 := w) _ (HE.out.under H4.out.1.src.below) H4.out.1.src.below).mono ?_
            rintro e wA ⟨rfl, hb⟩
            have HFin := Lib.hid hb
            clear hb
            go_wp2_with fail
            go_ret
            exact ⟨rfl, HFin.out⟩
          · have hb2' : ((u.toNat : Int) == 10) = false := by
              rw [beq_eq_false_iff_ne]
              intro e
              exact hb2 (UInt8.toNat_inj.1 (by rw [show (10 : UInt8).toNat = 10 from rfl]; omega))
            go_upto_region 17 with fail
            go_loopw [13, 14] (fun a i Y => ∃ q r ac oc : Nat, (q ≤ m ∧ r ≤ k + 1 + q ∧ k + 1 + q ≤ r) ∧ Hid (wo ((bdy R).take q) = (ac, oc)) ∧ a = .int .i64 (ac + 1 : Nat) ∧ i = .int .i64 (r : Int) ∧ Y = wr) (fun _ i _ => m - ((intOf i).toNat - (k + 1)))
            case atStart => exact ⟨0, k + 1, 0, 0, ⟨Nat.zero_le _, by omega, by omega⟩, Lib.hid rfl, rfl, by simp, rfl⟩
            case round =>
              obtain ⟨q, r, ac, oc, ⟨hq, r1, r2⟩, hwo, rfl, rfl, e6⟩ := hrel
              obtain ⟨s1, s2⟩ : ac ≤ q ∧ oc ≤ q := by
                obtain ⟨s1, s2⟩ := wo_le ((bdy R).take q) (0, 0)
                have s0 : ((bdy R).take q).length ≤ q := by rw [List.length_take]; omega
                have e : List.foldl wstep (0, 0) ((bdy R).take q) = (ac, oc) := hwo.out
                rw [e] at s1 s2
                simp only at s1 s2
                omega
              have e6' := e6.symm
              subst e6'
              by_cases hlt : q < m
              · have i0 : (0 : Int) ≤ (r : Int) := by omega
                have i1 : (r : Int) < (tx.size : Int) := by omega
                have i2 : (r : Int) < (K : Int) := by omega
                have i3 : r < tx.size := by omega
                have hstep : Hid (wo ((bdy R).take (q + 1)) = wstep (ac, oc) tx[r]) := by
                  refine Lib.hid ?_
                  have h1 := HA.out r i3
                  obtain rfl : r = k + 1 + q := by omega
                  rw [HA3.out q] at h1
                  rw [List.take_add_one, h1]
                  rw [← hwo.out]
                  exact wo_more _ _
                by_cases hb : tx[r] = 10
                · have hne : ((tx[r].toNat : Int) == 10) = true := by rw [hb]; rfl
                  have hst2 : Hid (wo ((bdy R).take (q + 1)) = (ac + 1, 0)) := Lib.hid (by rw [hstep.out]; unfold wstep; rw [if_pos hb])
                  clear hstep hb
                  go_wp2_with fail
                  go_roundw
                  case rel => exact ⟨q + 1, r + 1, ac + 1, 0, ⟨by omega, by omega, by omega⟩, hst2, by go_num, by go_num, trivial⟩
                  case measure => simp [intOf]; omega
                · have hne : ((tx[r].toNat : Int) == 10) = false := by
                    rw [beq_eq_false_iff_ne]
                    intro e
                    exact hb (UInt8.toNat_inj.1 (by rw [show (10 : UInt8).toNat = 10 from rfl]; omega))
                  have hst2 : Hid (wo ((bdy R).take (q + 1)) = (ac, oc + 1)) := Lib.hid (by rw [hstep.out]; unfold wstep; rw [if_neg hb])
                  clear hstep hb
                  go_wp2_with fail
                  go_roundw
                  case rel => exact ⟨q + 1, r + 1, ac, oc + 1, ⟨by omega, by omega, by omega⟩, hst2, by go_num, by go_num, trivial⟩
                  case measure => simp [intOf]; omega
              · obtain rfl : q = m := by omega
                have hrK : r = K := by omega
                subst hrK
                have i2 : ¬ (r : Int) < (r : Int) := by omega
                have hrq : r = k + 1 + q := by omega
                have hn10 : (bdy R)[q]? ≠ some 10 := by
                  rw [← HA3.out q, ← hrq, HA.out r K1]
                  intro e
                  injection e with e
                  rw [beq_eq_false_iff_ne] at hb1'
                  exact hb1' (by rw [e]; rfl)
                obtain ⟨R1, rr, R2, ii, e1, e2, e3, e4, e5⟩ := HAT.out q (by rw [HBN.out]; exact hmb) hn10
                have hac : ac = R1.length := by
                  have e : wo ((bdy R).take q) = (ac, oc) := hwo.out
                  rw [e] at e4
                  exact e4
                have hmem : rr ∈ R := by rw [e1]; simp
                have hset : TX.set r u = H ++ 10 :: (bdy R1 ++ ((gtx rr.k rr.nm rr.t rr.F rr.A rr.B rr.L ++ [61]).set ii u ++ 10 :: bdy R2)) := by rw [hrq, HST.out q u, e5 u]
                have hfree : ∀ b ∈ (gtx rr.k rr.nm rr.t rr.F rr.A rr.B rr.L ++ [61]).set ii u, b ≠ 10 := fun b hb => by
                  rcases List.mem_or_eq_of_mem_set hb with h | h
                  · exact HLF.out rr hmem b h
                  · rw [h]; exact hb2
                have hgl := HGL.out rr hmem
                have HPX := Lib.hid (fun Y (hY : Below w.heap.size w Y) => HPM.out R1 rr R2 _ Y hY e1 hfree (by rw [List.length_set, List.length_append, List.length_singleton]; omega))
                rw [← hset] at HPX
                have hn1 : R1.length < R.length := by rw [e1]; simp
                obtain ⟨n1, hn1'⟩ : ∃ n1, R1.length = n1 := ⟨_, rfl⟩
                rw [hn1'] at HPX hac hn1
                subst hac
                have HTXs : Hid (TX.length = tx.size) := Lib.hid (by rw [HTL.out]; rfl)
                clear hset hfree hgl hmem e1 e2 e3 e4 e5 hwo hn10 hn1' HPM HAT HGL HLF HST HA3 HTX hb2 hb2' hK hrq
                obtain ⟨cap, W6, cs, hcv, hb6, hbr, hcl, hca⟩ := conv_bytes wr TX
                have hST : S TX = tx := HTL.out.symm
                rw [hST] at hcv
                have hcr : cs[r]? = some (.int .u8 (tx[r].toNat : Int)) := by
                  have h1 := HA.out r K1
                  have h2 : r < TX.length := by rw [HTXs.out]; exact K1
                  rw [hca r h2]
                  rw [List.getElem?_eq_getElem h2] at h1
                  injection h1 with h1
                  rw [h1]
                have q6 := (hbr.cell r).trans hcr
                have f6 := hbr.thaw (j := r) (by rw [HTXs.out] at hcl; omega)
                have hbs : Below wr.heap.size wr (W6.setCell ⟨wr.heap.size, r, none⟩ (.int .u8 (u.toNat : Int))) := hb6.setCell (p := ⟨wr.heap.size, r, none⟩) (Nat.le_refl _) _
                have HSB := Lib.hid (set_bytes hcl hca r u)
                have HLN : Hid ((TX.set r u).length = k + bn + 1) := Lib.hid (by rw [List.length_set, HTXs.out]; exact hTl)
                have H6 := Lib.hid (⟨H4.out.1.under hbs, H4.out.2.under hbs, hbr.put r (.int .u8 (u.toNat : Int))⟩ : RM w b base R (.slice Ar R.length cr) (W6.setCell ⟨wr.heap.size, r, none⟩ (.int .u8 (u.toNat : Int))) ∧ Row (W6.setCell ⟨wr.heap.size, r, none⟩ (.int .u8 (u.toNat : Int))) g4 24 (bulC sc t cor del (.slice Ar R.length cr)) ∧ BRow (W6.setCell ⟨wr.heap.size, r, none⟩ (.int .u8 (u.toNat : Int))) wr.heap.size (cs.setIfInBounds r (.int .u8 (u.toNat : Int))))
                clear hST hbr hb6 hbs hcl hca hcr H4
                go_upto_region 23 with fail
                clear q6 f6 hcv hu
                refine forget (fun V => Hid (RM w b base R (.slice Ar R.length cr) V ∧ Row V g4 24 (bulC sc t cor del (.slice Ar R.length cr)) ∧ BRow V wr.heap.size (cs.setIfInBounds r (.int .u8 (u.toNat : Int))))) (Lib.hid ⟨H6.out.1, H6.out.2.1, H6.out.2.2⟩) ?_
                clear H6
                generalize wr.heap.size = gz at *
                intro w7 H7
                have hcb := conv_back w7 gz cap _ (TX.set r u) (k + bn + 1) HLN.out H7.out.2.2 HSB.out
                obtain ⟨q0, q1, q2, q3, q4⟩ := row5 H7.out.2.1
                go_wp2_with fail
                refine (HPX.out _ H7.out.1.src.below).mono ?_
                rintro e w8 ⟨R', A, ca, B, dd, z, bd, hbd, hbl2, hpos, rfl, hup, hb⟩
                have hb7 : Below w8.heap.size w8 (w8.alloc (.cells (bulC sc t cor del (.slice A R'.length ca)) 24)) := (Below.refl _ _).alloc (Nat.le_refl _) _
                have H8 := Lib.hid (⟨(H7.out.1.under hb).under hb7, (H7.out.2.1.under hb).under hb7, Row.new _ _ _, (hup _ ((Up.refl _ _).under hb7)).1, (hup _ ((Up.refl _ _).under hb7)).2⟩ : RM w b base R (.slice Ar R.length cr) (w8.alloc (.cells (bulC sc t cor del (.slice A R'.length ca)) 24)) ∧ Row (w8.alloc (.cells (bulC sc t cor del (.slice A R'.length ca)) 24)) g4 24 (bulC sc t cor del (.slice Ar R.length cr)) ∧ Row (w8.alloc (.cells (bulC sc t cor del (.slice A R'.length ca)) 24)) w8.heap.size 24 (bulC sc t cor del (.slice A R'.length ca)) ∧ RpsIn (w8.alloc (.cells (bulC sc t cor del (.slice A R'.length ca)) 24)) (.slice A R'.length ca) R' ∧ NumsIn (w8.alloc (.cells (bulC sc t cor del (.slice A R'.length ca)) 24)) (.slice B bd.length dd) bd)
                have HPO := Lib.hid hpos
                have HBDQ := Lib.hid hbd
                clear hb hb7 hup hpos hbd HPX HSB HLN hcb q0 q1 q2 q3 q4 H7
                go_upto_region 24 with fail
                refine forget (fun V => Hid (RM w b base R (.slice Ar R.length cr) V ∧ Row V g4 24 (bulC sc t cor del (.slice Ar R.length cr)) ∧ Row V w8.heap.size 24 (bulC sc t cor del (.slice A R'.length ca)) ∧ RpsIn V (.slice A R'.length ca) R' ∧ NumsIn V (.slice B bd.length dd) bd)) H8 ?_
                clear H8
                generalize w8.heap.size = g8 at *
                intro w9 H9
                obtain ⟨q0, q1, q2, q3, q4⟩ := row5 H9.out.2.1
                obtain ⟨p0, p1, p2, p3, p4⟩ := row5 H9.out.2.2.1
                have hl1 : ¬ (R.length : Int) < (ac : Int) + 1 := by omega
                have hl2 : ¬ (R.length : Int) < ((ac + 1 : Nat) : Int) := by omega
                cases z
                · have hbe : bd = [((ac : Int) + 1)] := HBDQ.out
                  subst hbe
                  have hbq : ((R'.length : Int) + 1 != (R.length : Int)) = false := by rw [bne_eq_false_iff_eq]; simp only [List.length_singleton] at hbl2; omega
                  obtain ⟨Bx, ddx, eB, -, -, hB4⟩ := H9.out.2.2.2.2
                  obtain ⟨gd, off, rfl, hgd, c0⟩ := hB4 0 (by simp)
                  injection eB with eB1 eB2 eB3
                  subst eB1
                  subst eB3
                  rw [Nat.add_zero] at c0
                  have c1 : w9.cell? ⟨gd, off, none⟩ = some (.int .i64 ((ac : Int) + 1)) := c0
                  clear hB4 c0 eB2
                  go_upto_region 28 with fail
                  go_loopw [19, 20] (fun n i Y => ∃ j : Nat, j ≤ R.length ∧ i = .int .i64 (j : Int) ∧ n = .int .i64 ((pos ac false j : Nat) : Int) ∧ Hid (Below w9.heap.size w9 Y)) (fun _ i _ => R.length - (intOf i).toNat)
                  case atStart => exact ⟨0, Nat.zero_le _, rfl, by rw [pos_zero]; rfl, Lib.hid (Below.refl _ _)⟩
                  case round =>
                    clear q0 q1 q2 q3 q4 p0 p1 p2 p3 p4
                    obtain ⟨j, hj, rfl, rfl, M⟩ := hrel
                    obtain ⟨q0, q1, q2, q3, q4⟩ := row5 (H9.out.2.1.under M.out)
                    obtain ⟨p0, p1, p2, p3, p4⟩ := row5 (H9.out.2.2.1.under M.out)
                    by_cases hlt2 : j < R.length
                    · have j1 : (j : Int) < (R.length : Int) := by omega
                      have j0 : (0 : Int) ≤ (j : Int) := by omega
                      by_cases hja : j = ac
                      · have t1 : ((j : Int) + 1 == (ac : Int) + 1) = true := by rw [beq_iff_eq]; omega
                        have t2 : ((j : Int) + 1 == ((ac + 1 : Nat) : Int)) = true := by rw [beq_iff_eq]; omega
                        have hps : pos ac false (j + 1) = pos ac false j := by rw [hja]; exact pos_out ac
                        have hpb : pos ac false j ≤ j := by unfold pos; split <;> simp
                        have HPS := Lib.hid hps
                        clear hps hja
                        obtain ⟨pn, hpn⟩ : ∃ pn, pos ac false j = pn := ⟨_, rfl⟩
                        have HPN := Lib.hid hpn
                        rw [hpn] at hpb ⊢
                        clear hpn
                        go_wp2_with fail
                        go_roundw
                        case rel => exact ⟨j + 1, by omega, by go_num, by rw [HPS.out, HPN.out], M⟩
                        case measure => simp [intOf]; omega
                      · have t1 : ((j : Int) + 1 == (ac : Int) + 1) = false := by rw [beq_eq_false_iff_ne]; omega
                        have t2 : ((j : Int) + 1 == ((ac + 1 : Nat) : Int)) = false := by rw [beq_eq_false_iff_ne]; omega
                        have hk2 : ∀ pn, pos ac false j = pn → ∃ h : pn < R'.length, (R'[pn]).key = (R[j]).key := fun pn e => by subst e; exact HPO.out j hlt2 hja
                        have HPS := Lib.hid (pos_next false hja : pos ac false (j + 1) = pos ac false j + 1)
                        clear hja
                        obtain ⟨pn, hpn⟩ : ∃ pn, pos ac false j = pn := ⟨_, rfl⟩
                        obtain ⟨hp1, hk⟩ := hk2 pn hpn
                        clear hk2
                        have hpI : ¬ (R'.length : Int) ≤ (pn : Int) := by omega
                        have hpJ : (pn : Int) < (R'.length : Int) := by omega
                        have hp0 : (0 : Int) ≤ (pn : Int) := by omega
                        rw [hpn] at HPS ⊢
                        have HPN := Lib.hid hpn
                        clear hpn
                        have hd : Below wr.heap.size wr wr.drew := below_drewN (Below.refl _ _) 1
                        obtain ⟨A', cap', ea, -, -, h4⟩ := (H9.out.1.ins.under M.out)
                        injection ea with ea el ec
                        clear el
                        subst ea
                        subst ec
                        obtain ⟨g, off, rfl, hgl, h8, hrd⟩ := h4 j hlt2
                        obtain ⟨B', cab', eb, -, -, h4'⟩ := (H9.out.2.2.2.1.under M.out)
                        injection eb with eb el ed
                        clear el
                        subst eb
                        subst ed
                        obtain ⟨g9, off9, rfl, hgl', h8', hrd'⟩ := h4' pn hp1
                        obtain ⟨rk, hrk0⟩ : ∃ rk, R[j] = rk := ⟨_, rfl⟩
                        obtain ⟨rk', hrk0'⟩ : ∃ rk, R'[pn] = rk := ⟨_, rfl⟩
                        rw [hrk0] at h8 hrd
                        rw [hrk0'] at h8' hrd'
                        simp only [hrk0, hrk0'] at hk
                        clear hrk0 hrk0' h4 h4'
                        obtain ⟨kk, nm, tt, F, A0, B0, C, uu, L⟩ := rk
                        obtain ⟨kkx, nmx, ttx, Fx, A0x, B0x, Cx, uux, Lx⟩ := rk'
                        simp only [Rp.key, Prod.mk.injEq] at hk
                        obtain ⟨rfl, rfl, rfl, ⟨rfl, rfl, rfl, rfl⟩, rfl⟩ := hk
                        obtain ⟨Au, cu, eu, -⟩ := id hrd
                        obtain ⟨Aux, cux, eux, -⟩ := id hrd'
                        simp only at eu eux hrd hrd'
                        subst eu; subst eux
                        have HSm := refSame_any kkx nmx ttx Fx A0x B0x Cx (.slice Au Lx.length cu) Lx kkx nmx ttx Fx A0x B0x Cx (.slice Aux Lx.length cux) Lx wr.drew (hrd.under hd) (hrd'.under hd)
                        rw [cRep_self] at HSm
                        have HSm := Lib.hid HSm
                        have H8 := Lib.hid (⟨h8.under hgl hd, h8'.under hgl' hd, hgl, hgl'⟩ : At8 wr.drew g (off + j * 8) ⟨kkx, nmx, ttx, Fx, A0x, B0x, Cx, .slice Au Lx.length cu, Lx⟩ ∧ At8 wr.drew g9 (off9 + pn * 8) ⟨kkx, nmx, ttx, Fx, A0x, B0x, Cx, .slice Aux Lx.length cux, Lx⟩ ∧ g < wr.drew.heap.size ∧ g9 < wr.drew.heap.size)
                        have M2 : Hid (Below w9.heap.size w9 wr.drew) := Lib.hid (M.out.trans (hd.mono M.out.size))
                        clear hrd hrd' hd hgl hgl' h8 h8' M
                        go_upto_region 33 with fail
                        clear q0 q1 q2 q3 q4 p0 p1 p2 p3 p4
                        refine wp_region_held_drew (S := fun Y : World => (Y.cell? ⟨g, off + j * 8, none⟩ = some (.int .i64 kkx) ∧ Y.cell? ⟨g, off + j * 8 + 1, none⟩ = some (.string nmx) ∧ Y.cell? ⟨g, off + j * 8 + 2, none⟩ = some (.int .i64 ttx) ∧ Y.cell? ⟨g, off + j * 8 + 3, none⟩ = some (.int .i64 Fx) ∧ Y.cell? ⟨g, off + j * 8 + 4, none⟩ = some (.int .i64 A0x) ∧ Y.cell? ⟨g, off + j * 8 + 5, none⟩ = some (.int .i64 B0x) ∧ Y.cell? ⟨g, off + j * 8 + 6, none⟩ = some (.int .i64 Cx) ∧ Y.cell? ⟨g, off + j * 8 + 7, none⟩ = some (.slice Au Lx.length cu)) ∧ (Y.cell? ⟨g9, off9 + pn * 8, none⟩ = some (.int .i64 kkx) ∧ Y.cell? ⟨g9, off9 + pn * 8 + 1, none⟩ = some (.string nmx) ∧ Y.cell? ⟨g9, off9 + pn * 8 + 2, none⟩ = some (.int .i64 ttx) ∧ Y.cell? ⟨g9, off9 + pn * 8 + 3, none⟩ = some (.int .i64 Fx) ∧ Y.cell? ⟨g9, off9 + pn * 8 + 4, none⟩ = some (.int .i64 A0x) ∧ Y.cell? ⟨g9, off9 + pn * 8 + 5, none⟩ = some (.int .i64 B0x) ∧ Y.cell? ⟨g9, off9 + pn * 8 + 6, none⟩ = some (.int .i64 Cx) ∧ Y.cell? ⟨g9, off9 + pn * 8 + 7, none⟩ = some (.slice Aux Lx.length cux)) ∧ Y.cell? ⟨g4, 4, none⟩ = some (.slice (some ⟨g, off, none⟩) R.length cr) ∧ Y.cell? ⟨g8, 4, none⟩ = some (.slice (some ⟨g9, off9, none⟩) R'.length ca)) (by kernel_rfl) ⟨H8.out.1, H8.out.2.1, ((H9.out.2.1.under M2.out).cell 4).trans rfl, ((H9.out.2.2.1.under M2.out).cell 4).trans rfl⟩ (fun hS => ?_)
                        generalize wr.drew = X at *
                        have hh := hS
                        obtain ⟨⟨c0, c1', c2, c3, c4, c5, c6, c7⟩, ⟨d0, d1, d2, d3, d4, d5, d6, d7⟩, s0, s1'⟩ := hh
                        refine wpAnyH_take (i := 0) (oi := ⟨some 156, _, _, _, _, none⟩) (v := ?_) rfl (by kernel_rfl) (by kernel_rfl) (by kernel_rfl) (fun _ _ _ h => h) (Or.inl ⟨by rfl, ?_⟩) (by assumption) ?_
                        case refine_2 => (intro wx hSx; (try dsimp only at hSx); go_simp; first | done | with_reducible rfl)
                        try simp only [Act.put, List.setIfInBounds_toArray, List.set_cons_zero, List.set_cons_succ]
                        refine wpAnyH_take (i := 1) (oi := ⟨some 157, _, _, _, _, none⟩) (v := ?_) rfl (by kernel_rfl) (by kernel_rfl) (by kernel_rfl) (fun _ _ _ h => h) (Or.inl ⟨by rfl, ?_⟩) (by assumption) ?_
                        case refine_2 => (intro wx hSx; (try dsimp only at hSx); go_simp; first | done | with_reducible rfl)
                        try simp only [Act.put, List.setIfInBounds_toArray, List.set_cons_zero, List.set_cons_succ]
                        refine wpAnyH_take (i := 2) (oi := ⟨some 158, _, _, _, _, none⟩) (v := ?_) rfl (by kernel_rfl) (by kernel_rfl) (by kernel_rfl) (fun _ _ _ h => h) (Or.inl ⟨by rfl, ?_⟩) (by assumption) ?_
                        case refine_2 => (intro wx hSx; (try dsimp only at hSx); go_simp; first | done | with_reducible rfl)
                        try simp only [Act.put, List.setIfInBounds_toArray, List.set_cons_zero, List.set_cons_succ]
                        refine wpAnyH_take (i := 3) (oi := ⟨some 159, _, _, _, _, none⟩) (v := ?_) rfl (by kernel_rfl) (by kernel_rfl) (by kernel_rfl) (fun _ _ _ h => h) (Or.inl ⟨by rfl, ?_⟩) (by assumption) ?_
                        case refine_2 => (intro wx hSx; (try dsimp only at hSx); go_simp; first | done | with_reducible rfl)
                        try simp only [Act.put, List.setIfInBounds_toArray, List.set_cons_zero, List.set_cons_succ]
                        refine wpAnyH_take (i := 4) (oi := ⟨some 160, _, _, _, _, none⟩) (v := ?_) rfl (by kernel_rfl) (by kernel_rfl) (by kernel_rfl) (fun _ _ _ h => h) (Or.inl ⟨by rfl, ?_⟩) (by assumption) ?_
                        case refine_2 => (intro wx hSx; (try dsimp only at hSx); go_simp; first | done | with_reducible rfl)
                        try simp only [Act.put, List.setIfInBounds_toArray, List.set_cons_zero, List.set_cons_succ]
                        refine wpAnyH_take (i := 5) (oi := ⟨some 161, _, _, _, _, none⟩) (v := ?_) rfl (by kernel_rfl) (by kernel_rfl) (by kernel_rfl) (fun _ _ _ h => h) (Or.inl ⟨by rfl, ?_⟩) (by assumption) ?_
                        case refine_2 => (intro wx hSx; (try dsimp only at hSx); go_simp; first | done | with_reducible rfl)
                        try simp only [Act.put, List.setIfInBounds_toArray, List.set_cons_zero, List.set_cons_succ]
                        refine wpAnyH_take (i := 6) (oi := ⟨some 162, _, _, _, _, some _⟩) (v := ?_) rfl (by kernel_rfl) (by kernel_rfl) (by kernel_rfl) (fun _ _ _ h => h) (Or.inl ⟨by rfl, ?_⟩) (by assumption) ?_
                        case refine_2 => (intro wx hSx; (try dsimp only at hSx); go_simp; first | done | with_reducible rfl)
                        try simp only [Act.put, List.setIfInBounds_toArray, List.set_cons_zero, List.set_cons_succ]
                        refine wpAnyH_take (i := 7) (oi := ⟨some 163, _, _, _, _, some _⟩) (v := ?_) rfl (by kernel_rfl) (by kernel_rfl) (by kernel_rfl) (fun _ _ _ h => h) (Or.inl ⟨by rfl, ?_⟩) (by assumption) ?_
                        case refine_2 => (intro wx hSx; (try dsimp only at hSx); go_simp; first | done | with_reducible rfl)
                        try simp only [Act.put, List.setIfInBounds_toArray, List.set_cons_zero, List.set_cons_succ]
                        refine wpAnyH_take (i := 8) (oi := ⟨some 164, _, _, _, _, some _⟩) (v := ?_) rfl (by kernel_rfl) (by kernel_rfl) (by kernel_rfl) (fun _ _ _ h => h) (Or.inl ⟨by rfl, ?_⟩) (by assumption) ?_
                        case refine_2 => (intro wx hSx; (try dsimp only at hSx); go_simp; first | done | with_reducible rfl)
                        try simp only [Act.put, List.setIfInBounds_toArray, List.set_cons_zero, List.set_cons_succ]
                        refine wpAnyH_take (i := 9) (oi := ⟨some 165, _, _, _, _, some _⟩) (v := ?_) rfl (by kernel_rfl) (by kernel_rfl) (by kernel_rfl) (fun _ _ _ h => h) (Or.inl ⟨by rfl, ?_⟩) (by assumption) ?_
                        case refine_2 => (intro wx hSx; (try dsimp only at hSx); go_simp; first | done | with_reducible rfl)
                        try simp only [Act.put, List.setIfInBounds_toArray, List.set_cons_zero, List.set_cons_succ]
                        refine wpAnyH_take (i := 10) (oi := ⟨some 166, _, _, _, _, some _⟩) (v := ?_) rfl (by kernel_rfl) (by kernel_rfl) (by kernel_rfl) (fun _ _ _ h => h) (Or.inl ⟨by rfl, ?_⟩) (by assumption) ?_
                        case refine_2 => (intro wx hSx; (try dsimp only at hSx); go_simp; first | done | with_reducible rfl)
                        try simp only [Act.put, List.setIfInBounds_toArray, List.set_cons_zero, List.set_cons_succ]
                        refine wpAnyH_take (i := 11) (oi := ⟨some 167, _, _, _, _, some _⟩) (v := ?_) rfl (by kernel_rfl) (by kernel_rfl) (by kernel_rfl) (fun _ _ _ h => h) (Or.inl ⟨by rfl, ?_⟩) (by assumption) ?_
                        case refine_2 => (intro wx hSx; (try dsimp only at hSx); go_simp; first | done | with_reducible rfl)
                        try simp only [Act.put, List.setIfInBounds_toArray, List.set_cons_zero, List.set_cons_succ]
                        refine wpAnyH_take (i := 12) (oi := ⟨some 168, _, _, _, _, some _⟩) (v := ?_) rfl (by kernel_rfl) (by kernel_rfl) (by kernel_rfl) (fun _ _ _ h => h) (Or.inl ⟨by rfl, ?_⟩) (by assumption) ?_
                        case refine_2 => (intro wx hSx; (try dsimp only at hSx); go_simp; first | done | with_reducible rfl)
                        try simp only [Act.put, List.setIfInBounds_toArray, List.set_cons_zero, List.set_cons_succ]
                        refine wpAnyH_take (i := 13) (oi := ⟨some 169, _, _, _, _, some _⟩) (v := ?_) rfl (by kernel_rfl) (by kernel_rfl) (by kernel_rfl) (fun _ _ _ h => h) (Or.inl ⟨by rfl, ?_⟩) (by assumption) ?_
                        case refine_2 => (intro wx hSx; (try dsimp only at hSx); go_simp; first | done | with_reducible rfl)
                        try simp only [Act.put, List.setIfInBounds_toArray, List.set_cons_zero, List.set_cons_succ]
                        refine wpAnyH_take (i := 14) (oi := ⟨some 170, _, _, _, _, some _⟩) (v := ?_) rfl (by kernel_rfl) (by kernel_rfl) (by kernel_rfl) (fun _ _ _ h => h) (Or.inl ⟨by rfl, ?_⟩) (by assumption) ?_
                        case refine_2 => (intro wx hSx; (try dsimp only at hSx); go_simp; first | done | with_reducible rfl)
                        try simp only [Act.put, List.setIfInBounds_toArray, List.set_cons_zero, List.set_cons_succ]
                        refine wpAnyH_take (i := 15) (oi := ⟨some 171, _, _, _, _, some _⟩) (v := ?_) rfl (by kernel_rfl) (by kernel_rfl) (by kernel_rfl) (fun _ _ _ h => h) (Or.inl ⟨by rfl, ?_⟩) (by assumption) ?_
                        case refine_2 => (intro wx hSx; (try dsimp only at hSx); go_simp; first | done | with_reducible rfl)
                        try simp only [Act.put, List.setIfInBounds_toArray, List.set_cons_zero, List.set_cons_succ]
                        refine wpAnyH_ready (rs := [16]) (by kernel_rfl) (by simp) ?_
                        refine AllReadyH.cons (o := ⟨some 172, _, _, _, _, some _⟩) rfl (fun Kx hK => ?_) AllReadyH.nil
                        go_simp
                        refine HSm.out.mono ?_
                        rintro e w3 ⟨rfl, hb⟩
                        have M3 : Hid (Below w9.heap.size w9 w3) := Lib.hid (M2.out.trans (hb.mono M2.out.size))
                        have S3 : (w3.cell? ⟨g, off + j * 8, none⟩ = some (.int .i64 kkx) ∧ w3.cell? ⟨g, off + j * 8 + 1, none⟩ = some (.string nmx) ∧ w3.cell? ⟨g, off + j * 8 + 2, none⟩ = some (.int .i64 ttx) ∧ w3.cell? ⟨g, off + j * 8 + 3, none⟩ = some (.int .i64 Fx) ∧ w3.cell? ⟨g, off + j * 8 + 4, none⟩ = some (.int .i64 A0x) ∧ w3.cell? ⟨g, off + j * 8 + 5, none⟩ = some (.int .i64 B0x) ∧ w3.cell? ⟨g, off + j * 8 + 6, none⟩ = some (.int .i64 Cx) ∧ w3.cell? ⟨g, off + j * 8 + 7, none⟩ = some (.slice Au Lx.length cu)) ∧ (w3.cell? ⟨g9, off9 + pn * 8, none⟩ = some (.int .i64 kkx) ∧ w3.cell? ⟨g9, off9 + pn * 8 + 1, none⟩ = some (.string nmx) ∧ w3.cell? ⟨g9, off9 + pn * 8 + 2, none⟩ = some (.int .i64 ttx) ∧ w3.cell? ⟨g9, off9 + pn * 8 + 3, none⟩ = some (.int .i64 Fx) ∧ w3.cell? ⟨g9, off9 + pn * 8 + 4, none⟩ = some (.int .i64 A0x) ∧ w3.cell? ⟨g9, off9 + pn * 8 + 5, none⟩ = some (.int .i64 B0x) ∧ w3.cell? ⟨g9, off9 + pn * 8 + 6, none⟩ = some (.int .i64 Cx) ∧ w3.cell? ⟨g9, off9 + pn * 8 + 7, none⟩ = some (.slice Aux Lx.length cux)) ∧ w3.cell? ⟨g4, 4, none⟩ = some (.slice (some ⟨g, off, none⟩) R.length cr) ∧ w3.cell? ⟨g8, 4, none⟩ = some (.slice (some ⟨g9, off9, none⟩) R'.length ca) := ⟨H8.out.1.under H8.out.2.2.1 hb, H8.out.2.1.under H8.out.2.2.2 hb, ((H9.out.2.1.under M3.out).cell 4).trans rfl, ((H9.out.2.2.1.under M3.out).cell 4).trans rfl⟩
                        clear hb M2 H8 HSm hS c0 c1' c2 c3 c4 c5 c6 c7 d0 d1 d2 d3 d4 d5 d6 d7 s0 s1'
                        go_simp
                        refine hK.out _ _ S3 (fun hS3 => ?_)
                        clear hK Kx S3
                        ((try simp only [Act.put]); (try simp only [List.setIfInBounds_toArray]); (try simp only [List.set_cons_succ]); (try simp only [List.set_cons_zero]))
                        refine wpAnyH_take (i := 17) (oi := ⟨some 173, _, _, _, _, some _⟩) (v := ?_) rfl (by kernel_rfl) (by kernel_rfl) (by kernel_rfl) (fun _ _ _ h => h) (Or.inl ⟨by rfl, ?_⟩) (by assumption) ?_
                        case refine_2 => (intro wx hSx; (try dsimp only at hSx); go_simp; first | done | with_reducible rfl)
                        try simp only [Act.put, List.setIfInBounds_toArray, List.set_cons_zero, List.set_cons_succ]
                        refine wpAnyH_take (i := 18) (oi := ⟨some 174, _, _, _, _, none⟩) (v := ?_) rfl (by kernel_rfl) (by kernel_rfl) (by kernel_rfl) (fun _ _ _ h => h) (Or.inl ⟨by rfl, ?_⟩) (by assumption) ?_
                        case refine_2 => (intro wx hSx; (try dsimp only at hSx); go_simp; first | done | with_reducible rfl)
                        try simp only [Act.put, List.setIfInBounds_toArray, List.set_cons_zero, List.set_cons_succ]
                        refine wpAnyH_done (by kernel_rfl) ?_ _
                        clear hS3
                        go_wp2_with fail
                        go_roundw
                        case rel => exact ⟨j + 1, by omega, by go_num, by rw [HPS.out]; go_num, M3⟩
                        case measure => simp [intOf]; omega
                    · have j1 : ¬ (j : Int) < (R.length : Int) := by omega
                      go_wp2_with fail
                      have JB := Lib.hid (H9.out.1.src.below.trans (M.out.mono H9.out.1.src.below.size))
                      refine (awake_from (w0 := w) _ (HE.out.under JB.out) JB.out).mono ?_
                      rintro e wA ⟨rfl, hb⟩
                      have HFin := Lib.hid hb
                      clear hb
                      go_wp2_with fail
                      go_ret
                      exact ⟨rfl, HFin.out⟩
                · have hbe : bd = [] := HBDQ.out
                  subst hbe
                  have hbq : ((R'.length : Int) != (R.length : Int)) = false := by rw [bne_eq_false_iff_eq]; simp only [List.length_nil] at hbl2; omega
                  go_upto_region 28 with fail
                  go_loopw [19, 20] (fun n i Y => ∃ j : Nat, j ≤ R.length ∧ i = .int .i64 (j : Int) ∧ n = .int .i64 ((pos ac true j : Nat) : Int) ∧ Hid (Below w9.heap.size w9 Y)) (fun _ i _ => R.length - (intOf i).toNat)
                  case atStart => exact ⟨0, Nat.zero_le _, rfl, by rw [pos_zero]; rfl, Lib.hid (Below.refl _ _)⟩
                  case round =>
                    clear q0 q1 q2 q3 q4 p0 p1 p2 p3 p4
                    obtain ⟨j, hj, rfl, rfl, M⟩ := hrel
                    obtain ⟨q0, q1, q2, q3, q4⟩ := row5 (H9.out.2.1.under M.out)
                    obtain ⟨p0, p1, p2, p3, p4⟩ := row5 (H9.out.2.2.1.under M.out)
                    by_cases hlt2 : j < R.length
                    · have j1 : (j : Int) < (R.length : Int) := by omega
                      have j0 : (0 : Int) ≤ (j : Int) := by omega
                      by_cases hja : j = ac
                      · have t1 : ((j : Int) + 1 == (ac : Int) + 1) = true := by rw [beq_iff_eq]; omega
                        have t2 : ((j : Int) + 1 == ((ac + 1 : Nat) : Int)) = true := by rw [beq_iff_eq]; omega
                        have hps : pos ac true (j + 1) = pos ac true j + 1 := by rw [hja]; exact pos_in ac
                        have hpb : pos ac true j ≤ j := by unfold pos; split <;> simp
                        have HPS := Lib.hid hps
                        clear hps hja
                        obtain ⟨pn, hpn⟩ : ∃ pn, pos ac true j = pn := ⟨_, rfl⟩
                        have HPN := Lib.hid hpn
                        rw [hpn] at hpb ⊢
                        clear hpn
                        go_wp2_with fail
                        go_roundw
                        case rel => exact ⟨j + 1, by omega, by go_num, by rw [HPS.out, HPN.out]; go_num, M⟩
                        case measure => simp [intOf]; omega
                      · have t1 : ((j : Int) + 1 == (ac : Int) + 1) = false := by rw [beq_eq_false_iff_ne]; omega
                        have t2 : ((j : Int) + 1 == ((ac + 1 : Nat) : Int)) = false := by rw [beq_eq_false_iff_ne]; omega
                        have hk2 : ∀ pn, pos ac true j = pn → ∃ h : pn < R'.length, (R'[pn]).key = (R[j]).key := fun pn e => by subst e; exact HPO.out j hlt2 hja
                        have HPS := Lib.hid (pos_next true hja : pos ac true (j + 1) = pos ac true j + 1)
                        clear hja
                        obtain ⟨pn, hpn⟩ : ∃ pn, pos ac true j = pn := ⟨_, rfl⟩
                        obtain ⟨hp1, hk⟩ := hk2 pn hpn
                        clear hk2
                        have hpI : ¬ (R'.length : Int) ≤ (pn : Int) := by omega
                        have hpJ : (pn : Int) < (R'.length : Int) := by omega
                        have hp0 : (0 : Int) ≤ (pn : Int) := by omega
                        rw [hpn] at HPS ⊢
                        have HPN := Lib.hid hpn
                        clear hpn
                        have hd : Below wr.heap.size wr wr.drew := below_drewN (Below.refl _ _) 1
                        obtain ⟨A', cap', ea, -, -, h4⟩ := (H9.out.1.ins.under M.out)
                        injection ea with ea el ec
                        clear el
                        subst ea
                        subst ec
                        obtain ⟨g, off, rfl, hgl, h8, hrd⟩ := h4 j hlt2
                        obtain ⟨B', cab', eb, -, -, h4'⟩ := (H9.out.2.2.2.1.under M.out)
                        injection eb with eb el ed
                        clear el
                        subst eb
                        subst ed
                        obtain ⟨g9, off9, rfl, hgl', h8', hrd'⟩ := h4' pn hp1
                        obtain ⟨rk, hrk0⟩ : ∃ rk, R[j] = rk := ⟨_, rfl⟩
                        obtain ⟨rk', hrk0'⟩ : ∃ rk, R'[pn] = rk := ⟨_, rfl⟩
                        rw [hrk0] at h8 hrd
                        rw [hrk0'] at h8' hrd'
                        simp only [hrk0, hrk0'] at hk
                        clear hrk0 hrk0' h4 h4'
                        obtain ⟨kk, nm, tt, F, A0, B0, C, uu, L⟩ := rk
                        obtain ⟨kkx, nmx, ttx, Fx, A0x, B0x, Cx, uux, Lx⟩ := rk'
                        simp only [Rp.key, Prod.mk.injEq] at hk
                        obtain ⟨rfl, rfl, rfl, ⟨rfl, rfl, rfl, rfl⟩, rfl⟩ := hk
                        obtain ⟨Au, cu, eu, -⟩ := id hrd
                        obtain ⟨Aux, cux, eux, -⟩ := id hrd'
                        simp only at eu eux hrd hrd'
                        subst eu; subst eux
                        have HSm := refSame_any kkx nmx ttx Fx A0x B0x Cx (.slice Au Lx.length cu) Lx kkx nmx ttx Fx A0x B0x Cx (.slice Aux Lx.length cux) Lx wr.drew (hrd.under hd) (hrd'.under hd)
                        rw [cRep_self] at HSm
                        have HSm := Lib.hid HSm
                        have H8 := Lib.hid (⟨h8.under hgl hd, h8'.under hgl' hd, hgl, hgl'⟩ : At8 wr.drew g (off + j * 8) ⟨kkx, nmx, ttx, Fx, A0x, B0x, Cx, .slice Au Lx.length cu, Lx⟩ ∧ At8 wr.drew g9 (off9 + pn * 8) ⟨kkx, nmx, ttx, Fx, A0x, B0x, Cx, .slice Aux Lx.length cux, Lx⟩ ∧ g < wr.drew.heap.size ∧ g9 < wr.drew.heap.size)
                        have M2 : Hid (Below w9.heap.size w9 wr.drew) := Lib.hid (M.out.trans (hd.mono M.out.size))
                        clear hrd hrd' hd hgl hgl' h8 h8' M
                        go_upto_region 33 with fail
                        clear q0 q1 q2 q3 q4 p0 p1 p2 p3 p4
                        refine wp_region_held_drew (S := fun Y : World => (Y.cell? ⟨g, off + j * 8, none⟩ = some (.int .i64 kkx) ∧ Y.cell? ⟨g, off + j * 8 + 1, none⟩ = some (.string nmx) ∧ Y.cell? ⟨g, off + j * 8 + 2, none⟩ = some (.int .i64 ttx) ∧ Y.cell? ⟨g, off + j * 8 + 3, none⟩ = some (.int .i64 Fx) ∧ Y.cell? ⟨g, off + j * 8 + 4, none⟩ = some (.int .i64 A0x) ∧ Y.cell? ⟨g, off + j * 8 + 5, none⟩ = some (.int .i64 B0x) ∧ Y.cell? ⟨g, off + j * 8 + 6, none⟩ = some (.int .i64 Cx) ∧ Y.cell? ⟨g, off + j * 8 + 7, none⟩ = some (.slice Au Lx.length cu)) ∧ (Y.cell? ⟨g9, off9 + pn * 8, none⟩ = some (.int .i64 kkx) ∧ Y.cell? ⟨g9, off9 + pn * 8 + 1, none⟩ = some (.string nmx) ∧ Y.cell? ⟨g9, off9 + pn * 8 + 2, none⟩ = some (.int .i64 ttx) ∧ Y.cell? ⟨g9, off9 + pn * 8 + 3, none⟩ = some (.int .i64 Fx) ∧ Y.cell? ⟨g9, off9 + pn * 8 + 4, none⟩ = some (.int .i64 A0x) ∧ Y.cell? ⟨g9, off9 + pn * 8 + 5, none⟩ = some (.int .i64 B0x) ∧ Y.cell? ⟨g9, off9 + pn * 8 + 6, none⟩ = some (.int .i64 Cx) ∧ Y.cell? ⟨g9, off9 + pn * 8 + 7, none⟩ = some (.slice Aux Lx.length cux)) ∧ Y.cell? ⟨g4, 4, none⟩ = some (.slice (some ⟨g, off, none⟩) R.length cr) ∧ Y.cell? ⟨g8, 4, none⟩ = some (.slice (some ⟨g9, off9, none⟩) R'.length ca)) (by kernel_rfl) ⟨H8.out.1, H8.out.2.1, ((H9.out.2.1.under M2.out).cell 4).trans rfl, ((H9.out.2.2.1.under M2.out).cell 4).trans rfl⟩ (fun hS => ?_)
                        generalize wr.drew = X at *
                        have hh := hS
                        obtain ⟨⟨c0, c1', c2, c3, c4, c5, c6, c7⟩, ⟨d0, d1, d2, d3, d4, d5, d6, d7⟩, s0, s1'⟩ := hh
                        refine wpAnyH_take (i := 0) (oi := ⟨some 156, _, _, _, _, none⟩) (v := ?_) rfl (by kernel_rfl) (by kernel_rfl) (by kernel_rfl) (fun _ _ _ h => h) (Or.inl ⟨by rfl, ?_⟩) (by assumption) ?_
                        case refine_2 => (intro wx hSx; (try dsimp only at hSx); go_simp; first | done | with_reducible rfl)
                        try simp only [Act.put, List.setIfInBounds_toArray, List.set_cons_zero, List.set_cons_succ]
                        refine wpAnyH_take (i := 1) (oi := ⟨some 157, _, _, _, _, none⟩) (v := ?_) rfl (by kernel_rfl) (by kernel_rfl) (by kernel_rfl) (fun _ _ _ h => h) (Or.inl ⟨by rfl, ?_⟩) (by assumption) ?_
                        case refine_2 => (intro wx hSx; (try dsimp only at hSx); go_simp; first | done | with_reducible rfl)
                        try simp only [Act.put, List.setIfInBounds_toArray, List.set_cons_zero, List.set_cons_succ]
                        refine wpAnyH_take (i := 2) (oi := ⟨some 158, _, _, _, _, none⟩) (v := ?_) rfl (by kernel_rfl) (by kernel_rfl) (by kernel_rfl) (fun _ _ _ h => h) (Or.inl ⟨by rfl, ?_⟩) (by assumption) ?_
                        case refine_2 => (intro wx hSx; (try dsimp only at hSx); go_simp; first | done | with_reducible rfl)
                        try simp only [Act.put, List.setIfInBounds_toArray, List.set_cons_zero, List.set_cons_succ]
                        refine wpAnyH_take (i := 3) (oi := ⟨some 159, _, _, _, _, none⟩) (v := ?_) rfl (by kernel_rfl) (by kernel_rfl) (by kernel_rfl) (fun _ _ _ h => h) (Or.inl ⟨by rfl, ?_⟩) (by assumption) ?_
                        case refine_2 => (intro wx hSx; (try dsimp only at hSx); go_simp; first | done | with_reducible rfl)
                        try simp only [Act.put, List.setIfInBounds_toArray, List.set_cons_zero, List.set_cons_succ]
                        refine wpAnyH_take (i := 4) (oi := ⟨some 160, _, _, _, _, none⟩) (v := ?_) rfl (by kernel_rfl) (by kernel_rfl) (by kernel_rfl) (fun _ _ _ h => h) (Or.inl ⟨by rfl, ?_⟩) (by assumption) ?_
                        case refine_2 => (intro wx hSx; (try dsimp only at hSx); go_simp; first | done | with_reducible rfl)
                        try simp only [Act.put, List.setIfInBounds_toArray, List.set_cons_zero, List.set_cons_succ]
                        refine wpAnyH_take (i := 5) (oi := ⟨some 161, _, _, _, _, none⟩) (v := ?_) rfl (by kernel_rfl) (by kernel_rfl) (by kernel_rfl) (fun _ _ _ h => h) (Or.inl ⟨by rfl, ?_⟩) (by assumption) ?_
                        case refine_2 => (intro wx hSx; (try dsimp only at hSx); go_simp; first | done | with_reducible rfl)
                        try simp only [Act.put, List.setIfInBounds_toArray, List.set_cons_zero, List.set_cons_succ]
                        refine wpAnyH_take (i := 6) (oi := ⟨some 162, _, _, _, _, some _⟩) (v := ?_) rfl (by kernel_rfl) (by kernel_rfl) (by kernel_rfl) (fun _ _ _ h => h) (Or.inl ⟨by rfl, ?_⟩) (by assumption) ?_
                        case refine_2 => (intro wx hSx; (try dsimp only at hSx); go_simp; first | done | with_reducible rfl)
                        try simp only [Act.put, List.setIfInBounds_toArray, List.set_cons_zero, List.set_cons_succ]
                        refine wpAnyH_take (i := 7) (oi := ⟨some 163, _, _, _, _, some _⟩) (v := ?_) rfl (by kernel_rfl) (by kernel_rfl) (by kernel_rfl) (fun _ _ _ h => h) (Or.inl ⟨by rfl, ?_⟩) (by assumption) ?_
                        case refine_2 => (intro wx hSx; (try dsimp only at hSx); go_simp; first | done | with_reducible rfl)
                        try simp only [Act.put, List.setIfInBounds_toArray, List.set_cons_zero, List.set_cons_succ]
                        refine wpAnyH_take (i := 8) (oi := ⟨some 164, _, _, _, _, some _⟩) (v := ?_) rfl (by kernel_rfl) (by kernel_rfl) (by kernel_rfl) (fun _ _ _ h => h) (Or.inl ⟨by rfl, ?_⟩) (by assumption) ?_
                        case refine_2 => (intro wx hSx; (try dsimp only at hSx); go_simp; first | done | with_reducible rfl)
                        try simp only [Act.put, List.setIfInBounds_toArray, List.set_cons_zero, List.set_cons_succ]
                        refine wpAnyH_take (i := 9) (oi := ⟨some 165, _, _, _, _, some _⟩) (v := ?_) rfl (by kernel_rfl) (by kernel_rfl) (by kernel_rfl) (fun _ _ _ h => h) (Or.inl ⟨by rfl, ?_⟩) (by assumption) ?_
                        case refine_2 => (intro wx hSx; (try dsimp only at hSx); go_simp; first | done | with_reducible rfl)
                        try simp only [Act.put, List.setIfInBounds_toArray, List.set_cons_zero, List.set_cons_succ]
                        refine wpAnyH_take (i := 10) (oi := ⟨some 166, _, _, _, _, some _⟩) (v := ?_) rfl (by kernel_rfl) (by kernel_rfl) (by kernel_rfl) (fun _ _ _ h => h) (Or.inl ⟨by rfl, ?_⟩) (by assumption) ?_
                        case refine_2 => (intro wx hSx; (try dsimp only at hSx); go_simp; first | done | with_reducible rfl)
                        try simp only [Act.put, List.setIfInBounds_toArray, List.set_cons_zero, List.set_cons_succ]
                        refine wpAnyH_take (i := 11) (oi := ⟨some 167, _, _, _, _, some _⟩) (v := ?_) rfl (by kernel_rfl) (by kernel_rfl) (by kernel_rfl) (fun _ _ _ h => h) (Or.inl ⟨by rfl, ?_⟩) (by assumption) ?_
                        case refine_2 => (intro wx hSx; (try dsimp only at hSx); go_simp; first | done | with_reducible rfl)
                        try simp only [Act.put, List.setIfInBounds_toArray, List.set_cons_zero, List.set_cons_succ]
                        refine wpAnyH_take (i := 12) (oi := ⟨some 168, _, _, _, _, some _⟩) (v := ?_) rfl (by kernel_rfl) (by kernel_rfl) (by kernel_rfl) (fun _ _ _ h => h) (Or.inl ⟨by rfl, ?_⟩) (by assumption) ?_
                        case refine_2 => (intro wx hSx; (try dsimp only at hSx); go_simp; first | done | with_reducible rfl)
                        try simp only [Act.put, List.setIfInBounds_toArray, List.set_cons_zero, List.set_cons_succ]
                        refine wpAnyH_take (i := 13) (oi := ⟨some 169, _, _, _, _, some _⟩) (v := ?_) rfl (by kernel_rfl) (by kernel_rfl) (by kernel_rfl) (fun _ _ _ h => h) (Or.inl ⟨by rfl, ?_⟩) (by assumption) ?_
                        case refine_2 => (intro wx hSx; (try dsimp only at hSx); go_simp; first | done | with_reducible rfl)
                        try simp only [Act.put, List.setIfInBounds_toArray, List.set_cons_zero, List.set_cons_succ]
                        refine wpAnyH_take (i := 14) (oi := ⟨some 170, _, _, _, _, some _⟩) (v := ?_) rfl (by kernel_rfl) (by kernel_rfl) (by kernel_rfl) (fun _ _ _ h => h) (Or.inl ⟨by rfl, ?_⟩) (by assumption) ?_
                        case refine_2 => (intro wx hSx; (try dsimp only at hSx); go_simp; first | done | with_reducible rfl)
                        try simp only [Act.put, List.setIfInBounds_toArray, List.set_cons_zero, List.set_cons_succ]
                        refine wpAnyH_take (i := 15) (oi := ⟨some 171, _, _, _, _, some _⟩) (v := ?_) rfl (by kernel_rfl) (by kernel_rfl) (by kernel_rfl) (fun _ _ _ h => h) (Or.inl ⟨by rfl, ?_⟩) (by assumption) ?_
                        case refine_2 => (intro wx hSx; (try dsimp only at hSx); go_simp; first | done | with_reducible rfl)
                        try simp only [Act.put, List.setIfInBounds_toArray, List.set_cons_zero, List.set_cons_succ]
                        refine wpAnyH_ready (rs := [16]) (by kernel_rfl) (by simp) ?_
                        refine AllReadyH.cons (o := ⟨some 172, _, _, _, _, some _⟩) rfl (fun Kx hK => ?_) AllReadyH.nil
                        go_simp
                        refine HSm.out.mono ?_
                        rintro e w3 ⟨rfl, hb⟩
                        have M3 : Hid (Below w9.heap.size w9 w3) := Lib.hid (M2.out.trans (hb.mono M2.out.size))
                        have S3 : (w3.cell? ⟨g, off + j * 8, none⟩ = some (.int .i64 kkx) ∧ w3.cell? ⟨g, off + j * 8 + 1, none⟩ = some (.string nmx) ∧ w3.cell? ⟨g, off + j * 8 + 2, none⟩ = some (.int .i64 ttx) ∧ w3.cell? ⟨g, off + j * 8 + 3, none⟩ = some (.int .i64 Fx) ∧ w3.cell? ⟨g, off + j * 8 + 4, none⟩ = some (.int .i64 A0x) ∧ w3.cell? ⟨g, off + j * 8 + 5, none⟩ = some (.int .i64 B0x) ∧ w3.cell? ⟨g, off + j * 8 + 6, none⟩ = some (.int .i64 Cx) ∧ w3.cell? ⟨g, off + j * 8 + 7, none⟩ = some (.slice Au Lx.length cu)) ∧ (w3.cell? ⟨g9, off9 + pn * 8, none⟩ = some (.int .i64 kkx) ∧ w3.cell? ⟨g9, off9 + pn * 8 + 1, none⟩ = some (.string nmx) ∧ w3.cell? ⟨g9, off9 + pn * 8 + 2, none⟩ = some (.int .i64 ttx) ∧ w3.cell? ⟨g9, off9 + pn * 8 + 3, none⟩ = some (.int .i64 Fx) ∧ w3.cell? ⟨g9, off9 + pn * 8 + 4, none⟩ = some (.int .i64 A0x) ∧ w3.cell? ⟨g9, off9 + pn * 8 + 5, none⟩ = some (.int .i64 B0x) ∧ w3.cell? ⟨g9, off9 + pn * 8 + 6, none⟩ = some (.int .i64 Cx) ∧ w3.cell? ⟨g9, off9 + pn * 8 + 7, none⟩ = some (.slice Aux Lx.length cux)) ∧ w3.cell? ⟨g4, 4, none⟩ = some (.slice (some ⟨g, off, none⟩) R.length cr) ∧ w3.cell? ⟨g8, 4, none⟩ = some (.slice (some ⟨g9, off9, none⟩) R'.length ca) := ⟨H8.out.1.under H8.out.2.2.1 hb, H8.out.2.1.under H8.out.2.2.2 hb, ((H9.out.2.1.under M3.out).cell 4).trans rfl, ((H9.out.2.2.1.under M3.out).cell 4).trans rfl⟩
                        clear hb M2 H8 HSm hS c0 c1' c2 c3 c4 c5 c6 c7 d0 d1 d2 d3 d4 d5 d6 d7 s0 s1'
                        go_simp
                        refine hK.out _ _ S3 (fun hS3 => ?_)
                        clear hK Kx S3
                        ((try simp only [Act.put]); (try simp only [List.setIfInBounds_toArray]); (try simp only [List.set_cons_succ]); (try simp only [List.set_cons_zero]))
                        refine wpAnyH_take (i := 17) (oi := ⟨some 173, _, _, _, _, some _⟩) (v := ?_) rfl (by kernel_rfl) (by kernel_rfl) (by kernel_rfl) (fun _ _ _ h => h) (Or.inl ⟨by rfl, ?_⟩) (by assumption) ?_
                        case refine_2 => (intro wx hSx; (try dsimp only at hSx); go_simp; first | done | with_reducible rfl)
                        try simp only [Act.put, List.setIfInBounds_toArray, List.set_cons_zero, List.set_cons_succ]
                        refine wpAnyH_take (i := 18) (oi := ⟨some 174, _, _, _, _, none⟩) (v := ?_) rfl (by kernel_rfl) (by kernel_rfl) (by kernel_rfl) (fun _ _ _ h => h) (Or.inl ⟨by rfl, ?_⟩) (by assumption) ?_
                        case refine_2 => (intro wx hSx; (try dsimp only at hSx); go_simp; first | done | with_reducible rfl)
                        try simp only [Act.put, List.setIfInBounds_toArray, List.set_cons_zero, List.set_cons_succ]
                        refine wpAnyH_done (by kernel_rfl) ?_ _
                        clear hS3
                        go_wp2_with fail
                        go_roundw
                        case rel => exact ⟨j + 1, by omega, by go_num, by rw [HPS.out]; go_num, M3⟩
                        case measure => simp [intOf]; omega
                    · have j1 : ¬ (j : Int) < (R.length : Int) := by omega
                      go_wp2_with fail
                      have JB := Lib.hid (H9.out.1.src.below.trans (M.out.mono H9.out.1.src.below.size))
                      refine (awake_from (w0 := w) _ (HE.out.under JB.out) JB.out).mono ?_
                      rintro e wA ⟨rfl, hb⟩
                      have HFin := Lib.hid hb
                      clear hb
                      go_wp2_with fail
                      go_ret
                      exact ⟨rfl, HFin.out⟩
end Go.Proofs.YtfnlgfacadmjpaaGreatDoor.Bu
