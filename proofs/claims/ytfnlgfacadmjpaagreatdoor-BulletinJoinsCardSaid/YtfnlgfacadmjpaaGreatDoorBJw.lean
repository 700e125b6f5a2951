/- The walk of BulletinJoins. -/
import Derived.Test.YtfnlgfacadmjpaaGreatDoorBJn
namespace Go.Proofs.YtfnlgfacadmjpaaGreatDoor.Bu
open Go.RowKit

/-- Two lists of reports and the boxes of two bulletins. -/
structure Jn (w : World) (b base base2 g4 g5 : Nat) (cs4 cs5 : Array Value) (R R2 : List Rp) (v v2 : Value) (Y : World) : Prop where
  m1 : RM w b base R v Y
  m2 : RM w b base2 R2 v2 Y
  r4 : Row Y g4 24 cs4
  r5 : Row Y g5 24 cs5
section
variable {w Y Y' : World} {b base base2 g4 g5 : Nat} {cs4 cs5 : Array Value} {R R2 : List Rp} {v v2 : Value}
theorem Jn.under (h : Jn w b base base2 g4 g5 cs4 cs5 R R2 v v2 Y) (hb : Below Y.heap.size Y Y') : Jn w b base base2 g4 g5 cs4 cs5 R R2 v v2 Y' := ⟨h.m1.under hb, h.m2.under hb, h.r4.under hb, h.r5.under hb⟩
theorem Jn.put5 (h : Jn w b base base2 g4 g5 cs4 cs5 R R2 v v2 Y) (hW : w.heap.size ≤ g5) (hne : g5 ≠ b) (h45 : g5 ≠ g4) (j : Nat) (u : Value) : Jn w b base base2 g4 g5 cs4 (cs5.setIfInBounds j u) R R2 v v2 (Y.setCell ⟨g5, j, none⟩ u) :=
  ⟨h.m1.set h.r5 hW hne j u, h.m2.set h.r5 hW hne j u, h.r4.far (p := ⟨g5, j, none⟩) h45 u, h.r5.put j u⟩
theorem Jn.set (h : Jn w b base base2 g4 g5 cs4 cs5 R R2 v v2 Y) {ga : Nat} {cs : Array Value} (hr : Row Y ga 24 cs) (hW : w.heap.size ≤ ga) (hne : ga ≠ b) (h4 : ga ≠ g4) (h5 : ga ≠ g5) (j : Nat) (u : Value) : Jn w b base base2 g4 g5 cs4 cs5 R R2 v v2 (Y.setCell ⟨ga, j, none⟩ u) :=
  ⟨h.m1.set hr hW hne j u, h.m2.set hr hW hne j u, h.r4.far (p := ⟨ga, j, none⟩) h4 u, h.r5.far (p := ⟨ga, j, none⟩) h5 u⟩
end
theorem vd_other {W w4 w5 : World} {b : Nat} {c : ByteArray} {t cor del : Int} {R R2 : List Rp} {v2 : Value} (h : VdB c t cor del R) (hL : RL W b w4 t R2 v2 w5) (hn : R2.length ≤ 20) : VdB c t cor del R2 :=
  ⟨h.hctr, h.htime, h.hcor, h.hdel, h.hone, by omega, fun r hr => ⟨(hL.val r hr).1, rdb_iff.2 (rdb_near (hL.val r hr).1.time h.htime (hL.val r hr).2.1 (hL.val r hr).2.2)⟩⟩
def Aside (n0 : Nat) (X1 : World) (ga : Nat) : Prop := ga < n0 ∨ X1.heap.size ≤ ga
theorem jn_store {w : World} {b base base2 g4 g5 ga n0 : Nat} {cs4 cs5 : Array Value} {R R2 : List Rp} {v v2 : Value} {X1 Y : World} (h : Jn w b base base2 g4 g5 cs4 cs5 R R2 v v2 Y ∧ Row Y ga 24 (bulC ⟨#[]⟩ 0 0 0 (.slice none 0 0)) ∧ Up n0 X1 Y ∧ (ga ≠ b ∧ ga ≠ g4 ∧ ga ≠ g5 ∧ w.heap.size ≤ ga ∧ Aside n0 X1 ga)) (u0 u1 u2 u3 u4 : Value) :
    Jn w b base base2 g4 g5 cs4 cs5 R R2 v v2 (((((Y.setCell ⟨ga, 0, none⟩ u0).setCell ⟨ga, 1, none⟩ u1).setCell ⟨ga, 2, none⟩ u2).setCell ⟨ga, 3, none⟩ u3).setCell ⟨ga, 4, none⟩ u4) ∧ Row (((((Y.setCell ⟨ga, 0, none⟩ u0).setCell ⟨ga, 1, none⟩ u1).setCell ⟨ga, 2, none⟩ u2).setCell ⟨ga, 3, none⟩ u3).setCell ⟨ga, 4, none⟩ u4) ga 24 #[u0, u1, u2, u3, u4] ∧ Up n0 X1 (((((Y.setCell ⟨ga, 0, none⟩ u0).setCell ⟨ga, 1, none⟩ u1).setCell ⟨ga, 2, none⟩ u2).setCell ⟨ga, 3, none⟩ u3).setCell ⟨ga, 4, none⟩ u4) := by
  obtain ⟨hj, ra, hu, hb, h4, h5, hw, hd⟩ := h
  have a0 := ra.put 0 u0
  have a1 := a0.put 1 u1
  have a2 := a1.put 2 u2
  have a3 := a2.put 3 u3
  exact ⟨((((hj.set ra hw hb h4 h5 0 u0).set a0 hw hb h4 h5 1 u1).set a1 hw hb h4 h5 2 u2).set a2 hw hb h4 h5 3 u3).set a3 hw hb h4 h5 4 u4, set5_row u0 u1 u2 u3 u4 ra, ((((hu.set hd 0 u0).set hd 1 u1).set hd 2 u2).set hd 3 u3).set hd 4 u4⟩
set_option maxRecDepth 100000 in
set_option maxHeartbeats 4000000 in
theorem bulletinJoins_any (v : Value) (ln : ByteArray) (w : World) (hE : Env w) (hl : ListIn w v) (hx : ln.size ≤ 9223372036854775807) :
    Calls Tryz.prog 8 #[v, .string ln] w fun e w' => e = .returned (.bool true) ∧ Below w.heap.size w w' := by
  have HE := Lib.hid hE
  clear hE
  by_cases h60 : ln.size ≤ 60
  · have k60 : ¬ (60 : Int) < (ln.size : Int) := by omega
    go_enter Tryz.func8, Tryz.ntmps8
    go_wp2_with fail
    refine (new_any _ _ hl).mono ?_
    rintro e w1 ⟨rfl, s1, -⟩
    have hbw : w.heap.size ≤ w1.heap.size := s1.below.size
    obtain ⟨b, hb0⟩ : ∃ b, w.heap.size = b := ⟨_, rfl⟩
    have HB0 := Lib.hid hb0
    rw [hb0] at s1 ⊢
    clear hb0
    go_wp2_with fail
    refine (made_any w b w1 4 s1 (by decide)).mono ?_
    rintro e w2 ⟨c, t, cor, del, R, vr, base, rfl, hV, hR4, hM⟩
    obtain ⟨Ar, cr, er⟩ := row_form hM.own
    subst er
    have hb3 : Below w2.heap.size w2 (w2.alloc (.cells (bulC (S c) t cor del (.slice Ar R.length cr)) 24)) := (Below.refl _ _).alloc (Nat.le_refl _) _
    have H3 := Lib.hid (⟨hM.under hb3, Row.new _ _ _⟩ : RM w b base R (.slice Ar R.length cr) (w2.alloc (.cells (bulC (S c) t cor del (.slice Ar R.length cr)) 24)) ∧ Row (w2.alloc (.cells (bulC (S c) t cor del (.slice Ar R.length cr)) 24)) w2.heap.size 24 (bulC (S c) t cor del (.slice Ar R.length cr)))
    have h4b' : w2.heap.size ≠ b ∧ w.heap.size ≤ w2.heap.size := ⟨by have := src_lt hM.src; omega, hM.src.below.size⟩
    have HV := Lib.hid hV
    have htm := hV.htime
    clear hM hb3 hV s1
    go_upto_region 5 with fail
    refine forget (fun V => Hid (RM w b base R (.slice Ar R.length cr) V ∧ Row V w2.heap.size 24 (bulC (S c) t cor del (.slice Ar R.length cr)))) H3 ?_
    clear H3
    generalize w2.heap.size = g4 at *
    have h4b := h4b'
    intro w3 H3
    obtain ⟨q0, q1, q2, q3, q4⟩ := row5 H3.out.2
    have hb3 : Below w3.heap.size w3 (w3.alloc (.cells (bulC (S c) t cor del (.slice Ar R.length cr)) 24)) := (Below.refl _ _).alloc (Nat.le_refl _) _
    have H4 := Lib.hid (⟨H3.out.1.under hb3, H3.out.2.under hb3, Row.new _ _ _⟩ : RM w b base R (.slice Ar R.length cr) (w3.alloc (.cells (bulC (S c) t cor del (.slice Ar R.length cr)) 24)) ∧ Row (w3.alloc (.cells (bulC (S c) t cor del (.slice Ar R.length cr)) 24)) g4 24 (bulC (S c) t cor del (.slice Ar R.length cr)) ∧ Row (w3.alloc (.cells (bulC (S c) t cor del (.slice Ar R.length cr)) 24)) w3.heap.size 24 (bulC (S c) t cor del (.slice Ar R.length cr)))
    have h5b' : w3.heap.size ≠ b ∧ w.heap.size ≤ w3.heap.size ∧ w3.heap.size ≠ g4 := ⟨by have := src_lt H3.out.1.src; omega, H3.out.1.src.below.size, by have := H3.out.2.lt; omega⟩
    clear hb3 H3
    go_upto_region 6 with fail
    clear q0 q1 q2 q3 q4
    refine forget (fun V => Hid (RM w b base R (.slice Ar R.length cr) V ∧ Row V g4 24 (bulC (S c) t cor del (.slice Ar R.length cr)) ∧ Row V w3.heap.size 24 (bulC (S c) t cor del (.slice Ar R.length cr)))) H4 ?_
    clear H4
    generalize w3.heap.size = g5 at *
    have h5b := h5b'
    intro w4 H4
    obtain ⟨q0, q1, q2, q3, q4⟩ := row5 H4.out.2.1
    go_wp2_with fail
    refine (reports_any w b w4 t 4 H4.out.1.src (by decide) htm.1 htm.2).mono ?_
    rintro e w5 ⟨R2, v2, rfl, hR2, hL⟩
    obtain ⟨A2, c2, e2⟩ := row_form hL.own
    subst e2
    have hbl4 := src_lt H4.out.1.src
    have HV2 := Lib.hid (vd_other HV.out hL (by omega))
    have H5 : Hid (Jn w b base w4.heap.size g4 g5 (bulC (S c) t cor del (.slice Ar R.length cr)) (bulC (S c) t cor del (.slice Ar R.length cr)) R R2 (.slice Ar R.length cr) (.slice A2 R2.length c2) w5) := Lib.hid ⟨H4.out.1.step hL.src hL.gro, hL.rm hbl4, H4.out.2.1.grown hL.gro (fun e => h4b.1 (by injection e)), H4.out.2.2.grown hL.gro (fun e => h5b.1 (by injection e))⟩
    generalize w4.heap.size = base2 at *
    have f4 := H5.out.r5.thaw 4
    have q4' := (H5.out.r5.cell 4).trans rfl
    have H6 : Hid (Jn w b base base2 g4 g5 (bulC (S c) t cor del (.slice Ar R.length cr)) (bulC (S c) t cor del (.slice A2 R2.length c2)) R R2 (.slice Ar R.length cr) (.slice A2 R2.length c2) (w5.setCell ⟨g5, 4, none⟩ (.slice A2 R2.length c2))) := Lib.hid (H5.out.put5 h5b.2.1 h5b.1 h5b.2.2 4 _)
    clear hL q0 q1 q2 q3 q4 H4 H5 hbl4
    go_upto_region 7 with fail
    clear f4 q4'
    refine forget (fun V => Hid (Jn w b base base2 g4 g5 (bulC (S c) t cor del (.slice Ar R.length cr)) (bulC (S c) t cor del (.slice A2 R2.length c2)) R R2 (.slice Ar R.length cr) (.slice A2 R2.length c2) V)) H6 ?_
    clear H6
    intro w6 H6
    have HFo := Lib.hid (fun Y (hY : Below w.heap.size w Y) (hR : RpsIn Y (.slice Ar R.length cr) R) => format_bul c t cor del (.slice Ar R.length cr) R Y (HE.out.under hY) hR HV.out (by omega))
    have HFp := Lib.hid (fun Y (hY : Below w.heap.size w Y) (hR : RpsIn Y (.slice A2 R2.length c2) R2) => format_bul c t cor del (.slice A2 R2.length c2) R2 Y (HE.out.under hY) hR HV2.out (by omega))
    have HPJ := Lib.hid (fun L Y (hY : Below w.heap.size w Y) (hf : ∀ b ∈ L, b ≠ 10) (hn : L.length ≤ 60) => parse_joins c t cor del R R2 L Y (HE.out.under hY) HV.out HV2.out hR4 hR2 hf hn)
    have HHd := Lib.hid (hdT_fr10 HV.out.hctr HV.out.htime HV.out.hcor HV.out.hdel)
    have hhl := hdT_len HV.out.hctr HV.out.htime HV.out.hcor HV.out.hdel HV.out.hone
    have hbl := bdy_len R (fun r hr => (HV.out.hreps r hr).1)
    have hbl2 := bdy_len R2 (fun r hr => (HV2.out.hreps r hr).1)
    clear HV HV2
    generalize S c = sc at *
    generalize hhh : hdT c t cor del = H at *
    clear hhh
    obtain ⟨q0, q1, q2, q3, q4⟩ := row5 H6.out.r4
    go_wp2_with fail
    refine (HFo.out _ H6.out.m1.src.below H6.out.m1.ins).mono ?_
    rintro e w7 ⟨rfl, hb⟩
    have H7 := Lib.hid (H6.out.under hb)
    clear hb H6 HFo q0 q1 q2 q3 q4
    obtain ⟨q0, q1, q2, q3, q4⟩ := row5 H7.out.r5
    go_wp2_with fail
    refine (HFp.out _ H7.out.m2.src.below H7.out.m2.ins).mono ?_
    rintro e w8 ⟨rfl, hb⟩
    have H8 := Lib.hid (H7.out.under hb)
    clear hb H7 HFp q0 q1 q2 q3 q4
    obtain ⟨TX, hTX⟩ : ∃ TX, H ++ 10 :: bdy R2 = TX := ⟨_, rfl⟩
    rw [hTX]
    have HTX := Lib.hid hTX
    obtain ⟨hn, hhn⟩ : ∃ hn, H.length = hn := ⟨_, rfl⟩
    obtain ⟨bn, hbn⟩ : ∃ bn, (bdy R2).length = bn := ⟨_, rfl⟩
    obtain ⟨an, han⟩ : ∃ an, (bdy R).length = an := ⟨_, rfl⟩
    have hTl : (S TX).size = hn + bn + 1 := by rw [S_size, ← hTX, ← hhn, ← hbn]; simp; omega
    have HA : Hid (∀ k (h : k < (S TX).size), TX[k]? = some ((S TX)[k]'h)) := Lib.hid (fun k h => by
      have h' : k < TX.length := by rw [S_size] at h; exact h
      rw [List.getElem?_eq_getElem h']
      rfl)
    have HA1 : Hid (∀ k, k < hn → ∃ u : UInt8, TX[k]? = some u ∧ u ≠ 10) := Lib.hid (fun k hk => by
      have hk' : k < H.length := by omega
      refine ⟨H[k], ?_, HHd.out _ (List.getElem_mem hk')⟩
      rw [← hTX, List.getElem?_append_left hk', List.getElem?_eq_getElem hk'])
    have HA2 : Hid (TX[hn]? = some 10) := Lib.hid (by rw [← hTX, ← hhn, List.getElem?_append_right (Nat.le_refl _)]; simp)
    have HXT : Hid ((S TX).extract (hn + 1) (hn + bn + 1) = S (bdy R2)) := Lib.hid (by
      rw [S_extract, ← hTX, ← hhn, ← hbn]
      congr 1
      rw [show H ++ 10 :: bdy R2 = (H ++ [10]) ++ bdy R2 by simp, List.take_of_length_le (by simp; omega), List.drop_append_of_le_length (by simp), List.drop_of_length_le (by simp)]
      simp)
    have hUl : (S (H ++ 10 :: bdy R)).size = hn + an + 1 := by rw [S_size, ← hhn, ← han]; simp; omega
    have HUX : Hid (∀ L : List UInt8, S (H ++ 10 :: bdy R) ++ S L ++ S [10] ++ S (bdy R2) = S (H ++ 10 :: (bdy R ++ (L ++ 10 :: bdy R2)))) := Lib.hid (fun L => by rw [S_add, S_add, S_add]; simp)
    have HB2 : Hid ((S (bdy R2)).size = bn) := Lib.hid (by rw [S_size]; exact hbn)
    rw [hhn] at hhl
    rw [hbn] at hbl2
    rw [han] at hbl
    clear hTX hhn hbn han HHd HTX
    generalize S TX = tx at *
    generalize S (H ++ 10 :: bdy R) = ux at *
    have HL : Hid (∀ k (h : k < ln.size), ln.data.toList[k]? = some (ln[k]'h)) := Lib.hid (fun k h => by
      have h' : k < ln.data.toList.length := by simpa using h
      rw [List.getElem?_eq_getElem h']
      rfl)
    go_upto_region 12 with fail
    go_loopw [12] (fun u Y => ∃ k : Nat, k ≤ ln.size ∧ u = .int .i64 k ∧ Hid (∀ j (h : j < ln.size), j < k → ln[j] ≠ 10) ∧ Y = w8) (fun u _ => ln.size - (intOf u).toNat)
    case atStart => exact ⟨0, Nat.zero_le _, rfl, Lib.hid (fun j h hj => absurd hj (Nat.not_lt_zero _)), rfl⟩
    case round =>
      obtain ⟨k, hk, rfl, hfr, e8⟩ := hrel
      have e8' := e8.symm
      subst e8'
      have k0 : (0 : Int) ≤ (k : Int) := by omega
      by_cases hlt : k < ln.size
      · have k1 : (k : Int) < (ln.size : Int) := by omega
        by_cases hten : ln[k] = 10
        · have hne : ((ln[k].toNat : Int) == 10) = true := by rw [hten]; rfl
          clear hten
          go_wp2_with fail
          refine (awake_from (w0 := w) _ (HE.out.under H8.out.m1.src.below) H8.out.m1.src.below).mono ?_
          rintro e wA ⟨rfl, hb⟩
          have HFin := Lib.hid hb
          clear hb
          go_wp2_with fail
          go_ret
          exact ⟨rfl, HFin.out⟩
        · have hne : ((ln[k].toNat : Int) == 10) = false := by
            rw [beq_eq_false_iff_ne]
            intro e
            exact hten (UInt8.toNat_inj.1 (by rw [show (10 : UInt8).toNat = 10 from rfl]; omega))
          have hfr2 : Hid (∀ j (h : j < ln.size), j < k + 1 → ln[j] ≠ 10) := Lib.hid (fun j h hj => by
            rcases Nat.lt_succ_iff_lt_or_eq.1 hj with q | q
            · exact hfr.out j h q
            · subst q; exact hten)
          clear hten
          go_wp2_with fail
          go_roundw
          case rel => exact ⟨k + 1, by omega, by go_num, hfr2, trivial⟩
          case measure => simp [intOf]; omega
      · have k1 : ¬ (k : Int) < (ln.size : Int) := by omega
        have hfree : ∀ b ∈ ln.data.toList, b ≠ 10 := fun b hb => by
          obtain ⟨j, hj, rfl⟩ := List.mem_iff_getElem.1 hb
          have hj' : j < ln.size := by simpa using hj
          exact hfr.out j hj' (by omega)
        have hll : ln.data.toList.length = ln.size := by simp
        have HPL := Lib.hid (fun Y (hY : Below w.heap.size w Y) => HPJ.out ln.data.toList Y hY hfree (by omega))
        have HUL : Hid (ux ++ ln ++ ⟨#[10]⟩ ++ S (bdy R2) = S (H ++ 10 :: (bdy R ++ (ln.data.toList ++ 10 :: bdy R2)))) := Lib.hid (HUX.out ln.data.toList)
        rw [← HUL.out] at HPL
        clear HPJ HUX HUL hfree hfr hll HL
        go_upto_region 17 with fail
        go_loopw [13] (fun u Y => ∃ k : Nat, k ≤ hn ∧ u = .int .i64 k ∧ Y = w8) (fun u _ => hn - (intOf u).toNat)
        case atStart => exact ⟨0, Nat.zero_le _, rfl, rfl⟩
        case round =>
          obtain ⟨m, hm, rfl, e9⟩ := hrel
          have e9' := e9.symm
          subst e9'
          have m0 : (0 : Int) ≤ (m : Int) := by omega
          have mn : (m : Int) < (tx.size : Int) := by omega
          have m1 : m < tx.size := by omega
          by_cases hml : m < hn
          · have hne : ((tx[m].toNat : Int) != 10) = true := by
              obtain ⟨u, hu, hu2⟩ := HA1.out m hml
              rw [HA.out m m1] at hu
              injection hu with hu
              rw [hu, bne_iff_ne]
              intro e
              exact hu2 (UInt8.toNat_inj.1 (by rw [show (10 : UInt8).toNat = 10 from rfl]; omega))
            go_wp2_with fail
            go_roundw
            case rel => exact ⟨m + 1, by omega, by go_num, trivial⟩
            case measure => simp [intOf]; omega
          · obtain rfl : m = hn := by omega
            have hne : ((tx[m].toNat : Int) != 10) = false := by
              have hu := HA2.out
              rw [HA.out m m1] at hu
              injection hu with hu
              rw [hu]; rfl
            clear HA HA1 HA2
            go_upto_region 19 with fail
            go_cut [14, 15, 16] from 70 to 88 (fun pp d e X => ∃ (R' : List Rp) (A : Option Addr) (ca : Nat) (B : Option Addr) (dd : Nat) (bd : List Int) (ga : Nat), pp = .pointer (some ⟨ga, 0, none⟩) ∧ d = .slice B bd.length dd ∧ e = .int .i64 0 ∧ Hid ((bd = [] ∧ R'.length = R.length + R2.length + 1 ∨ bd = [((R.length : Int) + 1)] ∧ R'.map Rp.key = (R ++ R2).map Rp.key) ∧ Jn w b base base2 g4 g5 (bulC sc t cor del (.slice Ar R.length cr)) (bulC sc t cor del (.slice A2 R2.length c2)) R R2 (.slice Ar R.length cr) (.slice A2 R2.length c2) X ∧ Row X ga 24 (bulC sc t cor del (.slice A R'.length ca)) ∧ RpsIn X (.slice A R'.length ca) R' ∧ NumsIn X (.slice B bd.length dd) bd))
            case first =>
              have J0 : Hid (Jn w b base base2 g4 g5 (bulC sc t cor del (.slice Ar R.length cr)) (bulC sc t cor del (.slice A2 R2.length c2)) R R2 (.slice Ar R.length cr) (.slice A2 R2.length c2) w8.drew) := Lib.hid (H8.out.under (below_drewN (Below.refl _ _) 1))
              refine wp_region_held_drew (S := fun Y : World => Y.cell? ⟨g4, 1, none⟩ = some (.int .i64 t)) (by kernel_rfl) ((J0.out.r4.cell 1).trans rfl) (fun hS => ?_)
              clear H8
              generalize w8.drew = X at *
              have cc1 : ¬ 9223372036854775807 < m + an + 1 + ln.size := by omega
              have cc2 : ¬ 9223372036854775807 < m + an + 1 + ln.size + 1 := by omega
              have cc3 : ¬ 9223372036854775807 < m + an + 1 + ln.size + 1 + bn := by omega
              have xw : IntKind.i64.wrap ((m : Int) + 1) = (m : Int) + 1 := IntWalk.i64_in _ (by omega)
              have xm : min ((m : Int) + 1) ((m : Int) + (bn : Int) + 1) = (m : Int) + 1 := by omega
              have xn : ((m : Int) + 1).toNat = m + 1 := by omega
              have x0 : (0 : Int) ≤ (m : Int) + 1 := by omega
              have x1 : (m : Int) + 1 ≤ (m : Int) + (bn : Int) + 1 := by omega
              have xt := HXT.out
              have xs := HB2.out
              refine wpAnyH_take (i := 0) (oi := ⟨some 71, _, _, _, _, none⟩) (v := ?_) rfl (by kernel_rfl) (by kernel_rfl) (by kernel_rfl) (fun _ _ _ h => h) (Or.inl ⟨by rfl, ?_⟩) (by assumption) ?_
              case refine_2 => (intro wx hSx; (try dsimp only at hSx); go_simp; first | done | with_reducible rfl)
              try simp only [Act.put, List.setIfInBounds_toArray, List.set_cons_zero, List.set_cons_succ]
              refine wpAnyH_take (i := 1) (oi := ⟨some 72, _, _, _, _, none⟩) (v := ?_) rfl (by kernel_rfl) (by kernel_rfl) (by kernel_rfl) (fun _ _ _ h => h) (Or.inl ⟨by rfl, ?_⟩) (by assumption) ?_
              case refine_2 => (intro wx hSx; (try dsimp only at hSx); go_simp; first | done | with_reducible rfl)
              try simp only [Act.put, List.setIfInBounds_toArray, List.set_cons_zero, List.set_cons_succ]
              refine wpAnyH_take (i := 2) (oi := ⟨some 73, _, _, _, _, none⟩) (v := ?_) rfl (by kernel_rfl) (by kernel_rfl) (by kernel_rfl) (fun _ _ _ h => h) (Or.inl ⟨by rfl, ?_⟩) (by assumption) ?_
              case refine_2 => (intro wx hSx; (try dsimp only at hSx); go_simp; first | done | with_reducible rfl)
              try simp only [Act.put, List.setIfInBounds_toArray, List.set_cons_zero, List.set_cons_succ]
              refine wpAnyH_take (i := 3) (oi := ⟨some 74, _, _, _, _, none⟩) (v := ?_) rfl (by kernel_rfl) (by kernel_rfl) (by kernel_rfl) (fun _ _ _ h => h) (Or.inl ⟨by rfl, ?_⟩) (by assumption) ?_
              case refine_2 => (intro wx hSx; (try dsimp only at hSx); go_simp; first | done | with_reducible rfl)
              try simp only [Act.put, List.setIfInBounds_toArray, List.set_cons_zero, List.set_cons_succ]
              refine wpAnyH_take (i := 4) (oi := ⟨some 75, _, _, _, _, none⟩) (v := ?_) rfl (by kernel_rfl) (by kernel_rfl) (by kernel_rfl) (fun _ _ _ h => h) (Or.inl ⟨by rfl, ?_⟩) (by assumption) ?_
              case refine_2 => (intro wx hSx; (try dsimp only at hSx); go_simp; first | done | with_reducible rfl)
              try simp only [Act.put, List.setIfInBounds_toArray, List.set_cons_zero, List.set_cons_succ]
              refine wpAnyH_take (i := 5) (oi := ⟨some 76, _, _, _, _, none⟩) (v := ?_) rfl (by kernel_rfl) (by kernel_rfl) (by kernel_rfl) (fun _ _ _ h => h) (Or.inl ⟨by rfl, ?_⟩) (by assumption) ?_
              case refine_2 => (intro wx hSx; (try dsimp only at hSx); go_simp; first | done | with_reducible rfl)
              try simp only [Act.put, List.setIfInBounds_toArray, List.set_cons_zero, List.set_cons_succ]
              refine wpAnyH_take (i := 6) (oi := ⟨some 77, _, _, _, _, none⟩) (v := ?_) rfl (by kernel_rfl) (by kernel_rfl) (by kernel_rfl) (fun _ _ _ h => h) (Or.inl ⟨by rfl, ?_⟩) (by assumption) ?_
              case refine_2 => (intro wx hSx; (try dsimp only at hSx); go_simp; first | done | with_reducible rfl)
              try simp only [Act.put, List.setIfInBounds_toArray, List.set_cons_zero, List.set_cons_succ]
              refine wpAnyH_take (i := 7) (oi := ⟨some 78, _, _, _, _, none⟩) (v := ?_) rfl (by kernel_rfl) (by kernel_rfl) (by kernel_rfl) (fun _ _ _ h => h) (Or.inl ⟨by rfl, ?_⟩) (by assumption) ?_
              case refine_2 => (intro wx hSx; (try dsimp only at hSx); go_simp; first | done | with_reducible rfl)
              try simp only [Act.put, List.setIfInBounds_toArray, List.set_cons_zero, List.set_cons_succ]
              refine wpAnyH_take (i := 8) (oi := ⟨some 79, _, _, _, _, none⟩) (v := ?_) rfl (by kernel_rfl) (by kernel_rfl) (by kernel_rfl) (fun _ _ _ h => h) (Or.inl ⟨by rfl, ?_⟩) (by assumption) ?_
              case refine_2 => (intro wx hSx; (try dsimp only at hSx); go_simp; first | done | with_reducible rfl)
              try simp only [Act.put, List.setIfInBounds_toArray, List.set_cons_zero, List.set_cons_succ]
              refine wpAnyH_take (i := 9) (oi := ⟨some 80, _, _, _, _, none⟩) (v := ?_) rfl (by kernel_rfl) (by kernel_rfl) (by kernel_rfl) (fun _ _ _ h => h) (Or.inl ⟨by rfl, ?_⟩) (by assumption) ?_
              case refine_2 => (intro wx hSx; (try dsimp only at hSx); go_simp; first | done | with_reducible rfl)
              try simp only [Act.put, List.setIfInBounds_toArray, List.set_cons_zero, List.set_cons_succ]
              refine wpAnyH_take (i := 10) (oi := ⟨some 81, _, _, _, _, none⟩) (v := ?_) rfl (by kernel_rfl) (by kernel_rfl) (by kernel_rfl) (fun _ _ _ h => h) (Or.inl ⟨by rfl, ?_⟩) (by assumption) ?_
              case refine_2 => (intro wx hSx; (try dsimp only at hSx); go_simp; first | done | with_reducible rfl)
              try simp only [Act.put, List.setIfInBounds_toArray, List.set_cons_zero, List.set_cons_succ]
              refine wpAnyH_take (i := 11) (oi := ⟨some 82, _, _, _, _, none⟩) (v := ?_) rfl (by kernel_rfl) (by kernel_rfl) (by kernel_rfl) (fun _ _ _ h => h) (Or.inl ⟨by rfl, ?_⟩) (by assumption) ?_
              case refine_2 => (intro wx hSx; (try dsimp only at hSx); go_simp; first | done | with_reducible rfl)
              try simp only [Act.put, List.setIfInBounds_toArray, List.set_cons_zero, List.set_cons_succ]
              refine wpAnyH_take (i := 12) (oi := ⟨some 83, _, _, _, _, none⟩) (v := ?_) rfl (by kernel_rfl) (by kernel_rfl) (by kernel_rfl) (fun _ _ _ h => h) (Or.inl ⟨by rfl, ?_⟩) (by assumption) ?_
              case refine_2 => (intro wx hSx; (try dsimp only at hSx); go_simp; first | done | with_reducible rfl)
              try simp only [Act.put, List.setIfInBounds_toArray, List.set_cons_zero, List.set_cons_succ]
              refine wpAnyH_take (i := 13) (oi := ⟨some 84, _, _, _, _, none⟩) (v := ?_) rfl (by kernel_rfl) (by kernel_rfl) (by kernel_rfl) (fun _ _ _ h => h) (Or.inl ⟨by rfl, ?_⟩) (by assumption) ?_
              case refine_2 => (intro wx hSx; (try dsimp only at hSx); go_simp; first | done | with_reducible rfl)
              try simp only [Act.put, List.setIfInBounds_toArray, List.set_cons_zero, List.set_cons_succ]
              clear xt xs HXT HB2 xm xn xw x0 x1 cc1 cc2 cc3
              refine wpAnyH_ready (rs := [14, 19]) (by kernel_rfl) (by simp) ?_
              refine AllReadyH.cons (o := ⟨some 85, _, _, _, _, none⟩) rfl (fun K hK => ?_) (AllReadyH.cons (o := ⟨some 14, _, _, _, _, none⟩) rfl (fun K hK => ?_) AllReadyH.nil)
              · go_simp
                refine (HPL.out X J0.out.m1.src.below).mono ?_
                rintro e X1 ⟨R', A, ca, B, dd, bd, hor, rfl, hU, hb⟩
                have J1 : Hid (Jn w b base base2 g4 g5 (bulC sc t cor del (.slice Ar R.length cr)) (bulC sc t cor del (.slice A2 R2.length c2)) R R2 (.slice Ar R.length cr) (.slice A2 R2.length c2) X1) := Lib.hid (J0.out.under hb)
                have HU : Hid ((bd = [] ∧ R'.length = R.length + R2.length + 1 ∨ bd = [((R.length : Int) + 1)] ∧ R'.map Rp.key = (R ++ R2).map Rp.key) ∧ (∀ Y, Up X.heap.size X1 Y → RpsIn Y (.slice A R'.length ca) R' ∧ NumsIn Y (.slice B bd.length dd) bd)) := Lib.hid ⟨hor, hU⟩
                clear hb hor hU J0 hS HPL
                go_wp2_with fail
                refine hK.out _ _ ((J1.out.r4.cell 1).trans rfl) (fun _ => ?_)
                clear hK K
                try simp only [Act.put, List.setIfInBounds_toArray, List.set_cons_zero, List.set_cons_succ]
                have hS : X1.cell? ⟨g4, 1, none⟩ = some (.int .i64 t) := ((J1.out.r4.cell 1).trans rfl)
                refine wpAnyH_take (i := 15) (oi := ⟨some 70, _, _, _, _, none⟩) (v := ?_) rfl (by kernel_rfl) (by kernel_rfl) (by kernel_rfl) (fun _ _ _ h => h) (Or.inl ⟨by rfl, ?_⟩) (by assumption) ?_
                case refine_2 => (intro wx hSx; (try dsimp only at hSx); go_simp; first | done | with_reducible rfl)
                try simp only [Act.put, List.setIfInBounds_toArray, List.set_cons_zero, List.set_cons_succ]
                refine wpAnyH_take (i := 16) (oi := ⟨some 86, _, _, _, _, none⟩) (v := ?_) rfl (by kernel_rfl) (by kernel_rfl) (by kernel_rfl) (fun _ _ _ h => h) (Or.inl ⟨by rfl, ?_⟩) (by assumption) ?_
                case refine_2 => (intro wx hSx; (try dsimp only at hSx); go_simp; first | done | with_reducible rfl)
                try simp only [Act.put, List.setIfInBounds_toArray, List.set_cons_zero, List.set_cons_succ]
                refine wpAnyH_take (i := 17) (oi := ⟨some 87, _, _, _, _, none⟩) (v := ?_) rfl (by kernel_rfl) (by kernel_rfl) (by kernel_rfl) (fun _ _ _ h => h) (Or.inl ⟨by rfl, ?_⟩) (by assumption) ?_
                case refine_2 => (intro wx hSx; (try dsimp only at hSx); go_simp; first | done | with_reducible rfl)
                try simp only [Act.put, List.setIfInBounds_toArray, List.set_cons_zero, List.set_cons_succ]
                refine wpAnyH_take (i := 18) (oi := ⟨some 88, _, _, _, _, none⟩) (v := ?_) rfl (by kernel_rfl) (by kernel_rfl) (by kernel_rfl) (fun _ _ _ h => h) (Or.inl ⟨by rfl, ?_⟩) (by assumption) ?_
                case refine_2 => (intro wx hSx; (try dsimp only at hSx); go_simp; first | done | with_reducible rfl)
                try simp only [Act.put, List.setIfInBounds_toArray, List.set_cons_zero, List.set_cons_succ]
                refine wpAnyH_ready (rs := [19]) (by kernel_rfl) (by simp) ?_
                refine AllReadyH.cons (o := ⟨some 14, _, _, _, _, none⟩) rfl (fun K hK => ?_) AllReadyH.nil
                have hb7 : Below X1.heap.size X1 (X1.alloc (.cells (bulC ⟨#[]⟩ 0 0 0 (.slice none 0 0)) 24)) := (Below.refl _ _).alloc (Nat.le_refl _) _
                have K3 := Lib.hid (⟨J1.out.under hb7, Row.new X1 (bulC ⟨#[]⟩ 0 0 0 (.slice none 0 0)) 24, (Up.refl X.heap.size X1).under hb7, ⟨Nat.ne_of_gt (src_lt J1.out.m1.src), Nat.ne_of_gt J1.out.r4.lt, Nat.ne_of_gt J1.out.r5.lt, J1.out.m1.src.below.size, .inr (Nat.le_refl _)⟩⟩ : Jn w b base base2 g4 g5 (bulC sc t cor del (.slice Ar R.length cr)) (bulC sc t cor del (.slice A2 R2.length c2)) R R2 (.slice Ar R.length cr) (.slice A2 R2.length c2) (X1.alloc (.cells (bulC ⟨#[]⟩ 0 0 0 (.slice none 0 0)) 24)) ∧ Row (X1.alloc (.cells (bulC ⟨#[]⟩ 0 0 0 (.slice none 0 0)) 24)) X1.heap.size 24 (bulC ⟨#[]⟩ 0 0 0 (.slice none 0 0)) ∧ Up X.heap.size X1 (X1.alloc (.cells (bulC ⟨#[]⟩ 0 0 0 (.slice none 0 0)) 24)) ∧ (X1.heap.size ≠ b ∧ X1.heap.size ≠ g4 ∧ X1.heap.size ≠ g5 ∧ w.heap.size ≤ X1.heap.size ∧ Aside X.heap.size X1 X1.heap.size))
                clear hb7
                go_simp
                refine hK.out _ _ ((K3.out.1.r4.cell 1).trans rfl) (fun _ => ?_)
                clear hK K J1 hS
                try simp only [Act.put, List.setIfInBounds_toArray, List.set_cons_zero, List.set_cons_succ]
                generalize X1.heap.size = ga at *
                refine El.genH (fun X2 => Jn w b base base2 g4 g5 (bulC sc t cor del (.slice Ar R.length cr)) (bulC sc t cor del (.slice A2 R2.length c2)) R R2 (.slice Ar R.length cr) (.slice A2 R2.length c2) X2 ∧ Row X2 ga 24 (bulC ⟨#[]⟩ 0 0 0 (.slice none 0 0)) ∧ Up X.heap.size X1 X2 ∧ (ga ≠ b ∧ ga ≠ g4 ∧ ga ≠ g5 ∧ w.heap.size ≤ ga ∧ Aside X.heap.size X1 ga)) K3.out ?_
                clear K3
                rintro X3 K3
                have K3 := Lib.hid K3
                have hS : X3.cell? ⟨g4, 1, none⟩ = some (.int .i64 t) := ((K3.out.1.r4.cell 1).trans rfl)
                refine wpAnyH_ready (rs := [20]) (by kernel_rfl) (by simp) ?_
                refine AllReadyH.cons (o := ⟨none, _, _, _, _, none⟩) rfl (fun K hK => ?_) AllReadyH.nil
                have f0 := K3.out.2.1.thaw 0
                have f1 := K3.out.2.1.thaw 1
                have f2 := K3.out.2.1.thaw 2
                have f3 := K3.out.2.1.thaw 3
                have f4 := K3.out.2.1.thaw 4
                obtain ⟨q0, q1, q2, q3, q4⟩ := row5 K3.out.2.1
                have L3 := Lib.hid (jn_store K3.out (.string sc) (.int .i64 t) (.int .i64 cor) (.int .i64 del) (.slice A R'.length ca))
                go_simp
                refine hK.out _ _ ((L3.out.1.r4.cell 1).trans rfl) (fun _ => ?_)
                clear hK K
                try simp only [Act.put, List.setIfInBounds_toArray, List.set_cons_zero, List.set_cons_succ]
                clear f0 f1 f2 f3 f4 q0 q1 q2 q3 q4 K3 hS
                refine El.genH (fun X => (bd = [] ∧ R'.length = R.length + R2.length + 1 ∨ bd = [((R.length : Int) + 1)] ∧ R'.map Rp.key = (R ++ R2).map Rp.key) ∧ Jn w b base base2 g4 g5 (bulC sc t cor del (.slice Ar R.length cr)) (bulC sc t cor del (.slice A2 R2.length c2)) R R2 (.slice Ar R.length cr) (.slice A2 R2.length c2) X ∧ Row X ga 24 (bulC sc t cor del (.slice A R'.length ca)) ∧ RpsIn X (.slice A R'.length ca) R' ∧ NumsIn X (.slice B bd.length dd) bd) ⟨HU.out.1, L3.out.1, L3.out.2.1, (HU.out.2 _ L3.out.2.2).1, (HU.out.2 _ L3.out.2.2).2⟩ ?_
                clear L3 HU
                rintro X4 HF
                have HF := Lib.hid HF
                have hS : X4.cell? ⟨g4, 1, none⟩ = some (.int .i64 t) := ((HF.out.2.1.r4.cell 1).trans rfl)
                refine wpAnyH_take (i := 21) (oi := ⟨some 15, _, _, _, _, none⟩) (v := ?_) rfl (by kernel_rfl) (by kernel_rfl) (by kernel_rfl) (fun _ _ _ h => h) (Or.inl ⟨by rfl, ?_⟩) (by assumption) ?_
                case refine_2 => (intro wx hSx; (try dsimp only at hSx); go_simp; first | done | with_reducible rfl)
                try simp only [Act.put, List.setIfInBounds_toArray, List.set_cons_zero, List.set_cons_succ]
                refine wpAnyH_take (i := 22) (oi := ⟨some 16, _, _, _, _, none⟩) (v := ?_) rfl (by kernel_rfl) (by kernel_rfl) (by kernel_rfl) (fun _ _ _ h => h) (Or.inl ⟨by rfl, ?_⟩) (by assumption) ?_
                case refine_2 => (intro wx hSx; (try dsimp only at hSx); go_simp; first | done | with_reducible rfl)
                try simp only [Act.put, List.setIfInBounds_toArray, List.set_cons_zero, List.set_cons_succ]
                refine wpAnyH_done (by kernel_rfl) ?_ _
                clear hS
                go_wp2_with fail
                go_meet
                exact ⟨R', A, ca, B, dd, bd, ga, rfl, rfl, rfl, HF⟩
              · have hb7 : Below X.heap.size X (X.alloc (.cells (bulC ⟨#[]⟩ 0 0 0 (.slice none 0 0)) 24)) := (Below.refl _ _).alloc (Nat.le_refl _) _
                have K2 := Lib.hid (⟨J0.out.under hb7, Row.new X (bulC ⟨#[]⟩ 0 0 0 (.slice none 0 0)) 24, ⟨Nat.ne_of_gt (src_lt J0.out.m1.src), Nat.ne_of_gt J0.out.r4.lt, Nat.ne_of_gt J0.out.r5.lt, J0.out.m1.src.below.size⟩⟩ : Jn w b base base2 g4 g5 (bulC sc t cor del (.slice Ar R.length cr)) (bulC sc t cor del (.slice A2 R2.length c2)) R R2 (.slice Ar R.length cr) (.slice A2 R2.length c2) (X.alloc (.cells (bulC ⟨#[]⟩ 0 0 0 (.slice none 0 0)) 24)) ∧ Row (X.alloc (.cells (bulC ⟨#[]⟩ 0 0 0 (.slice none 0 0)) 24)) X.heap.size 24 (bulC ⟨#[]⟩ 0 0 0 (.slice none 0 0)) ∧ (X.heap.size ≠ b ∧ X.heap.size ≠ g4 ∧ X.heap.size ≠ g5 ∧ w.heap.size ≤ X.heap.size))
                clear hb7
                go_simp
                refine hK.out _ _ ((K2.out.1.r4.cell 1).trans rfl) (fun _ => ?_)
                clear hK K J0 hS
                try simp only [Act.put, List.setIfInBounds_toArray, List.set_cons_zero, List.set_cons_succ]
                generalize X.heap.size = ga at *
                refine El.genH (fun X2 => Jn w b base base2 g4 g5 (bulC sc t cor del (.slice Ar R.length cr)) (bulC sc t cor del (.slice A2 R2.length c2)) R R2 (.slice Ar R.length cr) (.slice A2 R2.length c2) X2 ∧ Row X2 ga 24 (bulC ⟨#[]⟩ 0 0 0 (.slice none 0 0)) ∧ (ga ≠ b ∧ ga ≠ g4 ∧ ga ≠ g5 ∧ w.heap.size ≤ ga)) K2.out ?_
                clear K2
                rintro X2 K2
                have K2 := Lib.hid K2
                refine wpAnyH_ready (rs := [14]) (by kernel_rfl) (by simp) ?_
                refine AllReadyH.cons (o := ⟨some 85, _, _, _, _, none⟩) rfl (fun K hK => ?_) AllReadyH.nil
                go_simp
                refine (HPL.out X2 K2.out.1.m1.src.below).mono ?_
                rintro e X1 ⟨R', A, ca, B, dd, bd, hor, rfl, hU, hb⟩
                have K3 : Hid (Jn w b base base2 g4 g5 (bulC sc t cor del (.slice Ar R.length cr)) (bulC sc t cor del (.slice A2 R2.length c2)) R R2 (.slice Ar R.length cr) (.slice A2 R2.length c2) X1 ∧ Row X1 ga 24 (bulC ⟨#[]⟩ 0 0 0 (.slice none 0 0)) ∧ Up X2.heap.size X1 X1 ∧ (ga ≠ b ∧ ga ≠ g4 ∧ ga ≠ g5 ∧ w.heap.size ≤ ga ∧ Aside X2.heap.size X1 ga)) := Lib.hid ⟨K2.out.1.under hb, K2.out.2.1.under hb, Up.refl _ _, K2.out.2.2.1, K2.out.2.2.2.1, K2.out.2.2.2.2.1, K2.out.2.2.2.2.2, .inl K2.out.2.1.lt⟩
                have HU : Hid ((bd = [] ∧ R'.length = R.length + R2.length + 1 ∨ bd = [((R.length : Int) + 1)] ∧ R'.map Rp.key = (R ++ R2).map Rp.key) ∧ (∀ Y, Up X2.heap.size X1 Y → RpsIn Y (.slice A R'.length ca) R' ∧ NumsIn Y (.slice B bd.length dd) bd)) := Lib.hid ⟨hor, hU⟩
                clear hb hor hU HPL
                go_wp2_with fail
                refine hK.out _ _ ((K3.out.1.r4.cell 1).trans rfl) (fun _ => ?_)
                clear hK K K2
                try simp only [Act.put, List.setIfInBounds_toArray, List.set_cons_zero, List.set_cons_succ]
                refine El.genH (fun X3 => Jn w b base base2 g4 g5 (bulC sc t cor del (.slice Ar R.length cr)) (bulC sc t cor del (.slice A2 R2.length c2)) R R2 (.slice Ar R.length cr) (.slice A2 R2.length c2) X3 ∧ Row X3 ga 24 (bulC ⟨#[]⟩ 0 0 0 (.slice none 0 0)) ∧ Up X2.heap.size X1 X3 ∧ (ga ≠ b ∧ ga ≠ g4 ∧ ga ≠ g5 ∧ w.heap.size ≤ ga ∧ Aside X2.heap.size X1 ga)) K3.out ?_
                clear K3
                rintro X3 K3
                have K3 := Lib.hid K3
                have hS : X3.cell? ⟨g4, 1, none⟩ = some (.int .i64 t) := ((K3.out.1.r4.cell 1).trans rfl)
                refine wpAnyH_take (i := 15) (oi := ⟨some 70, _, _, _, _, none⟩) (v := ?_) rfl (by kernel_rfl) (by kernel_rfl) (by kernel_rfl) (fun _ _ _ h => h) (Or.inl ⟨by rfl, ?_⟩) (by assumption) ?_
                case refine_2 => (intro wx hSx; (try dsimp only at hSx); go_simp; first | done | with_reducible rfl)
                try simp only [Act.put, List.setIfInBounds_toArray, List.set_cons_zero, List.set_cons_succ]
                refine wpAnyH_take (i := 16) (oi := ⟨some 86, _, _, _, _, none⟩) (v := ?_) rfl (by kernel_rfl) (by kernel_rfl) (by kernel_rfl) (fun _ _ _ h => h) (Or.inl ⟨by rfl, ?_⟩) (by assumption) ?_
                case refine_2 => (intro wx hSx; (try dsimp only at hSx); go_simp; first | done | with_reducible rfl)
                try simp only [Act.put, List.setIfInBounds_toArray, List.set_cons_zero, List.set_cons_succ]
                refine wpAnyH_take (i := 17) (oi := ⟨some 87, _, _, _, _, none⟩) (v := ?_) rfl (by kernel_rfl) (by kernel_rfl) (by kernel_rfl) (fun _ _ _ h => h) (Or.inl ⟨by rfl, ?_⟩) (by assumption) ?_
                case refine_2 => (intro wx hSx; (try dsimp only at hSx); go_simp; first | done | with_reducible rfl)
                try simp only [Act.put, List.setIfInBounds_toArray, List.set_cons_zero, List.set_cons_succ]
                refine wpAnyH_take (i := 18) (oi := ⟨some 88, _, _, _, _, none⟩) (v := ?_) rfl (by kernel_rfl) (by kernel_rfl) (by kernel_rfl) (fun _ _ _ h => h) (Or.inl ⟨by rfl, ?_⟩) (by assumption) ?_
                case refine_2 => (intro wx hSx; (try dsimp only at hSx); go_simp; first | done | with_reducible rfl)
                try simp only [Act.put, List.setIfInBounds_toArray, List.set_cons_zero, List.set_cons_succ]
                clear hS
                have hS : X3.cell? ⟨g4, 1, none⟩ = some (.int .i64 t) := ((K3.out.1.r4.cell 1).trans rfl)
                refine wpAnyH_ready (rs := [20]) (by kernel_rfl) (by simp) ?_
                refine AllReadyH.cons (o := ⟨none, _, _, _, _, none⟩) rfl (fun K hK => ?_) AllReadyH.nil
                have f0 := K3.out.2.1.thaw 0
                have f1 := K3.out.2.1.thaw 1
                have f2 := K3.out.2.1.thaw 2
                have f3 := K3.out.2.1.thaw 3
                have f4 := K3.out.2.1.thaw 4
                obtain ⟨q0, q1, q2, q3, q4⟩ := row5 K3.out.2.1
                have L3 := Lib.hid (jn_store K3.out (.string sc) (.int .i64 t) (.int .i64 cor) (.int .i64 del) (.slice A R'.length ca))
                go_simp
                refine hK.out _ _ ((L3.out.1.r4.cell 1).trans rfl) (fun _ => ?_)
                clear hK K
                try simp only [Act.put, List.setIfInBounds_toArray, List.set_cons_zero, List.set_cons_succ]
                clear f0 f1 f2 f3 f4 q0 q1 q2 q3 q4 K3 hS
                refine El.genH (fun X => (bd = [] ∧ R'.length = R.length + R2.length + 1 ∨ bd = [((R.length : Int) + 1)] ∧ R'.map Rp.key = (R ++ R2).map Rp.key) ∧ Jn w b base base2 g4 g5 (bulC sc t cor del (.slice Ar R.length cr)) (bulC sc t cor del (.slice A2 R2.length c2)) R R2 (.slice Ar R.length cr) (.slice A2 R2.length c2) X ∧ Row X ga 24 (bulC sc t cor del (.slice A R'.length ca)) ∧ RpsIn X (.slice A R'.length ca) R' ∧ NumsIn X (.slice B bd.length dd) bd) ⟨HU.out.1, L3.out.1, L3.out.2.1, (HU.out.2 _ L3.out.2.2).1, (HU.out.2 _ L3.out.2.2).2⟩ ?_
                clear L3 HU
                rintro X4 HF
                have HF := Lib.hid HF
                have hS : X4.cell? ⟨g4, 1, none⟩ = some (.int .i64 t) := ((HF.out.2.1.r4.cell 1).trans rfl)
                refine wpAnyH_take (i := 21) (oi := ⟨some 15, _, _, _, _, none⟩) (v := ?_) rfl (by kernel_rfl) (by kernel_rfl) (by kernel_rfl) (fun _ _ _ h => h) (Or.inl ⟨by rfl, ?_⟩) (by assumption) ?_
                case refine_2 => (intro wx hSx; (try dsimp only at hSx); go_simp; first | done | with_reducible rfl)
                try simp only [Act.put, List.setIfInBounds_toArray, List.set_cons_zero, List.set_cons_succ]
                refine wpAnyH_take (i := 22) (oi := ⟨some 16, _, _, _, _, none⟩) (v := ?_) rfl (by kernel_rfl) (by kernel_rfl) (by kernel_rfl) (fun _ _ _ h => h) (Or.inl ⟨by rfl, ?_⟩) (by assumption) ?_
                case refine_2 => (intro wx hSx; (try dsimp only at hSx); go_simp; first | done | with_reducible rfl)
                try simp only [Act.put, List.setIfInBounds_toArray, List.set_cons_zero, List.set_cons_succ]
                refine wpAnyH_done (by kernel_rfl) ?_ _
                clear hS
                go_wp2_with fail
                go_meet
                exact ⟨R', A, ca, B, dd, bd, ga, rfl, rfl, rfl, HF⟩
            case rest =>
              obtain ⟨R', A, ca, B, dd, bd, ga, rfl, rfl, rfl, HF⟩ := hcut
              clear HPL H8 HXT HB2
              rcases HF.out.1 with ⟨hbd, hlen⟩ | ⟨hbd, hk⟩
              · have HG := Lib.hid HF.out.2
                clear HF
                subst hbd
                have hbq : ((R'.length : Int) == (R.length : Int) + (R2.length : Int) + 1) = true := by rw [beq_iff_eq]; omega
                clear hlen
                obtain ⟨q0, q1, q2, q3, q4⟩ := row5 HG.out.1.r4
                obtain ⟨p0, p1, p2, p3, p4⟩ := row5 HG.out.1.r5
                obtain ⟨r0, r1, r2, r3, r4⟩ := row5 HG.out.2.1
                go_wp2_with fail
                refine (awake_from (w0 := w) _ (HE.out.under HG.out.1.m1.src.below) HG.out.1.m1.src.below).mono ?_
                rintro e wA ⟨rfl, hb⟩
                have HFin := Lib.hid hb
                clear hb
                go_wp2_with fail
                go_ret
                exact ⟨rfl, HFin.out⟩
              · have HK := Lib.hid hk
                have HG := Lib.hid HF.out.2
                clear HF hk
                subst hbd
                go_upto_region 24 with fail
                have I : Hid (Jn w b base base2 g4 g5 (bulC sc t cor del (.slice Ar R.length cr)) (bulC sc t cor del (.slice A2 R2.length c2)) R R2 (.slice Ar R.length cr) (.slice A2 R2.length c2) wc.drew ∧ Row wc.drew ga 24 (bulC sc t cor del (.slice A R'.length ca)) ∧ RpsIn wc.drew (.slice A R'.length ca) R' ∧ NumsIn wc.drew (.slice B 1 dd) [((R.length : Int) + 1)]) := Lib.hid ⟨HG.out.1.under (below_drewN (Below.refl _ _) 1), HG.out.2.1.under (below_drewN (Below.refl _ _) 1), HG.out.2.2.1.under (below_drewN (Below.refl _ _) 1), HG.out.2.2.2.under (below_drewN (Below.refl _ _) 1)⟩
                refine wp_region_held_drew (S := fun Y : World => Y.cell? ⟨g4, 4, none⟩ = some (.slice Ar R.length cr) ∧ Y.cell? ⟨g5, 4, none⟩ = some (.slice A2 R2.length c2) ∧ Y.cell? ⟨ga, 4, none⟩ = some (.slice A R'.length ca)) (by kernel_rfl) ⟨(I.out.1.r4.cell 4).trans rfl, (I.out.1.r5.cell 4).trans rfl, (I.out.2.1.cell 4).trans rfl⟩ (fun hS => ?_)
                clear HG
                generalize wc.drew = X at *
                have xw : IntKind.i64.wrap ((R.length : Int) + 1) = (R.length : Int) + 1 := IntWalk.i64_in _ (by omega)
                refine wpAnyH_take (i := 0) (oi := ⟨some 109, _, _, _, _, none⟩) (v := ?_) rfl (by kernel_rfl) (by kernel_rfl) (by kernel_rfl) (fun _ _ _ h => h) (Or.inl ⟨by rfl, ?_⟩) (by assumption) ?_
                case refine_2 => (intro wx hSx; (try dsimp only at hSx); go_simp; first | done | with_reducible rfl)
                try simp only [Act.put, List.setIfInBounds_toArray, List.set_cons_zero, List.set_cons_succ]
                refine wpAnyH_take (i := 1) (oi := ⟨some 110, _, _, _, _, none⟩) (v := ?_) rfl (by kernel_rfl) (by kernel_rfl) (by kernel_rfl) (fun _ _ _ h => h) (Or.inl ⟨by rfl, ?_⟩) (by assumption) ?_
                case refine_2 => (intro wx hSx; (try dsimp only at hSx); go_simp; first | done | with_reducible rfl)
                try simp only [Act.put, List.setIfInBounds_toArray, List.set_cons_zero, List.set_cons_succ]
                refine wpAnyH_take (i := 2) (oi := ⟨some 111, _, _, _, _, none⟩) (v := ?_) rfl (by kernel_rfl) (by kernel_rfl) (by kernel_rfl) (fun _ _ _ h => h) (Or.inl ⟨by rfl, ?_⟩) (by assumption) ?_
                case refine_2 => (intro wx hSx; (try dsimp only at hSx); go_simp; first | done | with_reducible rfl)
                try simp only [Act.put, List.setIfInBounds_toArray, List.set_cons_zero, List.set_cons_succ]
                refine wpAnyH_take (i := 3) (oi := ⟨some 112, _, _, _, _, none⟩) (v := ?_) rfl (by kernel_rfl) (by kernel_rfl) (by kernel_rfl) (fun _ _ _ h => h) (Or.inl ⟨by rfl, ?_⟩) (by assumption) ?_
                case refine_2 => (intro wx hSx; (try dsimp only at hSx); go_simp; first | done | with_reducible rfl)
                try simp only [Act.put, List.setIfInBounds_toArray, List.set_cons_zero, List.set_cons_succ]
                refine wpAnyH_take (i := 4) (oi := ⟨some 113, _, _, _, _, none⟩) (v := ?_) rfl (by kernel_rfl) (by kernel_rfl) (by kernel_rfl) (fun _ _ _ h => h) (Or.inl ⟨by rfl, ?_⟩) (by assumption) ?_
                case refine_2 => (intro wx hSx; (try dsimp only at hSx); go_simp; first | done | with_reducible rfl)
                try simp only [Act.put, List.setIfInBounds_toArray, List.set_cons_zero, List.set_cons_succ]
                refine wpAnyH_ready (rs := [5]) (by kernel_rfl) (by simp) ?_
                refine AllReadyH.cons (o := ⟨some 114, _, _, _, _, none⟩) rfl (fun K hK => ?_) AllReadyH.nil
                have hb3 : Below X.heap.size X (X.alloc (.cells #[.int .i64 ((R.length : Int) + 1)] 3)) := (Below.refl _ _).alloc (Nat.le_refl _) _
                have I1 : Hid (Jn w b base base2 g4 g5 (bulC sc t cor del (.slice Ar R.length cr)) (bulC sc t cor del (.slice A2 R2.length c2)) R R2 (.slice Ar R.length cr) (.slice A2 R2.length c2) (X.alloc (.cells #[.int .i64 ((R.length : Int) + 1)] 3)) ∧ Row (X.alloc (.cells #[.int .i64 ((R.length : Int) + 1)] 3)) ga 24 (bulC sc t cor del (.slice A R'.length ca)) ∧ RpsIn (X.alloc (.cells #[.int .i64 ((R.length : Int) + 1)] 3)) (.slice A R'.length ca) R' ∧ NumsIn (X.alloc (.cells #[.int .i64 ((R.length : Int) + 1)] 3)) (.slice B 1 dd) [((R.length : Int) + 1)]) := Lib.hid ⟨I.out.1.under hb3, I.out.2.1.under hb3, I.out.2.2.1.under hb3, I.out.2.2.2.under hb3⟩
                have HI := Lib.hid (ints_yes (.slice B 1 dd) (.slice (some ⟨X.heap.size, 0, none⟩) 1 1) [((R.length : Int) + 1)] _ I1.out.2.2.2 (NumsIn.one (Row.new X #[.int .i64 ((R.length : Int) + 1)] 3)))
                clear hb3
                go_simp
                refine hK.out _ _ ⟨(I1.out.1.r4.cell 4).trans rfl, (I1.out.1.r5.cell 4).trans rfl, (I1.out.2.1.cell 4).trans rfl⟩ (fun _ => ?_)
                clear hK K I hS
                try simp only [Act.put, List.setIfInBounds_toArray, List.set_cons_zero, List.set_cons_succ]
                have hS : (X.alloc (.cells #[.int .i64 ((R.length : Int) + 1)] 3)).cell? ⟨g4, 4, none⟩ = some (.slice Ar R.length cr) ∧ (X.alloc (.cells #[.int .i64 ((R.length : Int) + 1)] 3)).cell? ⟨g5, 4, none⟩ = some (.slice A2 R2.length c2) ∧ (X.alloc (.cells #[.int .i64 ((R.length : Int) + 1)] 3)).cell? ⟨ga, 4, none⟩ = some (.slice A R'.length ca) := ⟨(I1.out.1.r4.cell 4).trans rfl, (I1.out.1.r5.cell 4).trans rfl, (I1.out.2.1.cell 4).trans rfl⟩
                refine wpAnyH_ready (rs := [6]) (by kernel_rfl) (by simp) ?_
                refine AllReadyH.cons (o := ⟨some 115, _, _, _, _, none⟩) rfl (fun K hK => ?_) AllReadyH.nil
                go_simp
                refine HI.out.mono ?_
                rintro e X2 ⟨rfl, hb⟩
                have I2 : Hid (Jn w b base base2 g4 g5 (bulC sc t cor del (.slice Ar R.length cr)) (bulC sc t cor del (.slice A2 R2.length c2)) R R2 (.slice Ar R.length cr) (.slice A2 R2.length c2) X2 ∧ Row X2 ga 24 (bulC sc t cor del (.slice A R'.length ca)) ∧ RpsIn X2 (.slice A R'.length ca) R' ∧ NumsIn X2 (.slice B 1 dd) [((R.length : Int) + 1)]) := Lib.hid ⟨I1.out.1.under hb, I1.out.2.1.under hb, I1.out.2.2.1.under hb, I1.out.2.2.2.under hb⟩
                clear hb HI I1 hS
                go_wp2_with fail
                refine hK.out _ _ ⟨(I2.out.1.r4.cell 4).trans rfl, (I2.out.1.r5.cell 4).trans rfl, (I2.out.2.1.cell 4).trans rfl⟩ (fun _ => ?_)
                clear hK K
                try simp only [Act.put, List.setIfInBounds_toArray, List.set_cons_zero, List.set_cons_succ]
                have hS : X2.cell? ⟨g4, 4, none⟩ = some (.slice Ar R.length cr) ∧ X2.cell? ⟨g5, 4, none⟩ = some (.slice A2 R2.length c2) ∧ X2.cell? ⟨ga, 4, none⟩ = some (.slice A R'.length ca) := ⟨(I2.out.1.r4.cell 4).trans rfl, (I2.out.1.r5.cell 4).trans rfl, (I2.out.2.1.cell 4).trans rfl⟩
                refine wpAnyH_take (i := 7) (oi := ⟨some 116, _, _, _, _, none⟩) (v := ?_) rfl (by kernel_rfl) (by kernel_rfl) (by kernel_rfl) (fun _ _ _ h => h) (Or.inl ⟨by rfl, ?_⟩) (by assumption) ?_
                case refine_2 => (intro wx hSx; (try dsimp only at hSx); go_simp; first | done | with_reducible rfl)
                try simp only [Act.put, List.setIfInBounds_toArray, List.set_cons_zero, List.set_cons_succ]
                refine wpAnyH_take (i := 8) (oi := ⟨some 117, _, _, _, _, some _⟩) (v := ?_) rfl (by kernel_rfl) (by kernel_rfl) (by kernel_rfl) (fun _ _ _ h => h) (Or.inl ⟨by rfl, ?_⟩) (by assumption) ?_
                case refine_2 => (intro wx hSx; (try dsimp only at hSx); go_simp; first | done | with_reducible rfl)
                try simp only [Act.put, List.setIfInBounds_toArray, List.set_cons_zero, List.set_cons_succ]
                refine wpAnyH_take (i := 9) (oi := ⟨some 118, _, _, _, _, some _⟩) (v := ?_) rfl (by kernel_rfl) (by kernel_rfl) (by kernel_rfl) (fun _ _ _ h => h) (Or.inl ⟨by rfl, ?_⟩) (by assumption) ?_
                case refine_2 => (intro wx hSx; (try dsimp only at hSx); go_simp; first | done | with_reducible rfl)
                try simp only [Act.put, List.setIfInBounds_toArray, List.set_cons_zero, List.set_cons_succ]
                refine wpAnyH_take (i := 11) (oi := ⟨some 120, _, _, _, _, some _⟩) (v := ?_) rfl (by kernel_rfl) (by kernel_rfl) (by kernel_rfl) (fun _ _ _ h => h) (Or.inl ⟨by rfl, ?_⟩) (by assumption) ?_
                case refine_2 => (intro wx hSx; (try dsimp only at hSx); go_simp; first | done | with_reducible rfl)
                try simp only [Act.put, List.setIfInBounds_toArray, List.set_cons_zero, List.set_cons_succ]
                refine wpAnyH_take (i := 12) (oi := ⟨some 121, _, _, _, _, some _⟩) (v := ?_) rfl (by kernel_rfl) (by kernel_rfl) (by kernel_rfl) (fun _ _ _ h => h) (Or.inl ⟨by rfl, ?_⟩) (by assumption) ?_
                case refine_2 => (intro wx hSx; (try dsimp only at hSx); go_simp; first | done | with_reducible rfl)
                try simp only [Act.put, List.setIfInBounds_toArray, List.set_cons_zero, List.set_cons_succ]
                refine wpAnyH_take (i := 14) (oi := ⟨some 123, _, _, _, _, some _⟩) (v := ?_) rfl (by kernel_rfl) (by kernel_rfl) (by kernel_rfl) (fun _ _ _ h => h) (Or.inl ⟨by rfl, ?_⟩) (by assumption) ?_
                case refine_2 => (intro wx hSx; (try dsimp only at hSx); go_simp; first | done | with_reducible rfl)
                try simp only [Act.put, List.setIfInBounds_toArray, List.set_cons_zero, List.set_cons_succ]
                refine wpAnyH_take (i := 15) (oi := ⟨some 124, _, _, _, _, some _⟩) (v := ?_) rfl (by kernel_rfl) (by kernel_rfl) (by kernel_rfl) (fun _ _ _ h => h) (Or.inl ⟨by rfl, ?_⟩) (by assumption) ?_
                case refine_2 => (intro wx hSx; (try dsimp only at hSx); go_simp; first | done | with_reducible rfl)
                try simp only [Act.put, List.setIfInBounds_toArray, List.set_cons_zero, List.set_cons_succ]
                clear hS
                obtain ⟨i0, hi, hz0, hz1, hz2⟩ := info_parts infoReport
                refine wpAnyH_ready (rs := [10]) (by kernel_rfl) (by simp) ?_
                refine AllReadyH.cons (o := ⟨some 119, _, _, _, _, some _⟩) rfl (fun K hK => ?_) AllReadyH.nil
                have hb7 : Below X2.heap.size X2 (X2.alloc (.cells #[] 53)) := (Below.refl _ _).alloc (Nat.le_refl _) _
                have K3 := Lib.hid (⟨hb7, own_empty X2 53 8⟩ : Below X2.heap.size X2 (X2.alloc (.cells #[] 53)) ∧ (X2.alloc (.cells #[] 53)).ownsRow X2.heap.size 53 8 (.slice (some ⟨X2.heap.size, 0, none⟩) 0 0) (0) ([]))
                clear hb7
                go_simp
                refine hK.out _ _ ⟨((I2.out.1.r4.under K3.out.1).cell 4).trans rfl, ((I2.out.1.r5.under K3.out.1).cell 4).trans rfl, ((I2.out.2.1.under K3.out.1).cell 4).trans rfl⟩ (fun _ => ?_)
                clear hK K
                try simp only [Act.put, List.setIfInBounds_toArray, List.set_cons_zero, List.set_cons_succ]
                refine El.genH (fun Y => Below X2.heap.size X2 Y ∧ Y.ownsRow X2.heap.size 53 8 (.slice (some ⟨X2.heap.size, 0, none⟩) 0 0) (0) ([])) K3.out ?_
                clear K3
                rintro X3 K3
                have K3 := Lib.hid K3
                refine wpAnyH_ready (rs := [13]) (by kernel_rfl) (by simp) ?_
                refine AllReadyH.cons (o := ⟨some 122, _, _, _, _, some _⟩) rfl (fun K hK => ?_) AllReadyH.nil
                have N1 := own_news I2.out.1.m1.own
                have ad1 : ∀ ad, Ar = some ad → ∀ (j : Nat) (u : Value), (rpc R)[j]? = some u → X3.cell? (ad.add j) = some u := (own_news (own_heap I2.out.1.m1.own (fun i hi => K3.out.1.block i (row_size I2.out.1.m1.own hi)))).2
                have fm1 : ∀ r ∈ R, ∃ A n c, r.u = .slice A n c := fun r hr => by obtain ⟨base', -, ho⟩ := I2.out.1.m1.rds r hr; obtain ⟨A, c, e⟩ := row_form ho; exact ⟨A, _, c, e⟩
                refine step_append_opt (by rfl) (.tmp 119) (.tmp 121) 22 rfl X2.heap.size 53 i0 (repV 0 ⟨#[]⟩ 0 0 0 0 0 (.slice none 0 0)) 8 88 Tryz.underlying22 hi hz0 hz1 hz2 rfl (by decide) _ 0 [] rfl K3.out.2 Ar R.length cr (rpc R) rfl I2.out.1.m1.own.1 N1.1 ad1 (rpc_one R fm1) (by unfold maxLen; omega) (by omega) K3.out.1.size ?_
                intro v1 X4 ho1 hg1
                rw [Nat.zero_add, List.nil_append] at ho1
                have K4 := Lib.hid (⟨K3.out.1.grown hg1 K3.out.1.size (fun j ej => row_base K3.out.2 ej), ho1⟩ : Below X2.heap.size X2 X4 ∧ X4.ownsRow X2.heap.size 53 8 (v1) (R.length) (rpc R))
                clear K3 hg1 ho1 ad1 N1 fm1
                refine hK.out _ _ ⟨((I2.out.1.r4.under K4.out.1).cell 4).trans rfl, ((I2.out.1.r5.under K4.out.1).cell 4).trans rfl, ((I2.out.2.1.under K4.out.1).cell 4).trans rfl⟩ (fun _ => ?_)
                clear hK K
                obtain ⟨A4, c4, e4⟩ := row_form K4.out.2
                subst e4
                try simp only [Act.put, List.setIfInBounds_toArray, List.set_cons_zero, List.set_cons_succ]
                refine wpAnyH_ready (rs := [16]) (by kernel_rfl) (by simp) ?_
                refine AllReadyH.cons (o := ⟨some 125, _, _, _, _, some _⟩) rfl (fun K hK => ?_) AllReadyH.nil
                have N2 := own_news I2.out.1.m2.own
                have ad2 : ∀ ad, A2 = some ad → ∀ (j : Nat) (u : Value), (rpc R2)[j]? = some u → X4.cell? (ad.add j) = some u := (own_news (own_heap I2.out.1.m2.own (fun i hi => K4.out.1.block i (row_size I2.out.1.m2.own hi)))).2
                have fm2 : ∀ r ∈ R2, ∃ A n c, r.u = .slice A n c := fun r hr => by obtain ⟨base', -, ho⟩ := I2.out.1.m2.rds r hr; obtain ⟨A, c, e⟩ := row_form ho; exact ⟨A, _, c, e⟩
                refine step_append_opt (by rfl) (.tmp 122) (.tmp 124) 22 rfl X2.heap.size 53 i0 (repV 0 ⟨#[]⟩ 0 0 0 0 0 (.slice none 0 0)) 8 88 Tryz.underlying22 hi hz0 hz1 hz2 rfl (by decide) (.slice A4 R.length c4) R.length (rpc R) rfl K4.out.2 A2 R2.length c2 (rpc R2) rfl I2.out.1.m2.own.1 N2.1 ad2 (rpc_one R2 fm2) (by unfold maxLen; omega) (by omega) K4.out.1.size ?_
                intro v2 X5 ho2 hg2
                rw [show rpc R ++ rpc R2 = rpc (R ++ R2) by simp [rpc]] at ho2
                obtain ⟨N, hN⟩ : ∃ N, R.length + R2.length = N := ⟨_, rfl⟩
                rw [hN] at ho2
                have HNN := Lib.hid hN
                clear hN
                have K5 := Lib.hid (⟨K4.out.1.grown hg2 K4.out.1.size (fun j ej => row_base K4.out.2 ej), ho2⟩ : Below X2.heap.size X2 X5 ∧ X5.ownsRow X2.heap.size 53 8 (v2) (N) (rpc (R ++ R2)))
                clear K4 hg2 ho2 ad2 N2 fm2
                refine hK.out _ _ ⟨((I2.out.1.r4.under K5.out.1).cell 4).trans rfl, ((I2.out.1.r5.under K5.out.1).cell 4).trans rfl, ((I2.out.2.1.under K5.out.1).cell 4).trans rfl⟩ (fun _ => ?_)
                clear hK K
                obtain ⟨A5, c5, e5⟩ := row_form K5.out.2
                subst e5
                try simp only [Act.put, List.setIfInBounds_toArray, List.set_cons_zero, List.set_cons_succ]
                have hrd : ∀ r ∈ R ++ R2, El.RdIn X5 r.u r.L := fun r hr => by
                  rcases List.mem_append.1 hr with q | q
                  · obtain ⟨base', -, ho⟩ := I2.out.1.m1.rds r q
                    exact (El.RdIn.own ho).under K5.out.1
                  · obtain ⟨base', -, ho⟩ := I2.out.1.m2.rds r q
                    exact (El.RdIn.own ho).under K5.out.1
                have HSA := Lib.hid (sameAll_yes _ _ R' (R ++ R2) X5 (I2.out.2.2.1.under K5.out.1) (RpsIn.own (R := R ++ R2) (by rw [List.length_append, HNN.out]; exact K5.out.2) hrd) HK.out)
                clear hrd HNN
                refine wpAnyH_ready (rs := [17]) (by kernel_rfl) (by simp) ?_
                refine AllReadyH.cons (o := ⟨some 126, _, _, _, _, some _⟩) rfl (fun K hK => ?_) AllReadyH.nil
                go_simp
                refine HSA.out.mono ?_
                rintro e X6 ⟨rfl, hb⟩
                have K6 := Lib.hid (⟨(K5.out.1.trans (hb.mono K5.out.1.size)), I2.out.1.m1.src.below.trans ((K5.out.1.trans (hb.mono K5.out.1.size)).mono I2.out.1.m1.src.below.size)⟩ : Below X2.heap.size X2 X6 ∧ Below w.heap.size w X6)
                clear hb HSA K5
                go_wp2_with fail
                refine hK.out _ _ ⟨((I2.out.1.r4.under K6.out.1).cell 4).trans rfl, ((I2.out.1.r5.under K6.out.1).cell 4).trans rfl, ((I2.out.2.1.under K6.out.1).cell 4).trans rfl⟩ (fun _ => ?_)
                clear hK K
                try simp only [Act.put, List.setIfInBounds_toArray, List.set_cons_zero, List.set_cons_succ]
                have hS : X6.cell? ⟨g4, 4, none⟩ = some (.slice Ar R.length cr) ∧ X6.cell? ⟨g5, 4, none⟩ = some (.slice A2 R2.length c2) ∧ X6.cell? ⟨ga, 4, none⟩ = some (.slice A R'.length ca) := ⟨((I2.out.1.r4.under K6.out.1).cell 4).trans rfl, ((I2.out.1.r5.under K6.out.1).cell 4).trans rfl, ((I2.out.2.1.under K6.out.1).cell 4).trans rfl⟩
                refine wpAnyH_take (i := 18) (oi := ⟨some 127, _, _, _, _, none⟩) (v := ?_) rfl (by kernel_rfl) (by kernel_rfl) (by kernel_rfl) (fun _ _ _ h => h) (Or.inl ⟨by rfl, ?_⟩) (by assumption) ?_
                case refine_2 => (intro wx hSx; (try dsimp only at hSx); go_simp; first | done | with_reducible rfl)
                try simp only [Act.put, List.setIfInBounds_toArray, List.set_cons_zero, List.set_cons_succ]
                refine wpAnyH_take (i := 19) (oi := ⟨some 128, _, _, _, _, none⟩) (v := ?_) rfl (by kernel_rfl) (by kernel_rfl) (by kernel_rfl) (fun _ _ _ h => h) (Or.inl ⟨by rfl, ?_⟩) (by assumption) ?_
                case refine_2 => (intro wx hSx; (try dsimp only at hSx); go_simp; first | done | with_reducible rfl)
                try simp only [Act.put, List.setIfInBounds_toArray, List.set_cons_zero, List.set_cons_succ]
                clear hS
                refine wpAnyH_ready (rs := [20]) (by kernel_rfl) (by simp) ?_
                refine AllReadyH.cons (o := ⟨some 129, _, _, _, _, some _⟩) rfl (fun K hK => ?_) AllReadyH.nil
                go_simp
                refine (awake_from (w0 := X6) X6 (HE.out.under K6.out.2) (Below.refl _ _)).mono ?_
                rintro e X7 ⟨rfl, hb⟩
                have K7 := Lib.hid (⟨K6.out.1.trans (hb.mono K6.out.1.size), K6.out.2.trans (hb.mono K6.out.2.size)⟩ : Below X2.heap.size X2 X7 ∧ Below w.heap.size w X7)
                clear hb K6
                go_wp2_with fail
                refine hK.out _ _ ⟨((I2.out.1.r4.under K7.out.1).cell 4).trans rfl, ((I2.out.1.r5.under K7.out.1).cell 4).trans rfl, ((I2.out.2.1.under K7.out.1).cell 4).trans rfl⟩ (fun _ => ?_)
                clear hK K
                try simp only [Act.put, List.setIfInBounds_toArray, List.set_cons_zero, List.set_cons_succ]
                have hS : X7.cell? ⟨g4, 4, none⟩ = some (.slice Ar R.length cr) ∧ X7.cell? ⟨g5, 4, none⟩ = some (.slice A2 R2.length c2) ∧ X7.cell? ⟨ga, 4, none⟩ = some (.slice A R'.length ca) := ⟨((I2.out.1.r4.under K7.out.1).cell 4).trans rfl, ((I2.out.1.r5.under K7.out.1).cell 4).trans rfl, ((I2.out.2.1.under K7.out.1).cell 4).trans rfl⟩
                refine wpAnyH_take (i := 21) (oi := ⟨some 130, _, _, _, _, none⟩) (v := ?_) rfl (by kernel_rfl) (by kernel_rfl) (by kernel_rfl) (fun _ _ _ h => h) (Or.inl ⟨by rfl, ?_⟩) (by assumption) ?_
                case refine_2 => (intro wx hSx; (try dsimp only at hSx); go_simp; first | done | with_reducible rfl)
                try simp only [Act.put, List.setIfInBounds_toArray, List.set_cons_zero, List.set_cons_succ]
                refine wpAnyH_take (i := 22) (oi := ⟨some 4, _, _, _, _, none⟩) (v := ?_) rfl (by kernel_rfl) (by kernel_rfl) (by kernel_rfl) (fun _ _ _ h => h) (Or.inl ⟨by rfl, ?_⟩) (by assumption) ?_
                case refine_2 => (intro wx hSx; (try dsimp only at hSx); go_simp; first | done | with_reducible rfl)
                try simp only [Act.put, List.setIfInBounds_toArray, List.set_cons_zero, List.set_cons_succ]
                refine wpAnyH_done (by kernel_rfl) ?_ _
                clear hS
                go_wp2_with fail
                go_ret
                exact ⟨rfl, K7.out.2⟩
  · have k60 : (60 : Int) < (ln.size : Int) := by omega
    go_enter Tryz.func8, Tryz.ntmps8
    go_wp2_with fail
    refine (awake_from (w0 := w) w HE.out (Below.refl _ _)).mono ?_
    rintro e wA ⟨rfl, hb⟩
    have HFin := Lib.hid hb
    clear hb
    go_wp2_with fail
    go_ret
    exact ⟨rfl, HFin.out⟩
end Go.Proofs.YtfnlgfacadmjpaaGreatDoor.Bu
