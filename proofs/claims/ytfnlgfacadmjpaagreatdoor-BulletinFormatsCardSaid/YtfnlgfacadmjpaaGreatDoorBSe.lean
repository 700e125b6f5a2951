/- slices.EqualFunc at reports. The program's Same of any two bulletins. -/
import Derived.Test.YtfnlgfacadmjpaaGreatDoorBSc
namespace Go.Proofs.YtfnlgfacadmjpaaGreatDoor.Bu
open Go.RowKit

set_option maxRecDepth 100000 in
set_option maxHeartbeats 4000000 in
theorem equalFunc_any (u v : Value) (R R' : List Rp) (w : World) (hu : RpsIn w u R) (hv : RpsIn w v R') :
    Calls Tryz.prog 49 #[u, v, .func (.func 50) #[] #[]] w fun e w' => e = .returned (.bool (decide (R.map Rp.key = R'.map Rp.key))) ∧ Below w.heap.size w w' := by
  have HU := Lib.hid hu
  have HV := Lib.hid hv
  obtain ⟨A, cap, rfl, h1, h2, -⟩ := hu
  obtain ⟨B, cab, rfl, h3, h4, -⟩ := hv
  obtain ⟨Z, hZ⟩ : ∃ Z, decide (R.map Rp.key = R'.map Rp.key) = Z := ⟨_, rfl⟩
  rw [hZ]
  by_cases hlen : R'.length = R.length
  · have HL := Lib.hid hlen
    have HZ := Lib.hid hZ
    rw [hlen] at h3 ⊢
    clear hlen hZ
    go_enter Tryz.func49, Tryz.ntmps49
    go_wp2_with fail
    go_loopw [17] (fun t Y => ∃ k : Nat, k ≤ R.length ∧ t = .int .i64 k ∧ Hid (Below w.heap.size w Y) ∧ Hid ((R.take k).map Rp.key = (R'.take k).map Rp.key)) (fun t _ => R.length - (intOf t).toNat)
    case atStart => exact ⟨0, Nat.zero_le _, rfl, Lib.hid (Below.refl _ _), Lib.hid rfl⟩
    case round =>
      obtain ⟨k, hk, rfl, M, HT⟩ := hrel
      by_cases hlt : k < R.length
      · have k0 : (0 : Int) ≤ (k : Int) := by omega
        have k1 : (k : Int) < (R.length : Int) := by omega
        have hlt' : k < R'.length := by have := HL.out; omega
        obtain ⟨A', cap', ea, -, -, h4⟩ := (HU.out.under M.out)
        injection ea with ea el ec
        clear el
        subst ea
        subst ec
        obtain ⟨g, off, rfl, hgl, h8, hrd⟩ := h4 k hlt
        obtain ⟨B', cab', eb, -, -, h4'⟩ := (HV.out.under M.out)
        injection eb with eb el ed
        clear el
        subst eb
        subst ed
        obtain ⟨g', off', rfl, hgl', h8', hrd'⟩ := h4' k hlt'
        have HST := Lib.hid (fun hkk : R[k].key = R'[k].key => keys_step hlt hlt' HT.out hkk)
        have HNO := Lib.hid (fun hkk : R[k].key ≠ R'[k].key => keys_no hlt hlt' hkk)
        obtain ⟨rk, hrk0⟩ : ∃ rk, R[k] = rk := ⟨_, rfl⟩
        obtain ⟨rk', hrk0'⟩ : ∃ rk, R'[k] = rk := ⟨_, rfl⟩
        rw [hrk0] at h8 hrd HST HNO
        rw [hrk0'] at h8' hrd' HST HNO
        clear hrk0 hrk0' h4 h4'
        obtain ⟨kk, nm, tt, F, A0, B0, C, uu, L⟩ := rk
        obtain ⟨kk', nm', tt', F', A0', B0', C', uu', L'⟩ := rk'
        obtain ⟨Au, cu, eu, -⟩ := id hrd
        obtain ⟨Au', cu', eu', -⟩ := id hrd'
        simp only at eu eu' hrd hrd'
        subst eu; subst eu'
        obtain ⟨bz, hbz⟩ : ∃ bz, decide (Rp.key ⟨kk, nm, tt, F, A0, B0, C, .slice Au L.length cu, L⟩ = Rp.key ⟨kk', nm', tt', F', A0', B0', C', .slice Au' L'.length cu', L'⟩) = bz := ⟨_, rfl⟩
        have HBZ := Lib.hid hbz
        have HSm := Lib.hid (fun Y (hY : Below wr.heap.size wr Y) => same_any kk nm tt F A0 B0 C (.slice Au L.length cu) L kk' nm' tt' F' A0' B0' C' (.slice Au' L'.length cu') L' Y (hrd.under hY) (hrd'.under hY))
        have HDE := Lib.hid (show decide (Eqr kk nm tt F A0 B0 C L kk' nm' tt' F' A0' B0' C' L') = bz by
          rw [← hbz, decide_eq_decide]; unfold Eqr Rp.key; simp only [Prod.mk.injEq])
        obtain ⟨c0, c1, c2, c3, c4, c5, c6, c7⟩ := id h8
        have H8 := Lib.hid h8'
        have HGL := Lib.hid hgl'
        simp only at c0 c1 c2 c3 c4 c5 c6 c7
        have b1 : Below wr.heap.size wr (wr.alloc (.cells (repC kk nm tt F A0 B0 C (.slice Au L.length cu)) 53)) := (Below.refl _ _).alloc (Nat.le_refl _) _
        have HB1 := Lib.hid (⟨b1, Row.new _ _ _⟩ : Below wr.heap.size wr (wr.alloc (.cells (repC kk nm tt F A0 B0 C (.slice Au L.length cu)) 53)) ∧ Row (wr.alloc (.cells (repC kk nm tt F A0 B0 C (.slice Au L.length cu)) 53)) wr.heap.size 53 (repC kk nm tt F A0 B0 C (.slice Au L.length cu)))
        clear hrd hrd' hgl hgl' h8 h8' hbz b1
        go_upto_region 6 with fail
        refine forget (fun V => Hid (Below wr.heap.size wr V ∧ Row V wr.heap.size 53 (repC kk nm tt F A0 B0 C (.slice Au L.length cu)))) HB1 ?_
        clear HB1 c0 c1 c2 c3 c4 c5 c6 c7
        intro Y HB1
        obtain ⟨c0, c1, c2, c3, c4, c5, c6, c7⟩ := H8.out.under HGL.out HB1.out.1
        simp only at c0 c1 c2 c3 c4 c5 c6 c7
        have b2 : Below Y.heap.size Y (Y.alloc (.cells (repC kk' nm' tt' F' A0' B0' C' (.slice Au' L'.length cu')) 53)) := (Below.refl _ _).alloc (Nat.le_refl _) _
        have HB2 := Lib.hid (⟨HB1.out.1.trans (b2.mono HB1.out.1.size), HB1.out.2.under b2, Row.new _ _ _⟩ : Below wr.heap.size wr (Y.alloc (.cells (repC kk' nm' tt' F' A0' B0' C' (.slice Au' L'.length cu')) 53)) ∧ Row (Y.alloc (.cells (repC kk' nm' tt' F' A0' B0' C' (.slice Au' L'.length cu')) 53)) wr.heap.size 53 (repC kk nm tt F A0 B0 C (.slice Au L.length cu)) ∧ Row (Y.alloc (.cells (repC kk' nm' tt' F' A0' B0' C' (.slice Au' L'.length cu')) 53)) Y.heap.size 53 (repC kk' nm' tt' F' A0' B0' C' (.slice Au' L'.length cu')))
        clear b2 HB1
        go_upto_region 7 with fail
        refine forget (fun V => Hid (Below wr.heap.size wr V ∧ Row V wr.heap.size 53 (repC kk nm tt F A0 B0 C (.slice Au L.length cu)) ∧ Row V Y.heap.size 53 (repC kk' nm' tt' F' A0' B0' C' (.slice Au' L'.length cu')))) HB2 ?_
        clear HB2 c0 c1 c2 c3 c4 c5 c6 c7
        generalize Y.heap.size = gy at *
        clear Y
        intro Y HB
        obtain ⟨p0, p1, p2, p3, p4, p5, p6, p7⟩ := row8 HB.out.2.1
        obtain ⟨d0, d1, d2, d3, d4, d5, d6, d7⟩ := row8 HB.out.2.2
        go_wp2_with fail
        refine (HSm.out _ HB.out.1).mono ?_
        rintro e w3 ⟨rfl, hb⟩
        have M3 : Hid (Below w.heap.size w w3) := Lib.hid ((M.out.trans (HB.out.1.mono M.out.size)).trans (hb.mono (Nat.le_trans M.out.size HB.out.1.size)))
        rw [HDE.out]
        clear hb M HB HSm p0 p1 p2 p3 p4 p5 p6 p7 d0 d1 d2 d3 d4 d5 d6 d7
        cases bz
        · go_wp2_with fail
          go_ret
          exact ⟨by rw [← HZ.out, decide_eq_false (HNO.out (of_decide_eq_false HBZ.out))]; rfl, M3.out⟩
        · go_wp2_with fail
          go_roundw
          case rel => exact ⟨k + 1, by omega, by go_num, M3, Lib.hid (HST.out (of_decide_eq_true HBZ.out))⟩
          case measure => simp [intOf]; omega
      · have k1 : ¬ (k : Int) < (R.length : Int) := by omega
        have HE := Lib.hid (show R.map Rp.key = R'.map Rp.key by
          have h := HT.out
          rwa [List.take_of_length_le (by omega), List.take_of_length_le (by have := HL.out; omega)] at h)
        go_wp2_with fail
        go_ret
        exact ⟨by rw [← HZ.out, decide_eq_true HE.out]; rfl, M.out⟩
  · have hne : ((R.length : Int) != (R'.length : Int)) = true := by rw [bne_iff_ne]; omega
    have HZ := Lib.hid (show Z = false by rw [← hZ]; exact decide_eq_false (fun e => hlen (by have := congrArg List.length e; simpa using this.symm)))
    clear hZ hlen
    go_enter Tryz.func49, Tryz.ntmps49
    go_wp2_with fail
    go_ret
    exact ⟨by rw [HZ.out]; rfl, Below.refl _ _⟩
end Go.Proofs.YtfnlgfacadmjpaaGreatDoor.Bu
namespace Go.Proofs.YtfnlgfacadmjpaaGreatDoor.Bu
open Go.RowKit

set_option maxRecDepth 100000 in
set_option maxHeartbeats 4000000 in
theorem same6p_any (c : ByteArray) (t cor del : Int) (c' : ByteArray) (t' cor' del' : Int) (u v : Value) (R R' : List Rp) (w : World) (hu : RpsIn w u R) (hv : RpsIn w v R') :
    Calls Tryz.prog 19 #[bulV c t cor del u, bulV c' t' cor' del' v] w fun e w' => e = .returned (.bool (sm6 c t cor del R c' t' cor' del' R')) ∧ Below w.heap.size w w' := by
  have HU := Lib.hid hu
  have HV := Lib.hid hv
  obtain ⟨A, cap, rfl, -, -, -⟩ := hu
  obtain ⟨B, cab, rfl, -, -, -⟩ := hv
  have b1 := Bx.new w c t cor del (.slice A R.length cap)
  have b2 := b1.under ((Below.refl _ _).alloc (Nat.le_refl _) (.cells (bulC c' t' cor' del' (.slice B R'.length cab)) 24))
  have r2 : Row ((w.alloc (.cells (bulC c t cor del (.slice A R.length cap)) 24)).alloc (.cells (bulC c' t' cor' del' (.slice B R'.length cab)) 24)) (w.heap.size + 1) 24 (bulC c' t' cor' del' (.slice B R'.length cab)) := Row.newAt (by simp)
  have HJ := Lib.hid (⟨b2, r2⟩ : Bx w w.heap.size c t cor del (.slice A R.length cap) _ ∧ Row _ (w.heap.size + 1) 24 (bulC c' t' cor' del' (.slice B R'.length cab)))
  obtain ⟨Z, hZ⟩ : ∃ Z, sm6 c t cor del R c' t' cor' del' R' = Z := ⟨_, rfl⟩
  rw [hZ]
  unfold sm6 at hZ
  have HZ := Lib.hid hZ
  clear b1 b2 r2 hZ
  by_cases h1 : c = c'
  · subst h1
    have e0 : (c.toList == c.toList) = true := beq_self_eq_true _
    by_cases h2 : t = t'
    · subst h2
      by_cases h3 : cor = cor'
      · subst h3
        by_cases h4 : del = del'
        · subst h4
          go_enter Tryz.func19, Tryz.ntmps19
          go_upto_region 1 with fail
          refine forget (fun V => Hid (Bx w w.heap.size c t cor del (.slice A R.length cap) V ∧ Row V (w.heap.size + 1) 24 (bulC c t cor del (.slice B R'.length cab)))) HJ ?_
          clear HJ
          intro Y HJ
          obtain ⟨q0, q1, q2, q3, q4⟩ := row5 HJ.out.1.1
          obtain ⟨p0, p1, p2, p3, p4⟩ := row5 HJ.out.2
          have HS := Lib.hid (equalFunc_any _ _ R R' Y (HU.out.under HJ.out.1.2) (HV.out.under HJ.out.1.2))
          have HB := Lib.hid HJ.out.1.2
          clear HJ
          go_wp2_with fail
          refine HS.out.mono ?_
          rintro e w2 ⟨rfl, hb⟩
          have HF := Lib.hid (HB.out.trans (hb.mono HB.out.size))
          have D := Lib.hid (HZ.out.symm.trans (by simp : _ = decide (R.map Rp.key = R'.map Rp.key)))
          clear hb q0 q1 q2 q3 q4 p0 p1 p2 p3 p4 HS HZ
          go_wp2_with fail
          go_ret
          exact ⟨by rw [D.out]; rfl, HF.out⟩
        · have q4' : (del == del') = false := beq_eq_false_iff_ne.2 h4
          have D := Lib.hid (HZ.out.symm.trans (by rw [decide_eq_false h4]; simp : _ = false))
          clear HZ
          go_enter Tryz.func19, Tryz.ntmps19
          go_upto_region 1 with fail
          refine forget (fun V => Hid (Bx w w.heap.size c t cor del (.slice A R.length cap) V ∧ Row V (w.heap.size + 1) 24 (bulC c t cor del' (.slice B R'.length cab)))) HJ ?_
          clear HJ
          intro Y HJ
          obtain ⟨q0, q1, q2, q3, q4⟩ := row5 HJ.out.1.1
          obtain ⟨p0, p1, p2, p3, p4⟩ := row5 HJ.out.2
          have HB := Lib.hid HJ.out.1.2
          clear HJ
          go_wp2_with fail
          go_ret
          exact ⟨by rw [D.out]; rfl, HB.out⟩
      · have q4' : (cor == cor') = false := beq_eq_false_iff_ne.2 h3
        have D := Lib.hid (HZ.out.symm.trans (by rw [decide_eq_false h3]; simp : _ = false))
        clear HZ
        go_enter Tryz.func19, Tryz.ntmps19
        go_upto_region 1 with fail
        refine forget (fun V => Hid (Bx w w.heap.size c t cor del (.slice A R.length cap) V ∧ Row V (w.heap.size + 1) 24 (bulC c t cor' del' (.slice B R'.length cab)))) HJ ?_
        clear HJ
        intro Y HJ
        obtain ⟨q0, q1, q2, q3, q4⟩ := row5 HJ.out.1.1
        obtain ⟨p0, p1, p2, p3, p4⟩ := row5 HJ.out.2
        have HB := Lib.hid HJ.out.1.2
        clear HJ
        go_wp2_with fail
        go_ret
        exact ⟨by rw [D.out]; rfl, HB.out⟩
    · have q4' : (t == t') = false := beq_eq_false_iff_ne.2 h2
      have D := Lib.hid (HZ.out.symm.trans (by rw [decide_eq_false h2]; simp : _ = false))
      clear HZ
      go_enter Tryz.func19, Tryz.ntmps19
      go_upto_region 1 with fail
      refine forget (fun V => Hid (Bx w w.heap.size c t cor del (.slice A R.length cap) V ∧ Row V (w.heap.size + 1) 24 (bulC c t' cor' del' (.slice B R'.length cab)))) HJ ?_
      clear HJ
      intro Y HJ
      obtain ⟨q0, q1, q2, q3, q4⟩ := row5 HJ.out.1.1
      obtain ⟨p0, p1, p2, p3, p4⟩ := row5 HJ.out.2
      have HB := Lib.hid HJ.out.1.2
      clear HJ
      go_wp2_with fail
      go_ret
      exact ⟨by rw [D.out]; rfl, HB.out⟩
  · have q4' : (c.toList == c'.toList) = false := toList_ne h1
    have D := Lib.hid (HZ.out.symm.trans (by rw [decide_eq_false h1]; simp : _ = false))
    clear HZ
    go_enter Tryz.func19, Tryz.ntmps19
    go_upto_region 1 with fail
    refine forget (fun V => Hid (Bx w w.heap.size c t cor del (.slice A R.length cap) V ∧ Row V (w.heap.size + 1) 24 (bulC c' t' cor' del' (.slice B R'.length cab)))) HJ ?_
    clear HJ
    intro Y HJ
    obtain ⟨q0, q1, q2, q3, q4⟩ := row5 HJ.out.1.1
    obtain ⟨p0, p1, p2, p3, p4⟩ := row5 HJ.out.2
    have HB := Lib.hid HJ.out.1.2
    clear HJ
    go_wp2_with fail
    go_ret
    exact ⟨by rw [D.out]; rfl, HB.out⟩
end Go.Proofs.YtfnlgfacadmjpaaGreatDoor.Bu
