/- The reference's Suspects, its errors. -/
import Derived.Test.YtejoabaanclcbaaGreatTkSc
namespace Go.Proofs.YtejoabaanclcbaaGreat.Tk
open Go.RowKit

set_option maxHeartbeats 2000000 in
theorem refSea_any (k : Int) (nm : ByteArray) (t F A B C : Int) (ua : Option Addr) (un uc : Nat) (w : World) :
    Calls Tryz.prog 44 #[rqV k nm t F A B C ua un uc] w fun e w' => e = .returned (.bool (sea k)) ∧ Below w.heap.size w w' := by
  have HB : Hid (Below w.heap.size w (w.alloc (.cells (rqC k nm t F A B C ua un uc) 35))) := Lib.hid ((Below.refl _ _).alloc (Nat.le_refl _) _)
  by_cases h2 : k = 2
  · subst h2
    go_enter Tryz.func44, Tryz.ntmps44
    go_wp2_with fail
    go_ret
    exact ⟨rfl, HB.out⟩
  · by_cases h3 : k = 3
    · subst h3
      go_enter Tryz.func44, Tryz.ntmps44
      go_wp2_with fail
      go_ret
      exact ⟨rfl, HB.out⟩
    · have e2 : (k == 2) = false := beq_eq_false_iff_ne.2 h2
      have e3 : (k == 3) = false := beq_eq_false_iff_ne.2 h3
      have HS := Lib.hid (show sea k = false by unfold sea; rw [decide_eq_false_iff_not]; omega)
      go_enter Tryz.func44, Tryz.ntmps44
      go_wp2_with fail
      go_ret
      exact ⟨by rw [HS.out]; rfl, HB.out⟩
set_option maxRecDepth 100000 in
set_option maxHeartbeats 16000000 in
theorem refSuspects_any (v : Value) (R : List Rq) (h : Int) (w : World) (hR : RqIn w v R) (hl : R.length ≤ 12) :
    Calls Tryz.prog 17 #[v, .int .i64 h] w (SusO h R w) := by
  have hRR := hR
  obtain ⟨A, cap, rfl, hc1, hc2, -⟩ := hR
  have HR := Lib.hid hRR
  clear hRR
  by_cases hh : 0 ≤ h ∧ h ≤ 1000
  · have HH := Lib.hid hh
    obtain ⟨h0, h1⟩ := hh
    have g0 : ¬ h < 0 := by omega
    have g1 : ¬ (1000 : Int) < h := by omega
    obtain ⟨n, hn⟩ : ∃ n, R.length = n := ⟨_, rfl⟩
    have HN := Lib.hid hn
    rw [hn] at hl hc1 ⊢
    clear hn
    have hm1 := run_make_row' (P := Tryz.prog) 44 4 (.bool false) 1 Tryz.underlying44 infoBoolT rfl .i64 .i64 n (by omega) (by omega)
    have HM1 := Lib.hid hm1
    clear hm1
    go_enter Tryz.func17, Tryz.ntmps17
    go_upto_region 4 with fail
    clear g0 g1 h0 h1
    go_wp2
    go_loopw [6] (fun t wr => ∃ i : Nat, i ≤ n ∧ t = .int .i64 i ∧ Hid (oks sea (R.take i) ∧ Below w.heap.size w wr)) (fun t _ => n - (intOf t).toNat)
    case atStart => exact ⟨0, Nat.zero_le _, rfl, Lib.hid ⟨(fun r hr => by cases hr), Below.refl _ _⟩⟩
    case round =>
      obtain ⟨i, hi, rfl, HO⟩ := hrel
      by_cases hlt : i < n
      · have i1 : (i : Int) < (n : Int) := by omega
        have i2 : (0 : Int) ≤ (i : Int) := by omega
        have hiR : i < R.length := by rw [HN.out]; exact hlt
        obtain ⟨A', cap', eA0, -, -, hat⟩ := HR.out.under HO.out.2
        injection eA0 with eA0 eA1 eA2
        subst eA0
        clear eA1 eA2
        obtain ⟨g, off, rfl, hgl, h8⟩ := hat i hiR
        have HST := Lib.hid (show (sea R[i].k = true → okr R[i] = true) → oks sea (R.take (i + 1)) from fun hk r hr => by
          rw [List.take_succ_eq_append_getElem hiR] at hr
          rcases List.mem_append.1 hr with hr | hr
          · exact HO.out.1 r hr
          · obtain rfl := List.mem_singleton.1 hr
            exact hk)
        have HNO := Lib.hid (show sea R[i].k = true → okr R[i] = false → ¬ oks sea R from fun a b c => by rw [c _ (List.getElem_mem hiR) a] at b; cases b)
        have HB := Lib.hid HO.out.2
        clear HO hat
        generalize R[i] = r at *
        obtain ⟨rk, rn, rt, rF, rA, rB, rC, ra, ru, rc⟩ := r
        have H8 := Lib.hid h8
        obtain ⟨p0, p1, p2, p3, p4, p5, p6, p7⟩ := h8
        simp only at p0 p1 p2 p3 p4 p5 p6 p7 HST HNO
        go_wp2_with fail
        refine (refSea_any rk rn rt rF rA rB rC ra ru rc _).mono ?_
        rintro e w1 ⟨rfl, b1⟩
        have HB1 := Lib.hid (HB.out.trans (b1.mono HB.out.size))
        have H81 := Lib.hid (H8.out.under hgl b1)
        clear HB H8 b1 p0 p1 p2 p3 p4 p5 p6 p7 hgl
        obtain ⟨sb, hsb⟩ : ∃ s, sea rk = s := ⟨_, rfl⟩
        rw [hsb] at HST HNO ⊢
        clear hsb
        cases sb
        · have HT := Lib.hid (HST.out (fun h => by cases h))
          go_wp2_with fail
          go_roundw
          case rel => exact ⟨i + 1, by omega, by go_num, Lib.hid ⟨HT.out, HB1.out⟩⟩
          case measure => simp [intOf]; omega
        · obtain ⟨p0, p1, p2, p3, p4, p5, p6, p7⟩ := H81.out
          simp only at p0 p1 p2 p3 p4 p5 p6 p7
          go_wp2_with fail
          refine (refValid12_any rk rn rt rF rA rB rC ra ru rc _).mono ?_
          rintro e w2 ⟨rfl, b2⟩
          have HB2 := Lib.hid (HB1.out.trans (b2.mono HB1.out.size))
          clear HB1 H81 b2 p0 p1 p2 p3 p4 p5 p6 p7
          obtain ⟨ob, hob⟩ : ∃ s, okr ⟨rk, rn, rt, rF, rA, rB, rC, ra, ru, rc⟩ = s := ⟨_, rfl⟩
          rw [hob] at HST HNO ⊢
          clear hob
          cases ob
          · have HE := Lib.hid (HNO.out (by simp) (by simp))
            go_wp2_with fail
            go_ret2
            exact ⟨[], 1, _, .inl ⟨fun h => HE.out h.2, rfl, rfl⟩, rfl, il_nil _, HB2.out⟩
          · have HT := Lib.hid (HST.out (fun _ => rfl))
            go_wp2_with fail
            go_roundw
            case rel => exact ⟨i + 1, by omega, by go_num, Lib.hid ⟨HT.out, HB2.out⟩⟩
            case measure => simp [intOf]; omega
      · have i1 : ¬ (i : Int) < (n : Int) := by omega
        have HOK : Hid (oks sea R) := Lib.hid (by have h := HO.out.1; rwa [List.take_of_length_le (by rw [HN.out]; omega)] at h)
        have HB := Lib.hid HO.out.2
        clear HO hlt hi
        go_upto_region 9 with fail
        generalize hW1 : wr = W1 at *
        clear hW1
        go_loopw [7] (fun t wr => ∃ i : Nat, i ≤ n ∧ t = .int .i64 i ∧ Hid ((∀ a b, b < a → a < i → dup R a b = false) ∧ Below W1.heap.size W1 wr)) (fun t _ => n - (intOf t).toNat)
        case atStart => exact ⟨0, Nat.zero_le _, rfl, Lib.hid ⟨fun a b _ h => by omega, Below.refl _ _⟩⟩
        case round =>
          obtain ⟨i, hi, rfl, HO⟩ := hrel
          by_cases hlt : i < n
          · have i1 : (i : Int) < (n : Int) := by omega
            have i2 : (0 : Int) ≤ (i : Int) := by omega
            go_upto_region 12 with fail
            go_loopw [8] (fun t wr => ∃ q : Nat, q ≤ i ∧ t = .int .i64 q ∧ Hid ((∀ b, b < q → dup R i b = false) ∧ Below W1.heap.size W1 wr)) (fun t _ => i - (intOf t).toNat)
            case atStart => exact ⟨0, Nat.zero_le _, rfl, Lib.hid ⟨fun b h => by omega, HO.out.2⟩⟩
            case round =>
              obtain ⟨q, hq, rfl, HQ⟩ := hrel
              by_cases hqi : q < i
              · have q1 : (q : Int) < (i : Int) := by omega
                have q2 : (0 : Int) ≤ (q : Int) := by omega
                have q3 : (q : Int) < (n : Int) := by omega
                have hiR : i < R.length := by rw [HN.out]; exact hlt
                have hqR : q < R.length := by rw [HN.out]; omega
                have HBW := Lib.hid (HB.out.trans (HQ.out.2.mono HB.out.size))
                obtain ⟨A', cap', eA0, -, -, hat⟩ := HR.out.under HBW.out
                injection eA0 with eA0 eA1 eA2
                subst eA0
                clear eA1 eA2
                obtain ⟨g, off, rfl, hgl, h8a⟩ := hat i hiR
                obtain ⟨g', off', e', -, h8b⟩ := hat q hqR
                injection e' with e'
                injection e' with e' e''
                subst e' e''
                have HDU := Lib.hid (show dup R i q = ((sea R[i].k && sea R[q].k) && (decide (R[i].nm = R[q].nm) && decide (R[i].t = R[q].t))) by unfold dup; rw [sk_at hiR, sk_at hqR, sg_at hiR, sg_at hqR])
                have HGL := Lib.hid hgl
                clear hat hgl
                have HND := Lib.hid (show dup R i q = false → ∀ b, b < q + 1 → dup R i b = false from fun hd b hb => by
                  rcases (by omega : b < q ∨ b = q) with h | rfl
                  · exact HQ.out.1 b h
                  · exact hd)
                have HQB := Lib.hid HQ.out.2
                clear HQ
                generalize R[i] = rx at h8a HDU
                generalize R[q] = ry at h8b HDU
                obtain ⟨xk, xn, xt, xF, xA, xB, xC, xa, xu, xc⟩ := rx
                obtain ⟨yk, yn, yt, yF, yA, yB, yC, ya, yu, yc⟩ := ry
                have HX := Lib.hid h8a
                have HY := Lib.hid h8b
                simp only at HDU
                clear h8a h8b hiR hqR
                go_upto_region 14 with fail
                have hS0 := Lib.hid (show (wr.cell? ⟨g, off + i * 8, none⟩ = some (.int .i64 xk) ∧ wr.cell? ⟨g, off + i * 8 + 1, none⟩ = some (.string xn) ∧ wr.cell? ⟨g, off + i * 8 + 2, none⟩ = some (.int .i64 xt) ∧ wr.cell? ⟨g, off + i * 8 + 3, none⟩ = some (.int .i64 xF) ∧ wr.cell? ⟨g, off + i * 8 + 4, none⟩ = some (.int .i64 xA) ∧ wr.cell? ⟨g, off + i * 8 + 5, none⟩ = some (.int .i64 xB) ∧ wr.cell? ⟨g, off + i * 8 + 6, none⟩ = some (.int .i64 xC) ∧ wr.cell? ⟨g, off + i * 8 + 7, none⟩ = some (.slice xa xu xc)) ∧ (wr.cell? ⟨g, off + q * 8, none⟩ = some (.int .i64 yk) ∧ wr.cell? ⟨g, off + q * 8 + 1, none⟩ = some (.string yn) ∧ wr.cell? ⟨g, off + q * 8 + 2, none⟩ = some (.int .i64 yt) ∧ wr.cell? ⟨g, off + q * 8 + 3, none⟩ = some (.int .i64 yF) ∧ wr.cell? ⟨g, off + q * 8 + 4, none⟩ = some (.int .i64 yA) ∧ wr.cell? ⟨g, off + q * 8 + 5, none⟩ = some (.int .i64 yB) ∧ wr.cell? ⟨g, off + q * 8 + 6, none⟩ = some (.int .i64 yC) ∧ wr.cell? ⟨g, off + q * 8 + 7, none⟩ = some (.slice ya yu yc)) from ⟨HX.out, HY.out⟩)
                cases hsx : sea xk
                · refine wp_region_held_drew (S := fun w' : World => (w'.cell? ⟨g, off + i * 8, none⟩ = some (.int .i64 xk) ∧ w'.cell? ⟨g, off + i * 8 + 1, none⟩ = some (.string xn) ∧ w'.cell? ⟨g, off + i * 8 + 2, none⟩ = some (.int .i64 xt) ∧ w'.cell? ⟨g, off + i * 8 + 3, none⟩ = some (.int .i64 xF) ∧ w'.cell? ⟨g, off + i * 8 + 4, none⟩ = some (.int .i64 xA) ∧ w'.cell? ⟨g, off + i * 8 + 5, none⟩ = some (.int .i64 xB) ∧ w'.cell? ⟨g, off + i * 8 + 6, none⟩ = some (.int .i64 xC) ∧ w'.cell? ⟨g, off + i * 8 + 7, none⟩ = some (.slice xa xu xc)) ∧ (w'.cell? ⟨g, off + q * 8, none⟩ = some (.int .i64 yk) ∧ w'.cell? ⟨g, off + q * 8 + 1, none⟩ = some (.string yn) ∧ w'.cell? ⟨g, off + q * 8 + 2, none⟩ = some (.int .i64 yt) ∧ w'.cell? ⟨g, off + q * 8 + 3, none⟩ = some (.int .i64 yF) ∧ w'.cell? ⟨g, off + q * 8 + 4, none⟩ = some (.int .i64 yA) ∧ w'.cell? ⟨g, off + q * 8 + 5, none⟩ = some (.int .i64 yB) ∧ w'.cell? ⟨g, off + q * 8 + 6, none⟩ = some (.int .i64 yC) ∧ w'.cell? ⟨g, off + q * 8 + 7, none⟩ = some (.slice ya yu yc))) (by kernel_rfl) hS0.out (fun hHeld => ?_)
                  refine tk 0 (oi := ⟨some 59, _, _, _, _, none⟩) rfl ?_
                  try go_frame
                  refine tk 1 (oi := ⟨some 60, _, _, _, _, none⟩) rfl ?_
                  try go_frame
                  refine tk 2 (oi := ⟨some 61, _, _, _, _, none⟩) rfl ?_
                  try go_frame
                  refine tk 3 (oi := ⟨some 62, _, _, _, _, none⟩) rfl ?_
                  try go_frame
                  refine wpAnyH_ready (rs := [4]) (by kernel_rfl) (by simp) ?_
                  refine AllReadyH.cons (o := ⟨some 63, _, _, _, _, none⟩) rfl (fun K hK => ?_) AllReadyH.nil
                  have hd : Below wr.heap.size wr wr.drew := ⟨rfl, rfl, rfl, Nat.le_refl _, fun _ _ => rfl⟩
                  go_simp
                  refine (refSea_any xk xn xt xF xA xB xC xa xu xc _).mono ?_
                  rintro e Xa ⟨rfl, hbXa⟩
                  have DXa := Lib.hid (hd.trans (hbXa.mono hd.size))
                  have HXXa := Lib.hid (HX.out.under HGL.out DXa.out)
                  have HYXa := Lib.hid (HY.out.under HGL.out DXa.out)
                  clear hd hbXa hHeld hS0
                  rw [hsx]
                  go_wp2_with fail
                  have hSXa := Lib.hid (show (Xa.cell? ⟨g, off + i * 8, none⟩ = some (.int .i64 xk) ∧ Xa.cell? ⟨g, off + i * 8 + 1, none⟩ = some (.string xn) ∧ Xa.cell? ⟨g, off + i * 8 + 2, none⟩ = some (.int .i64 xt) ∧ Xa.cell? ⟨g, off + i * 8 + 3, none⟩ = some (.int .i64 xF) ∧ Xa.cell? ⟨g, off + i * 8 + 4, none⟩ = some (.int .i64 xA) ∧ Xa.cell? ⟨g, off + i * 8 + 5, none⟩ = some (.int .i64 xB) ∧ Xa.cell? ⟨g, off + i * 8 + 6, none⟩ = some (.int .i64 xC) ∧ Xa.cell? ⟨g, off + i * 8 + 7, none⟩ = some (.slice xa xu xc)) ∧ (Xa.cell? ⟨g, off + q * 8, none⟩ = some (.int .i64 yk) ∧ Xa.cell? ⟨g, off + q * 8 + 1, none⟩ = some (.string yn) ∧ Xa.cell? ⟨g, off + q * 8 + 2, none⟩ = some (.int .i64 yt) ∧ Xa.cell? ⟨g, off + q * 8 + 3, none⟩ = some (.int .i64 yF) ∧ Xa.cell? ⟨g, off + q * 8 + 4, none⟩ = some (.int .i64 yA) ∧ Xa.cell? ⟨g, off + q * 8 + 5, none⟩ = some (.int .i64 yB) ∧ Xa.cell? ⟨g, off + q * 8 + 6, none⟩ = some (.int .i64 yC) ∧ Xa.cell? ⟨g, off + q * 8 + 7, none⟩ = some (.slice ya yu yc)) from ⟨HXXa.out, HYXa.out⟩)
                  refine hK.out _ _ hSXa.out (fun hHeld => ?_)
                  clear hK K hSXa
                  try go_frame
                  refine tk 5 (oi := ⟨some 64, _, _, _, _, none⟩) rfl ?_
                  try go_frame
                  refine YtejoabaanclcbaaGreat.sk 6 (oi := ⟨some 65, _, _, _, _, some _⟩) rfl ?_
                  try go_frame
                  refine YtejoabaanclcbaaGreat.sk 7 (oi := ⟨some 66, _, _, _, _, some _⟩) rfl ?_
                  try go_frame
                  refine YtejoabaanclcbaaGreat.sk 8 (oi := ⟨some 67, _, _, _, _, some _⟩) rfl ?_
                  try go_frame
                  refine YtejoabaanclcbaaGreat.sk 9 (oi := ⟨some 68, _, _, _, _, some _⟩) rfl ?_
                  try go_frame
                  refine YtejoabaanclcbaaGreat.sk 10 (oi := ⟨some 69, _, _, _, _, some _⟩) rfl ?_
                  try go_frame
                  refine tk 11 (oi := ⟨some 70, _, _, _, _, none⟩) rfl ?_
                  try go_frame
                  refine tk 12 (oi := ⟨some 71, _, _, _, _, none⟩) rfl ?_
                  try go_frame
                  refine YtejoabaanclcbaaGreat.sk 13 (oi := ⟨some 72, _, _, _, _, some _⟩) rfl ?_
                  try go_frame
                  refine YtejoabaanclcbaaGreat.sk 14 (oi := ⟨some 73, _, _, _, _, some _⟩) rfl ?_
                  try go_frame
                  refine YtejoabaanclcbaaGreat.sk 15 (oi := ⟨some 74, _, _, _, _, some _⟩) rfl ?_
                  try go_frame
                  refine YtejoabaanclcbaaGreat.sk 16 (oi := ⟨some 75, _, _, _, _, some _⟩) rfl ?_
                  try go_frame
                  refine YtejoabaanclcbaaGreat.sk 17 (oi := ⟨some 76, _, _, _, _, some _⟩) rfl ?_
                  try go_frame
                  refine YtejoabaanclcbaaGreat.sk 18 (oi := ⟨some 77, _, _, _, _, some _⟩) rfl ?_
                  try go_frame
                  refine YtejoabaanclcbaaGreat.sk 19 (oi := ⟨some 78, _, _, _, _, some _⟩) rfl ?_
                  try go_frame
                  refine YtejoabaanclcbaaGreat.sk 20 (oi := ⟨some 79, _, _, _, _, some _⟩) rfl ?_
                  try go_frame
                  refine YtejoabaanclcbaaGreat.sk 21 (oi := ⟨some 80, _, _, _, _, some _⟩) rfl ?_
                  try go_frame
                  refine YtejoabaanclcbaaGreat.sk 22 (oi := ⟨some 81, _, _, _, _, some _⟩) rfl ?_
                  try go_frame
                  refine YtejoabaanclcbaaGreat.sk 23 (oi := ⟨some 82, _, _, _, _, some _⟩) rfl ?_
                  try go_frame
                  refine tk 24 (oi := ⟨some 83, _, _, _, _, none⟩) rfl ?_
                  try go_frame
                  refine tk 25 (oi := ⟨some 84, _, _, _, _, none⟩) rfl ?_
                  try go_frame
                  refine YtejoabaanclcbaaGreat.sk 26 (oi := ⟨some 85, _, _, _, _, some _⟩) rfl ?_
                  try go_frame
                  refine YtejoabaanclcbaaGreat.sk 27 (oi := ⟨some 86, _, _, _, _, some _⟩) rfl ?_
                  try go_frame
                  refine YtejoabaanclcbaaGreat.sk 28 (oi := ⟨some 87, _, _, _, _, some _⟩) rfl ?_
                  try go_frame
                  refine YtejoabaanclcbaaGreat.sk 29 (oi := ⟨some 88, _, _, _, _, some _⟩) rfl ?_
                  try go_frame
                  refine YtejoabaanclcbaaGreat.sk 30 (oi := ⟨some 89, _, _, _, _, some _⟩) rfl ?_
                  try go_frame
                  refine YtejoabaanclcbaaGreat.sk 31 (oi := ⟨some 90, _, _, _, _, some _⟩) rfl ?_
                  try go_frame
                  refine YtejoabaanclcbaaGreat.sk 32 (oi := ⟨some 91, _, _, _, _, some _⟩) rfl ?_
                  try go_frame
                  refine YtejoabaanclcbaaGreat.sk 33 (oi := ⟨some 92, _, _, _, _, some _⟩) rfl ?_
                  try go_frame
                  refine YtejoabaanclcbaaGreat.sk 34 (oi := ⟨some 93, _, _, _, _, some _⟩) rfl ?_
                  try go_frame
                  refine YtejoabaanclcbaaGreat.sk 35 (oi := ⟨some 94, _, _, _, _, some _⟩) rfl ?_
                  try go_frame
                  refine YtejoabaanclcbaaGreat.sk 36 (oi := ⟨some 95, _, _, _, _, some _⟩) rfl ?_
                  try go_frame
                  refine tk 37 (oi := ⟨some 96, _, _, _, _, none⟩) rfl ?_
                  try go_frame
                  refine wpAnyH_done (by kernel_rfl) ?_ _
                  have HBZ := Lib.hid (HQB.out.trans (DXa.out.mono HQB.out.size))
                  have HD := Lib.hid (HND.out (by rw [HDU.out, hsx]; simp))
                  clear hHeld
                  go_wp2_with fail
                  go_roundw
                  case rel => exact ⟨q + 1, by omega, by go_num, Lib.hid ⟨HD.out, HBZ.out⟩⟩
                  case measure => simp [intOf]; omega
                · cases hsy : sea yk
                  · refine wp_region_held_drew (S := fun w' : World => (w'.cell? ⟨g, off + i * 8, none⟩ = some (.int .i64 xk) ∧ w'.cell? ⟨g, off + i * 8 + 1, none⟩ = some (.string xn) ∧ w'.cell? ⟨g, off + i * 8 + 2, none⟩ = some (.int .i64 xt) ∧ w'.cell? ⟨g, off + i * 8 + 3, none⟩ = some (.int .i64 xF) ∧ w'.cell? ⟨g, off + i * 8 + 4, none⟩ = some (.int .i64 xA) ∧ w'.cell? ⟨g, off + i * 8 + 5, none⟩ = some (.int .i64 xB) ∧ w'.cell? ⟨g, off + i * 8 + 6, none⟩ = some (.int .i64 xC) ∧ w'.cell? ⟨g, off + i * 8 + 7, none⟩ = some (.slice xa xu xc)) ∧ (w'.cell? ⟨g, off + q * 8, none⟩ = some (.int .i64 yk) ∧ w'.cell? ⟨g, off + q * 8 + 1, none⟩ = some (.string yn) ∧ w'.cell? ⟨g, off + q * 8 + 2, none⟩ = some (.int .i64 yt) ∧ w'.cell? ⟨g, off + q * 8 + 3, none⟩ = some (.int .i64 yF) ∧ w'.cell? ⟨g, off + q * 8 + 4, none⟩ = some (.int .i64 yA) ∧ w'.cell? ⟨g, off + q * 8 + 5, none⟩ = some (.int .i64 yB) ∧ w'.cell? ⟨g, off + q * 8 + 6, none⟩ = some (.int .i64 yC) ∧ w'.cell? ⟨g, off + q * 8 + 7, none⟩ = some (.slice ya yu yc))) (by kernel_rfl) hS0.out (fun hHeld => ?_)
                    refine tk 0 (oi := ⟨some 59, _, _, _, _, none⟩) rfl ?_
                    try go_frame
                    refine tk 1 (oi := ⟨some 60, _, _, _, _, none⟩) rfl ?_
                    try go_frame
                    refine tk 2 (oi := ⟨some 61, _, _, _, _, none⟩) rfl ?_
                    try go_frame
                    refine tk 3 (oi := ⟨some 62, _, _, _, _, none⟩) rfl ?_
                    try go_frame
                    refine wpAnyH_ready (rs := [4]) (by kernel_rfl) (by simp) ?_
                    refine AllReadyH.cons (o := ⟨some 63, _, _, _, _, none⟩) rfl (fun K hK => ?_) AllReadyH.nil
                    have hd : Below wr.heap.size wr wr.drew := ⟨rfl, rfl, rfl, Nat.le_refl _, fun _ _ => rfl⟩
                    go_simp
                    refine (refSea_any xk xn xt xF xA xB xC xa xu xc _).mono ?_
                    rintro e Xa ⟨rfl, hbXa⟩
                    have DXa := Lib.hid (hd.trans (hbXa.mono hd.size))
                    have HXXa := Lib.hid (HX.out.under HGL.out DXa.out)
                    have HYXa := Lib.hid (HY.out.under HGL.out DXa.out)
                    clear hd hbXa hHeld hS0
                    rw [hsx]
                    go_wp2_with fail
                    have hSXa := Lib.hid (show (Xa.cell? ⟨g, off + i * 8, none⟩ = some (.int .i64 xk) ∧ Xa.cell? ⟨g, off + i * 8 + 1, none⟩ = some (.string xn) ∧ Xa.cell? ⟨g, off + i * 8 + 2, none⟩ = some (.int .i64 xt) ∧ Xa.cell? ⟨g, off + i * 8 + 3, none⟩ = some (.int .i64 xF) ∧ Xa.cell? ⟨g, off + i * 8 + 4, none⟩ = some (.int .i64 xA) ∧ Xa.cell? ⟨g, off + i * 8 + 5, none⟩ = some (.int .i64 xB) ∧ Xa.cell? ⟨g, off + i * 8 + 6, none⟩ = some (.int .i64 xC) ∧ Xa.cell? ⟨g, off + i * 8 + 7, none⟩ = some (.slice xa xu xc)) ∧ (Xa.cell? ⟨g, off + q * 8, none⟩ = some (.int .i64 yk) ∧ Xa.cell? ⟨g, off + q * 8 + 1, none⟩ = some (.string yn) ∧ Xa.cell? ⟨g, off + q * 8 + 2, none⟩ = some (.int .i64 yt) ∧ Xa.cell? ⟨g, off + q * 8 + 3, none⟩ = some (.int .i64 yF) ∧ Xa.cell? ⟨g, off + q * 8 + 4, none⟩ = some (.int .i64 yA) ∧ Xa.cell? ⟨g, off + q * 8 + 5, none⟩ = some (.int .i64 yB) ∧ Xa.cell? ⟨g, off + q * 8 + 6, none⟩ = some (.int .i64 yC) ∧ Xa.cell? ⟨g, off + q * 8 + 7, none⟩ = some (.slice ya yu yc)) from ⟨HXXa.out, HYXa.out⟩)
                    refine hK.out _ _ hSXa.out (fun hHeld => ?_)
                    clear hK K hSXa
                    try go_frame
                    refine tk 5 (oi := ⟨some 64, _, _, _, _, none⟩) rfl ?_
                    try go_frame
                    refine tk 6 (oi := ⟨some 65, _, _, _, _, some _⟩) rfl ?_
                    try go_frame
                    refine tk 7 (oi := ⟨some 66, _, _, _, _, some _⟩) rfl ?_
                    try go_frame
                    refine tk 8 (oi := ⟨some 67, _, _, _, _, some _⟩) rfl ?_
                    try go_frame
                    refine tk 9 (oi := ⟨some 68, _, _, _, _, some _⟩) rfl ?_
                    try go_frame
                    refine wpAnyH_ready (rs := [10]) (by kernel_rfl) (by simp) ?_
                    refine AllReadyH.cons (o := ⟨some 69, _, _, _, _, some _⟩) rfl (fun K hK => ?_) AllReadyH.nil
                    go_simp
                    refine (refSea_any yk yn yt yF yA yB yC ya yu yc _).mono ?_
                    rintro e Xb ⟨rfl, hbXb⟩
                    have DXb := Lib.hid (DXa.out.trans (hbXb.mono DXa.out.size))
                    have HXXb := Lib.hid (HX.out.under HGL.out DXb.out)
                    have HYXb := Lib.hid (HY.out.under HGL.out DXb.out)
                    clear hbXb hHeld
                    rw [hsy]
                    go_wp2_with fail
                    have hSXb := Lib.hid (show (Xb.cell? ⟨g, off + i * 8, none⟩ = some (.int .i64 xk) ∧ Xb.cell? ⟨g, off + i * 8 + 1, none⟩ = some (.string xn) ∧ Xb.cell? ⟨g, off + i * 8 + 2, none⟩ = some (.int .i64 xt) ∧ Xb.cell? ⟨g, off + i * 8 + 3, none⟩ = some (.int .i64 xF) ∧ Xb.cell? ⟨g, off + i * 8 + 4, none⟩ = some (.int .i64 xA) ∧ Xb.cell? ⟨g, off + i * 8 + 5, none⟩ = some (.int .i64 xB) ∧ Xb.cell? ⟨g, off + i * 8 + 6, none⟩ = some (.int .i64 xC) ∧ Xb.cell? ⟨g, off + i * 8 + 7, none⟩ = some (.slice xa xu xc)) ∧ (Xb.cell? ⟨g, off + q * 8, none⟩ = some (.int .i64 yk) ∧ Xb.cell? ⟨g, off + q * 8 + 1, none⟩ = some (.string yn) ∧ Xb.cell? ⟨g, off + q * 8 + 2, none⟩ = some (.int .i64 yt) ∧ Xb.cell? ⟨g, off + q * 8 + 3, none⟩ = some (.int .i64 yF) ∧ Xb.cell? ⟨g, off + q * 8 + 4, none⟩ = some (.int .i64 yA) ∧ Xb.cell? ⟨g, off + q * 8 + 5, none⟩ = some (.int .i64 yB) ∧ Xb.cell? ⟨g, off + q * 8 + 6, none⟩ = some (.int .i64 yC) ∧ Xb.cell? ⟨g, off + q * 8 + 7, none⟩ = some (.slice ya yu yc)) from ⟨HXXb.out, HYXb.out⟩)
                    refine hK.out _ _ hSXb.out (fun hHeld => ?_)
                    clear hK K hSXb
                    try go_frame
                    refine tk 11 (oi := ⟨some 70, _, _, _, _, none⟩) rfl ?_
                    try go_frame
                    refine tk 12 (oi := ⟨some 71, _, _, _, _, none⟩) rfl ?_
                    try go_frame
                    refine YtejoabaanclcbaaGreat.sk 13 (oi := ⟨some 72, _, _, _, _, some _⟩) rfl ?_
                    try go_frame
                    refine YtejoabaanclcbaaGreat.sk 14 (oi := ⟨some 73, _, _, _, _, some _⟩) rfl ?_
                    try go_frame
                    refine YtejoabaanclcbaaGreat.sk 15 (oi := ⟨some 74, _, _, _, _, some _⟩) rfl ?_
                    try go_frame
                    refine YtejoabaanclcbaaGreat.sk 16 (oi := ⟨some 75, _, _, _, _, some _⟩) rfl ?_
                    try go_frame
                    refine YtejoabaanclcbaaGreat.sk 17 (oi := ⟨some 76, _, _, _, _, some _⟩) rfl ?_
                    try go_frame
                    refine YtejoabaanclcbaaGreat.sk 18 (oi := ⟨some 77, _, _, _, _, some _⟩) rfl ?_
                    try go_frame
                    refine YtejoabaanclcbaaGreat.sk 19 (oi := ⟨some 78, _, _, _, _, some _⟩) rfl ?_
                    try go_frame
                    refine YtejoabaanclcbaaGreat.sk 20 (oi := ⟨some 79, _, _, _, _, some _⟩) rfl ?_
                    try go_frame
                    refine YtejoabaanclcbaaGreat.sk 21 (oi := ⟨some 80, _, _, _, _, some _⟩) rfl ?_
                    try go_frame
                    refine YtejoabaanclcbaaGreat.sk 22 (oi := ⟨some 81, _, _, _, _, some _⟩) rfl ?_
                    try go_frame
                    refine YtejoabaanclcbaaGreat.sk 23 (oi := ⟨some 82, _, _, _, _, some _⟩) rfl ?_
                    try go_frame
                    refine tk 24 (oi := ⟨some 83, _, _, _, _, none⟩) rfl ?_
                    try go_frame
                    refine tk 25 (oi := ⟨some 84, _, _, _, _, none⟩) rfl ?_
                    try go_frame
                    refine YtejoabaanclcbaaGreat.sk 26 (oi := ⟨some 85, _, _, _, _, some _⟩) rfl ?_
                    try go_frame
                    refine YtejoabaanclcbaaGreat.sk 27 (oi := ⟨some 86, _, _, _, _, some _⟩) rfl ?_
                    try go_frame
                    refine YtejoabaanclcbaaGreat.sk 28 (oi := ⟨some 87, _, _, _, _, some _⟩) rfl ?_
                    try go_frame
                    refine YtejoabaanclcbaaGreat.sk 29 (oi := ⟨some 88, _, _, _, _, some _⟩) rfl ?_
                    try go_frame
                    refine YtejoabaanclcbaaGreat.sk 30 (oi := ⟨some 89, _, _, _, _, some _⟩) rfl ?_
                    try go_frame
                    refine YtejoabaanclcbaaGreat.sk 31 (oi := ⟨some 90, _, _, _, _, some _⟩) rfl ?_
                    try go_frame
                    refine YtejoabaanclcbaaGreat.sk 32 (oi := ⟨some 91, _, _, _, _, some _⟩) rfl ?_
                    try go_frame
                    refine YtejoabaanclcbaaGreat.sk 33 (oi := ⟨some 92, _, _, _, _, some _⟩) rfl ?_
                    try go_frame
                    refine YtejoabaanclcbaaGreat.sk 34 (oi := ⟨some 93, _, _, _, _, some _⟩) rfl ?_
                    try go_frame
                    refine YtejoabaanclcbaaGreat.sk 35 (oi := ⟨some 94, _, _, _, _, some _⟩) rfl ?_
                    try go_frame
                    refine YtejoabaanclcbaaGreat.sk 36 (oi := ⟨some 95, _, _, _, _, some _⟩) rfl ?_
                    try go_frame
                    refine tk 37 (oi := ⟨some 96, _, _, _, _, none⟩) rfl ?_
                    try go_frame
                    refine wpAnyH_done (by kernel_rfl) ?_ _
                    have HBZ := Lib.hid (HQB.out.trans (DXb.out.mono HQB.out.size))
                    have HD := Lib.hid (HND.out (by rw [HDU.out, hsx, hsy]; simp))
                    clear hHeld
                    go_wp2_with fail
                    go_roundw
                    case rel => exact ⟨q + 1, by omega, by go_num, Lib.hid ⟨HD.out, HBZ.out⟩⟩
                    case measure => simp [intOf]; omega
                  · by_cases hnm : xn = yn
                    · subst hnm
                      by_cases htm : xt = yt
                      · subst htm
                        refine wp_region_held_drew (S := fun w' : World => (w'.cell? ⟨g, off + i * 8, none⟩ = some (.int .i64 xk) ∧ w'.cell? ⟨g, off + i * 8 + 1, none⟩ = some (.string xn) ∧ w'.cell? ⟨g, off + i * 8 + 2, none⟩ = some (.int .i64 xt) ∧ w'.cell? ⟨g, off + i * 8 + 3, none⟩ = some (.int .i64 xF) ∧ w'.cell? ⟨g, off + i * 8 + 4, none⟩ = some (.int .i64 xA) ∧ w'.cell? ⟨g, off + i * 8 + 5, none⟩ = some (.int .i64 xB) ∧ w'.cell? ⟨g, off + i * 8 + 6, none⟩ = some (.int .i64 xC) ∧ w'.cell? ⟨g, off + i * 8 + 7, none⟩ = some (.slice xa xu xc)) ∧ (w'.cell? ⟨g, off + q * 8, none⟩ = some (.int .i64 yk) ∧ w'.cell? ⟨g, off + q * 8 + 1, none⟩ = some (.string xn) ∧ w'.cell? ⟨g, off + q * 8 + 2, none⟩ = some (.int .i64 xt) ∧ w'.cell? ⟨g, off + q * 8 + 3, none⟩ = some (.int .i64 yF) ∧ w'.cell? ⟨g, off + q * 8 + 4, none⟩ = some (.int .i64 yA) ∧ w'.cell? ⟨g, off + q * 8 + 5, none⟩ = some (.int .i64 yB) ∧ w'.cell? ⟨g, off + q * 8 + 6, none⟩ = some (.int .i64 yC) ∧ w'.cell? ⟨g, off + q * 8 + 7, none⟩ = some (.slice ya yu yc))) (by kernel_rfl) hS0.out (fun hHeld => ?_)
                        refine tk 0 (oi := ⟨some 59, _, _, _, _, none⟩) rfl ?_
                        try go_frame
                        refine tk 1 (oi := ⟨some 60, _, _, _, _, none⟩) rfl ?_
                        try go_frame
                        refine tk 2 (oi := ⟨some 61, _, _, _, _, none⟩) rfl ?_
                        try go_frame
                        refine tk 3 (oi := ⟨some 62, _, _, _, _, none⟩) rfl ?_
                        try go_frame
                        refine wpAnyH_ready (rs := [4]) (by kernel_rfl) (by simp) ?_
                        refine AllReadyH.cons (o := ⟨some 63, _, _, _, _, none⟩) rfl (fun K hK => ?_) AllReadyH.nil
                        have hd : Below wr.heap.size wr wr.drew := ⟨rfl, rfl, rfl, Nat.le_refl _, fun _ _ => rfl⟩
                        go_simp
                        refine (refSea_any xk xn xt xF xA xB xC xa xu xc _).mono ?_
                        rintro e Xa ⟨rfl, hbXa⟩
                        have DXa := Lib.hid (hd.trans (hbXa.mono hd.size))
                        have HXXa := Lib.hid (HX.out.under HGL.out DXa.out)
                        have HYXa := Lib.hid (HY.out.under HGL.out DXa.out)
                        clear hd hbXa hHeld hS0
                        rw [hsx]
                        go_wp2_with fail
                        have hSXa := Lib.hid (show (Xa.cell? ⟨g, off + i * 8, none⟩ = some (.int .i64 xk) ∧ Xa.cell? ⟨g, off + i * 8 + 1, none⟩ = some (.string xn) ∧ Xa.cell? ⟨g, off + i * 8 + 2, none⟩ = some (.int .i64 xt) ∧ Xa.cell? ⟨g, off + i * 8 + 3, none⟩ = some (.int .i64 xF) ∧ Xa.cell? ⟨g, off + i * 8 + 4, none⟩ = some (.int .i64 xA) ∧ Xa.cell? ⟨g, off + i * 8 + 5, none⟩ = some (.int .i64 xB) ∧ Xa.cell? ⟨g, off + i * 8 + 6, none⟩ = some (.int .i64 xC) ∧ Xa.cell? ⟨g, off + i * 8 + 7, none⟩ = some (.slice xa xu xc)) ∧ (Xa.cell? ⟨g, off + q * 8, none⟩ = some (.int .i64 yk) ∧ Xa.cell? ⟨g, off + q * 8 + 1, none⟩ = some (.string xn) ∧ Xa.cell? ⟨g, off + q * 8 + 2, none⟩ = some (.int .i64 xt) ∧ Xa.cell? ⟨g, off + q * 8 + 3, none⟩ = some (.int .i64 yF) ∧ Xa.cell? ⟨g, off + q * 8 + 4, none⟩ = some (.int .i64 yA) ∧ Xa.cell? ⟨g, off + q * 8 + 5, none⟩ = some (.int .i64 yB) ∧ Xa.cell? ⟨g, off + q * 8 + 6, none⟩ = some (.int .i64 yC) ∧ Xa.cell? ⟨g, off + q * 8 + 7, none⟩ = some (.slice ya yu yc)) from ⟨HXXa.out, HYXa.out⟩)
                        refine hK.out _ _ hSXa.out (fun hHeld => ?_)
                        clear hK K hSXa
                        try go_frame
                        refine tk 5 (oi := ⟨some 64, _, _, _, _, none⟩) rfl ?_
                        try go_frame
                        refine tk 6 (oi := ⟨some 65, _, _, _, _, some _⟩) rfl ?_
                        try go_frame
                        refine tk 7 (oi := ⟨some 66, _, _, _, _, some _⟩) rfl ?_
                        try go_frame
                        refine tk 8 (oi := ⟨some 67, _, _, _, _, some _⟩) rfl ?_
                        try go_frame
                        refine tk 9 (oi := ⟨some 68, _, _, _, _, some _⟩) rfl ?_
                        try go_frame
                        refine wpAnyH_ready (rs := [10]) (by kernel_rfl) (by simp) ?_
                        refine AllReadyH.cons (o := ⟨some 69, _, _, _, _, some _⟩) rfl (fun K hK => ?_) AllReadyH.nil
                        go_simp
                        refine (refSea_any yk xn xt yF yA yB yC ya yu yc _).mono ?_
                        rintro e Xb ⟨rfl, hbXb⟩
                        have DXb := Lib.hid (DXa.out.trans (hbXb.mono DXa.out.size))
                        have HXXb := Lib.hid (HX.out.under HGL.out DXb.out)
                        have HYXb := Lib.hid (HY.out.under HGL.out DXb.out)
                        clear hbXb hHeld
                        rw [hsy]
                        go_wp2_with fail
                        have hSXb := Lib.hid (show (Xb.cell? ⟨g, off + i * 8, none⟩ = some (.int .i64 xk) ∧ Xb.cell? ⟨g, off + i * 8 + 1, none⟩ = some (.string xn) ∧ Xb.cell? ⟨g, off + i * 8 + 2, none⟩ = some (.int .i64 xt) ∧ Xb.cell? ⟨g, off + i * 8 + 3, none⟩ = some (.int .i64 xF) ∧ Xb.cell? ⟨g, off + i * 8 + 4, none⟩ = some (.int .i64 xA) ∧ Xb.cell? ⟨g, off + i * 8 + 5, none⟩ = some (.int .i64 xB) ∧ Xb.cell? ⟨g, off + i * 8 + 6, none⟩ = some (.int .i64 xC) ∧ Xb.cell? ⟨g, off + i * 8 + 7, none⟩ = some (.slice xa xu xc)) ∧ (Xb.cell? ⟨g, off + q * 8, none⟩ = some (.int .i64 yk) ∧ Xb.cell? ⟨g, off + q * 8 + 1, none⟩ = some (.string xn) ∧ Xb.cell? ⟨g, off + q * 8 + 2, none⟩ = some (.int .i64 xt) ∧ Xb.cell? ⟨g, off + q * 8 + 3, none⟩ = some (.int .i64 yF) ∧ Xb.cell? ⟨g, off + q * 8 + 4, none⟩ = some (.int .i64 yA) ∧ Xb.cell? ⟨g, off + q * 8 + 5, none⟩ = some (.int .i64 yB) ∧ Xb.cell? ⟨g, off + q * 8 + 6, none⟩ = some (.int .i64 yC) ∧ Xb.cell? ⟨g, off + q * 8 + 7, none⟩ = some (.slice ya yu yc)) from ⟨HXXb.out, HYXb.out⟩)
                        refine hK.out _ _ hSXb.out (fun hHeld => ?_)
                        clear hK K hSXb
                        try go_frame
                        refine tk 11 (oi := ⟨some 70, _, _, _, _, none⟩) rfl ?_
                        try go_frame
                        refine tk 12 (oi := ⟨some 71, _, _, _, _, none⟩) rfl ?_
                        try go_frame
                        refine tk 13 (oi := ⟨some 72, _, _, _, _, some _⟩) rfl ?_
                        try go_frame
                        refine tk 14 (oi := ⟨some 73, _, _, _, _, some _⟩) rfl ?_
                        try go_frame
                        refine tk 15 (oi := ⟨some 74, _, _, _, _, some _⟩) rfl ?_
                        try go_frame
                        refine tk 16 (oi := ⟨some 75, _, _, _, _, some _⟩) rfl ?_
                        try go_frame
                        refine tk 17 (oi := ⟨some 76, _, _, _, _, some _⟩) rfl ?_
                        try go_frame
                        refine tk 18 (oi := ⟨some 77, _, _, _, _, some _⟩) rfl ?_
                        try go_frame
                        refine tk 19 (oi := ⟨some 78, _, _, _, _, some _⟩) rfl ?_
                        try go_frame
                        refine tk 20 (oi := ⟨some 79, _, _, _, _, some _⟩) rfl ?_
                        try go_frame
                        refine tk 21 (oi := ⟨some 80, _, _, _, _, some _⟩) rfl ?_
                        try go_frame
                        refine tk 22 (oi := ⟨some 81, _, _, _, _, some _⟩) rfl ?_
                        try go_frame
                        refine tk 23 (oi := ⟨some 82, _, _, _, _, some _⟩) rfl ?_
                        try go_frame
                        refine tk 24 (oi := ⟨some 83, _, _, _, _, none⟩) rfl ?_
                        try go_frame
                        refine tk 25 (oi := ⟨some 84, _, _, _, _, none⟩) rfl ?_
                        try go_frame
                        refine tk 26 (oi := ⟨some 85, _, _, _, _, some _⟩) rfl ?_
                        try go_frame
                        refine tk 27 (oi := ⟨some 86, _, _, _, _, some _⟩) rfl ?_
                        try go_frame
                        refine tk 28 (oi := ⟨some 87, _, _, _, _, some _⟩) rfl ?_
                        try go_frame
                        refine tk 29 (oi := ⟨some 88, _, _, _, _, some _⟩) rfl ?_
                        try go_frame
                        refine tk 30 (oi := ⟨some 89, _, _, _, _, some _⟩) rfl ?_
                        try go_frame
                        refine tk 31 (oi := ⟨some 90, _, _, _, _, some _⟩) rfl ?_
                        try go_frame
                        refine tk 32 (oi := ⟨some 91, _, _, _, _, some _⟩) rfl ?_
                        try go_frame
                        refine tk 33 (oi := ⟨some 92, _, _, _, _, some _⟩) rfl ?_
                        try go_frame
                        refine tk 34 (oi := ⟨some 93, _, _, _, _, some _⟩) rfl ?_
                        try go_frame
                        refine tk 35 (oi := ⟨some 94, _, _, _, _, some _⟩) rfl ?_
                        try go_frame
                        refine tk 36 (oi := ⟨some 95, _, _, _, _, some _⟩) rfl ?_
                        try go_frame
                        refine tk 37 (oi := ⟨some 96, _, _, _, _, none⟩) rfl ?_
                        try go_frame
                        refine wpAnyH_done (by kernel_rfl) ?_ _
                        have HBZ := Lib.hid (HQB.out.trans (DXb.out.mono HQB.out.size))
                        have HD := Lib.hid (show dup R i q = true by rw [HDU.out, hsx, hsy]; simp)
                        have HFB := Lib.hid (HB.out.trans (HBZ.out.mono HB.out.size))
                        clear hHeld
                        go_wp2_with fail
                        go_ret2
                        exact ⟨[], 5, _, sus_dup HH.out HOK.out hqi HD.out, rfl, il_nil _, HFB.out⟩
                      · have htm2 : (xt == yt) = false := beq_eq_false_iff_ne.2 htm
                        refine wp_region_held_drew (S := fun w' : World => (w'.cell? ⟨g, off + i * 8, none⟩ = some (.int .i64 xk) ∧ w'.cell? ⟨g, off + i * 8 + 1, none⟩ = some (.string xn) ∧ w'.cell? ⟨g, off + i * 8 + 2, none⟩ = some (.int .i64 xt) ∧ w'.cell? ⟨g, off + i * 8 + 3, none⟩ = some (.int .i64 xF) ∧ w'.cell? ⟨g, off + i * 8 + 4, none⟩ = some (.int .i64 xA) ∧ w'.cell? ⟨g, off + i * 8 + 5, none⟩ = some (.int .i64 xB) ∧ w'.cell? ⟨g, off + i * 8 + 6, none⟩ = some (.int .i64 xC) ∧ w'.cell? ⟨g, off + i * 8 + 7, none⟩ = some (.slice xa xu xc)) ∧ (w'.cell? ⟨g, off + q * 8, none⟩ = some (.int .i64 yk) ∧ w'.cell? ⟨g, off + q * 8 + 1, none⟩ = some (.string xn) ∧ w'.cell? ⟨g, off + q * 8 + 2, none⟩ = some (.int .i64 yt) ∧ w'.cell? ⟨g, off + q * 8 + 3, none⟩ = some (.int .i64 yF) ∧ w'.cell? ⟨g, off + q * 8 + 4, none⟩ = some (.int .i64 yA) ∧ w'.cell? ⟨g, off + q * 8 + 5, none⟩ = some (.int .i64 yB) ∧ w'.cell? ⟨g, off + q * 8 + 6, none⟩ = some (.int .i64 yC) ∧ w'.cell? ⟨g, off + q * 8 + 7, none⟩ = some (.slice ya yu yc))) (by kernel_rfl) hS0.out (fun hHeld => ?_)
                        refine tk 0 (oi := ⟨some 59, _, _, _, _, none⟩) rfl ?_
                        try go_frame
                        refine tk 1 (oi := ⟨some 60, _, _, _, _, none⟩) rfl ?_
                        try go_frame
                        refine tk 2 (oi := ⟨some 61, _, _, _, _, none⟩) rfl ?_
                        try go_frame
                        refine tk 3 (oi := ⟨some 62, _, _, _, _, none⟩) rfl ?_
                        try go_frame
                        refine wpAnyH_ready (rs := [4]) (by kernel_rfl) (by simp) ?_
                        refine AllReadyH.cons (o := ⟨some 63, _, _, _, _, none⟩) rfl (fun K hK => ?_) AllReadyH.nil
                        have hd : Below wr.heap.size wr wr.drew := ⟨rfl, rfl, rfl, Nat.le_refl _, fun _ _ => rfl⟩
                        go_simp
                        refine (refSea_any xk xn xt xF xA xB xC xa xu xc _).mono ?_
                        rintro e Xa ⟨rfl, hbXa⟩
                        have DXa := Lib.hid (hd.trans (hbXa.mono hd.size))
                        have HXXa := Lib.hid (HX.out.under HGL.out DXa.out)
                        have HYXa := Lib.hid (HY.out.under HGL.out DXa.out)
                        clear hd hbXa hHeld hS0
                        rw [hsx]
                        go_wp2_with fail
                        have hSXa := Lib.hid (show (Xa.cell? ⟨g, off + i * 8, none⟩ = some (.int .i64 xk) ∧ Xa.cell? ⟨g, off + i * 8 + 1, none⟩ = some (.string xn) ∧ Xa.cell? ⟨g, off + i * 8 + 2, none⟩ = some (.int .i64 xt) ∧ Xa.cell? ⟨g, off + i * 8 + 3, none⟩ = some (.int .i64 xF) ∧ Xa.cell? ⟨g, off + i * 8 + 4, none⟩ = some (.int .i64 xA) ∧ Xa.cell? ⟨g, off + i * 8 + 5, none⟩ = some (.int .i64 xB) ∧ Xa.cell? ⟨g, off + i * 8 + 6, none⟩ = some (.int .i64 xC) ∧ Xa.cell? ⟨g, off + i * 8 + 7, none⟩ = some (.slice xa xu xc)) ∧ (Xa.cell? ⟨g, off + q * 8, none⟩ = some (.int .i64 yk) ∧ Xa.cell? ⟨g, off + q * 8 + 1, none⟩ = some (.string xn) ∧ Xa.cell? ⟨g, off + q * 8 + 2, none⟩ = some (.int .i64 yt) ∧ Xa.cell? ⟨g, off + q * 8 + 3, none⟩ = some (.int .i64 yF) ∧ Xa.cell? ⟨g, off + q * 8 + 4, none⟩ = some (.int .i64 yA) ∧ Xa.cell? ⟨g, off + q * 8 + 5, none⟩ = some (.int .i64 yB) ∧ Xa.cell? ⟨g, off + q * 8 + 6, none⟩ = some (.int .i64 yC) ∧ Xa.cell? ⟨g, off + q * 8 + 7, none⟩ = some (.slice ya yu yc)) from ⟨HXXa.out, HYXa.out⟩)
                        refine hK.out _ _ hSXa.out (fun hHeld => ?_)
                        clear hK K hSXa
                        try go_frame
                        refine tk 5 (oi := ⟨some 64, _, _, _, _, none⟩) rfl ?_
                        try go_frame
                        refine tk 6 (oi := ⟨some 65, _, _, _, _, some _⟩) rfl ?_
                        try go_frame
                        refine tk 7 (oi := ⟨some 66, _, _, _, _, some _⟩) rfl ?_
                        try go_frame
                        refine tk 8 (oi := ⟨some 67, _, _, _, _, some _⟩) rfl ?_
                        try go_frame
                        refine tk 9 (oi := ⟨some 68, _, _, _, _, some _⟩) rfl ?_
                        try go_frame
                        refine wpAnyH_ready (rs := [10]) (by kernel_rfl) (by simp) ?_
                        refine AllReadyH.cons (o := ⟨some 69, _, _, _, _, some _⟩) rfl (fun K hK => ?_) AllReadyH.nil
                        go_simp
                        refine (refSea_any yk xn yt yF yA yB yC ya yu yc _).mono ?_
                        rintro e Xb ⟨rfl, hbXb⟩
                        have DXb := Lib.hid (DXa.out.trans (hbXb.mono DXa.out.size))
                        have HXXb := Lib.hid (HX.out.under HGL.out DXb.out)
                        have HYXb := Lib.hid (HY.out.under HGL.out DXb.out)
                        clear hbXb hHeld
                        rw [hsy]
                        go_wp2_with fail
                        have hSXb := Lib.hid (show (Xb.cell? ⟨g, off + i * 8, none⟩ = some (.int .i64 xk) ∧ Xb.cell? ⟨g, off + i * 8 + 1, none⟩ = some (.string xn) ∧ Xb.cell? ⟨g, off + i * 8 + 2, none⟩ = some (.int .i64 xt) ∧ Xb.cell? ⟨g, off + i * 8 + 3, none⟩ = some (.int .i64 xF) ∧ Xb.cell? ⟨g, off + i * 8 + 4, none⟩ = some (.int .i64 xA) ∧ Xb.cell? ⟨g, off + i * 8 + 5, none⟩ = some (.int .i64 xB) ∧ Xb.cell? ⟨g, off + i * 8 + 6, none⟩ = some (.int .i64 xC) ∧ Xb.cell? ⟨g, off + i * 8 + 7, none⟩ = some (.slice xa xu xc)) ∧ (Xb.cell? ⟨g, off + q * 8, none⟩ = some (.int .i64 yk) ∧ Xb.cell? ⟨g, off + q * 8 + 1, none⟩ = some (.string xn) ∧ Xb.cell? ⟨g, off + q * 8 + 2, none⟩ = some (.int .i64 yt) ∧ Xb.cell? ⟨g, off + q * 8 + 3, none⟩ = some (.int .i64 yF) ∧ Xb.cell? ⟨g, off + q * 8 + 4, none⟩ = some (.int .i64 yA) ∧ Xb.cell? ⟨g, off + q * 8 + 5, none⟩ = some (.int .i64 yB) ∧ Xb.cell? ⟨g, off + q * 8 + 6, none⟩ = some (.int .i64 yC) ∧ Xb.cell? ⟨g, off + q * 8 + 7, none⟩ = some (.slice ya yu yc)) from ⟨HXXb.out, HYXb.out⟩)
                        refine hK.out _ _ hSXb.out (fun hHeld => ?_)
                        clear hK K hSXb
                        try go_frame
                        refine tk 11 (oi := ⟨some 70, _, _, _, _, none⟩) rfl ?_
                        try go_frame
                        refine tk 12 (oi := ⟨some 71, _, _, _, _, none⟩) rfl ?_
                        try go_frame
                        refine tk 13 (oi := ⟨some 72, _, _, _, _, some _⟩) rfl ?_
                        try go_frame
                        refine tk 14 (oi := ⟨some 73, _, _, _, _, some _⟩) rfl ?_
                        try go_frame
                        refine tk 15 (oi := ⟨some 74, _, _, _, _, some _⟩) rfl ?_
                        try go_frame
                        refine tk 16 (oi := ⟨some 75, _, _, _, _, some _⟩) rfl ?_
                        try go_frame
                        refine tk 17 (oi := ⟨some 76, _, _, _, _, some _⟩) rfl ?_
                        try go_frame
                        refine tk 18 (oi := ⟨some 77, _, _, _, _, some _⟩) rfl ?_
                        try go_frame
                        refine tk 19 (oi := ⟨some 78, _, _, _, _, some _⟩) rfl ?_
                        try go_frame
                        refine tk 20 (oi := ⟨some 79, _, _, _, _, some _⟩) rfl ?_
                        try go_frame
                        refine tk 21 (oi := ⟨some 80, _, _, _, _, some _⟩) rfl ?_
                        try go_frame
                        refine tk 22 (oi := ⟨some 81, _, _, _, _, some _⟩) rfl ?_
                        try go_frame
                        refine tk 23 (oi := ⟨some 82, _, _, _, _, some _⟩) rfl ?_
                        try go_frame
                        refine tk 24 (oi := ⟨some 83, _, _, _, _, none⟩) rfl ?_
                        try go_frame
                        refine tk 25 (oi := ⟨some 84, _, _, _, _, none⟩) rfl ?_
                        try go_frame
                        refine tk 26 (oi := ⟨some 85, _, _, _, _, some _⟩) rfl ?_
                        try go_frame
                        refine tk 27 (oi := ⟨some 86, _, _, _, _, some _⟩) rfl ?_
                        try go_frame
                        refine tk 28 (oi := ⟨some 87, _, _, _, _, some _⟩) rfl ?_
                        try go_frame
                        refine tk 29 (oi := ⟨some 88, _, _, _, _, some _⟩) rfl ?_
                        try go_frame
                        refine tk 30 (oi := ⟨some 89, _, _, _, _, some _⟩) rfl ?_
                        try go_frame
                        refine tk 31 (oi := ⟨some 90, _, _, _, _, some _⟩) rfl ?_
                        try go_frame
                        refine tk 32 (oi := ⟨some 91, _, _, _, _, some _⟩) rfl ?_
                        try go_frame
                        refine tk 33 (oi := ⟨some 92, _, _, _, _, some _⟩) rfl ?_
                        try go_frame
                        refine tk 34 (oi := ⟨some 93, _, _, _, _, some _⟩) rfl ?_
                        try go_frame
                        refine tk 35 (oi := ⟨some 94, _, _, _, _, some _⟩) rfl ?_
                        try go_frame
                        refine tk 36 (oi := ⟨some 95, _, _, _, _, some _⟩) rfl ?_
                        try go_frame
                        refine tk 37 (oi := ⟨some 96, _, _, _, _, none⟩) rfl ?_
                        try go_frame
                        refine wpAnyH_done (by kernel_rfl) ?_ _
                        have HBZ := Lib.hid (HQB.out.trans (DXb.out.mono HQB.out.size))
                        have HD := Lib.hid (HND.out (by rw [HDU.out, hsx, hsy]; simp [htm]))
                        clear hHeld
                        go_wp2_with fail
                        go_roundw
                        case rel => exact ⟨q + 1, by omega, by go_num, Lib.hid ⟨HD.out, HBZ.out⟩⟩
                        case measure => simp [intOf]; omega
                    · have hnm2 := nm_ne hnm
                      refine wp_region_held_drew (S := fun w' : World => (w'.cell? ⟨g, off + i * 8, none⟩ = some (.int .i64 xk) ∧ w'.cell? ⟨g, off + i * 8 + 1, none⟩ = some (.string xn) ∧ w'.cell? ⟨g, off + i * 8 + 2, none⟩ = some (.int .i64 xt) ∧ w'.cell? ⟨g, off + i * 8 + 3, none⟩ = some (.int .i64 xF) ∧ w'.cell? ⟨g, off + i * 8 + 4, none⟩ = some (.int .i64 xA) ∧ w'.cell? ⟨g, off + i * 8 + 5, none⟩ = some (.int .i64 xB) ∧ w'.cell? ⟨g, off + i * 8 + 6, none⟩ = some (.int .i64 xC) ∧ w'.cell? ⟨g, off + i * 8 + 7, none⟩ = some (.slice xa xu xc)) ∧ (w'.cell? ⟨g, off + q * 8, none⟩ = some (.int .i64 yk) ∧ w'.cell? ⟨g, off + q * 8 + 1, none⟩ = some (.string yn) ∧ w'.cell? ⟨g, off + q * 8 + 2, none⟩ = some (.int .i64 yt) ∧ w'.cell? ⟨g, off + q * 8 + 3, none⟩ = some (.int .i64 yF) ∧ w'.cell? ⟨g, off + q * 8 + 4, none⟩ = some (.int .i64 yA) ∧ w'.cell? ⟨g, off + q * 8 + 5, none⟩ = some (.int .i64 yB) ∧ w'.cell? ⟨g, off + q * 8 + 6, none⟩ = some (.int .i64 yC) ∧ w'.cell? ⟨g, off + q * 8 + 7, none⟩ = some (.slice ya yu yc))) (by kernel_rfl) hS0.out (fun hHeld => ?_)
                      refine tk 0 (oi := ⟨some 59, _, _, _, _, none⟩) rfl ?_
                      try go_frame
                      refine tk 1 (oi := ⟨some 60, _, _, _, _, none⟩) rfl ?_
                      try go_frame
                      refine tk 2 (oi := ⟨some 61, _, _, _, _, none⟩) rfl ?_
                      try go_frame
                      refine tk 3 (oi := ⟨some 62, _, _, _, _, none⟩) rfl ?_
                      try go_frame
                      refine wpAnyH_ready (rs := [4]) (by kernel_rfl) (by simp) ?_
                      refine AllReadyH.cons (o := ⟨some 63, _, _, _, _, none⟩) rfl (fun K hK => ?_) AllReadyH.nil
                      have hd : Below wr.heap.size wr wr.drew := ⟨rfl, rfl, rfl, Nat.le_refl _, fun _ _ => rfl⟩
                      go_simp
                      refine (refSea_any xk xn xt xF xA xB xC xa xu xc _).mono ?_
                      rintro e Xa ⟨rfl, hbXa⟩
                      have DXa := Lib.hid (hd.trans (hbXa.mono hd.size))
                      have HXXa := Lib.hid (HX.out.under HGL.out DXa.out)
                      have HYXa := Lib.hid (HY.out.under HGL.out DXa.out)
                      clear hd hbXa hHeld hS0
                      rw [hsx]
                      go_wp2_with fail
                      have hSXa := Lib.hid (show (Xa.cell? ⟨g, off + i * 8, none⟩ = some (.int .i64 xk) ∧ Xa.cell? ⟨g, off + i * 8 + 1, none⟩ = some (.string xn) ∧ Xa.cell? ⟨g, off + i * 8 + 2, none⟩ = some (.int .i64 xt) ∧ Xa.cell? ⟨g, off + i * 8 + 3, none⟩ = some (.int .i64 xF) ∧ Xa.cell? ⟨g, off + i * 8 + 4, none⟩ = some (.int .i64 xA) ∧ Xa.cell? ⟨g, off + i * 8 + 5, none⟩ = some (.int .i64 xB) ∧ Xa.cell? ⟨g, off + i * 8 + 6, none⟩ = some (.int .i64 xC) ∧ Xa.cell? ⟨g, off + i * 8 + 7, none⟩ = some (.slice xa xu xc)) ∧ (Xa.cell? ⟨g, off + q * 8, none⟩ = some (.int .i64 yk) ∧ Xa.cell? ⟨g, off + q * 8 + 1, none⟩ = some (.string yn) ∧ Xa.cell? ⟨g, off + q * 8 + 2, none⟩ = some (.int .i64 yt) ∧ Xa.cell? ⟨g, off + q * 8 + 3, none⟩ = some (.int .i64 yF) ∧ Xa.cell? ⟨g, off + q * 8 + 4, none⟩ = some (.int .i64 yA) ∧ Xa.cell? ⟨g, off + q * 8 + 5, none⟩ = some (.int .i64 yB) ∧ Xa.cell? ⟨g, off + q * 8 + 6, none⟩ = some (.int .i64 yC) ∧ Xa.cell? ⟨g, off + q * 8 + 7, none⟩ = some (.slice ya yu yc)) from ⟨HXXa.out, HYXa.out⟩)
                      refine hK.out _ _ hSXa.out (fun hHeld => ?_)
                      clear hK K hSXa
                      try go_frame
                      refine tk 5 (oi := ⟨some 64, _, _, _, _, none⟩) rfl ?_
                      try go_frame
                      refine tk 6 (oi := ⟨some 65, _, _, _, _, some _⟩) rfl ?_
                      try go_frame
                      refine tk 7 (oi := ⟨some 66, _, _, _, _, some _⟩) rfl ?_
                      try go_frame
                      refine tk 8 (oi := ⟨some 67, _, _, _, _, some _⟩) rfl ?_
                      try go_frame
                      refine tk 9 (oi := ⟨some 68, _, _, _, _, some _⟩) rfl ?_
                      try go_frame
                      refine wpAnyH_ready (rs := [10]) (by kernel_rfl) (by simp) ?_
                      refine AllReadyH.cons (o := ⟨some 69, _, _, _, _, some _⟩) rfl (fun K hK => ?_) AllReadyH.nil
                      go_simp
                      refine (refSea_any yk yn yt yF yA yB yC ya yu yc _).mono ?_
                      rintro e Xb ⟨rfl, hbXb⟩
                      have DXb := Lib.hid (DXa.out.trans (hbXb.mono DXa.out.size))
                      have HXXb := Lib.hid (HX.out.under HGL.out DXb.out)
                      have HYXb := Lib.hid (HY.out.under HGL.out DXb.out)
                      clear hbXb hHeld
                      rw [hsy]
                      go_wp2_with fail
                      have hSXb := Lib.hid (show (Xb.cell? ⟨g, off + i * 8, none⟩ = some (.int .i64 xk) ∧ Xb.cell? ⟨g, off + i * 8 + 1, none⟩ = some (.string xn) ∧ Xb.cell? ⟨g, off + i * 8 + 2, none⟩ = some (.int .i64 xt) ∧ Xb.cell? ⟨g, off + i * 8 + 3, none⟩ = some (.int .i64 xF) ∧ Xb.cell? ⟨g, off + i * 8 + 4, none⟩ = some (.int .i64 xA) ∧ Xb.cell? ⟨g, off + i * 8 + 5, none⟩ = some (.int .i64 xB) ∧ Xb.cell? ⟨g, off + i * 8 + 6, none⟩ = some (.int .i64 xC) ∧ Xb.cell? ⟨g, off + i * 8 + 7, none⟩ = some (.slice xa xu xc)) ∧ (Xb.cell? ⟨g, off + q * 8, none⟩ = some (.int .i64 yk) ∧ Xb.cell? ⟨g, off + q * 8 + 1, none⟩ = some (.string yn) ∧ Xb.cell? ⟨g, off + q * 8 + 2, none⟩ = some (.int .i64 yt) ∧ Xb.cell? ⟨g, off + q * 8 + 3, none⟩ = some (.int .i64 yF) ∧ Xb.cell? ⟨g, off + q * 8 + 4, none⟩ = some (.int .i64 yA) ∧ Xb.cell? ⟨g, off + q * 8 + 5, none⟩ = some (.int .i64 yB) ∧ Xb.cell? ⟨g, off + q * 8 + 6, none⟩ = some (.int .i64 yC) ∧ Xb.cell? ⟨g, off + q * 8 + 7, none⟩ = some (.slice ya yu yc)) from ⟨HXXb.out, HYXb.out⟩)
                      refine hK.out _ _ hSXb.out (fun hHeld => ?_)
                      clear hK K hSXb
                      try go_frame
                      refine tk 11 (oi := ⟨some 70, _, _, _, _, none⟩) rfl ?_
                      try go_frame
                      refine tk 12 (oi := ⟨some 71, _, _, _, _, none⟩) rfl ?_
                      try go_frame
                      refine tk 13 (oi := ⟨some 72, _, _, _, _, some _⟩) rfl ?_
                      try go_frame
                      refine tk 14 (oi := ⟨some 73, _, _, _, _, some _⟩) rfl ?_
                      try go_frame
                      refine tk 15 (oi := ⟨some 74, _, _, _, _, some _⟩) rfl ?_
                      try go_frame
                      refine tk 16 (oi := ⟨some 75, _, _, _, _, some _⟩) rfl ?_
                      try go_frame
                      refine tk 17 (oi := ⟨some 76, _, _, _, _, some _⟩) rfl ?_
                      try go_frame
                      refine tk 18 (oi := ⟨some 77, _, _, _, _, some _⟩) rfl ?_
                      try go_frame
                      refine tk 19 (oi := ⟨some 78, _, _, _, _, some _⟩) rfl ?_
                      try go_frame
                      refine tk 20 (oi := ⟨some 79, _, _, _, _, some _⟩) rfl ?_
                      try go_frame
                      refine tk 21 (oi := ⟨some 80, _, _, _, _, some _⟩) rfl ?_
                      try go_frame
                      refine tk 22 (oi := ⟨some 81, _, _, _, _, some _⟩) rfl ?_
                      try go_frame
                      refine tk 23 (oi := ⟨some 82, _, _, _, _, some _⟩) rfl ?_
                      try go_frame
                      refine tk 24 (oi := ⟨some 83, _, _, _, _, none⟩) rfl ?_
                      try go_frame
                      refine tk 25 (oi := ⟨some 84, _, _, _, _, none⟩) rfl ?_
                      try go_frame
                      refine YtejoabaanclcbaaGreat.sk 26 (oi := ⟨some 85, _, _, _, _, some _⟩) rfl ?_
                      try go_frame
                      refine YtejoabaanclcbaaGreat.sk 27 (oi := ⟨some 86, _, _, _, _, some _⟩) rfl ?_
                      try go_frame
                      refine YtejoabaanclcbaaGreat.sk 28 (oi := ⟨some 87, _, _, _, _, some _⟩) rfl ?_
                      try go_frame
                      refine YtejoabaanclcbaaGreat.sk 29 (oi := ⟨some 88, _, _, _, _, some _⟩) rfl ?_
                      try go_frame
                      refine YtejoabaanclcbaaGreat.sk 30 (oi := ⟨some 89, _, _, _, _, some _⟩) rfl ?_
                      try go_frame
                      refine YtejoabaanclcbaaGreat.sk 31 (oi := ⟨some 90, _, _, _, _, some _⟩) rfl ?_
                      try go_frame
                      refine YtejoabaanclcbaaGreat.sk 32 (oi := ⟨some 91, _, _, _, _, some _⟩) rfl ?_
                      try go_frame
                      refine YtejoabaanclcbaaGreat.sk 33 (oi := ⟨some 92, _, _, _, _, some _⟩) rfl ?_
                      try go_frame
                      refine YtejoabaanclcbaaGreat.sk 34 (oi := ⟨some 93, _, _, _, _, some _⟩) rfl ?_
                      try go_frame
                      refine YtejoabaanclcbaaGreat.sk 35 (oi := ⟨some 94, _, _, _, _, some _⟩) rfl ?_
                      try go_frame
                      refine YtejoabaanclcbaaGreat.sk 36 (oi := ⟨some 95, _, _, _, _, some _⟩) rfl ?_
                      try go_frame
                      refine tk 37 (oi := ⟨some 96, _, _, _, _, none⟩) rfl ?_
                      try go_frame
                      refine wpAnyH_done (by kernel_rfl) ?_ _
                      have HBZ := Lib.hid (HQB.out.trans (DXb.out.mono HQB.out.size))
                      have HD := Lib.hid (HND.out (by rw [HDU.out, hsx, hsy]; simp [hnm]))
                      clear hHeld
                      go_wp2_with fail
                      go_roundw
                      case rel => exact ⟨q + 1, by omega, by go_num, Lib.hid ⟨HD.out, HBZ.out⟩⟩
                      case measure => simp [intOf]; omega
              · have q1 : ¬ (q : Int) < (i : Int) := by omega
                obtain rfl : i = q := by omega
                have HO2 := Lib.hid (show (∀ a b, b < a → a < i + 1 → dup R a b = false) ∧ Below W1.heap.size W1 wr from ⟨fun a b h1 h2 => by
                  rcases (by omega : a < i ∨ a = i) with h | rfl
                  · exact HO.out.1 a b h1 h
                  · exact HQ.out.1 b h1, HQ.out.2⟩)
                clear HO HQ
                go_wp2_with fail
                go_roundw
                case rel => exact ⟨i + 1, by omega, by go_num, HO2⟩
                case measure => simp [intOf]; omega
          · have i1 : ¬ (i : Int) < (n : Int) := by omega
            obtain rfl : n = i := by omega
            have HNODUP := Lib.hid (show ∀ a b, b < a → a < R.length → dup R a b = false from fun a b h1 h2 => HO.out.1 a b h1 (by rw [← HN.out]; exact h2))
            have HB2 := Lib.hid (HB.out.trans (HO.out.2.mono HB.out.size))
            clear HO HB
            go_upto_region 16 with fail
            generalize hW2 : wr = W2 at *
            clear hW2
            have hm1 := HM1.out
            have HSD := Lib.hid (sd_made W2 n)
            go_upto_region 18 with fail
            refine forget (fun Y => Hid (Sd W2 n (fun _ => false) (fun _ => false) Y)) HSD ?_
            clear HSD hm1
            intro Y HSD
            go_wp2_with fail
            go_loopw [11] (fun t wr => ∃ (i : Nat) (Bd Dn : Nat → Bool), i ≤ n ∧ t = .int .i64 i ∧ Hid (Dd h R i Bd Dn ∧ Sd W2 n Bd Dn wr)) (fun t _ => n - (intOf t).toNat)
            case atStart => exact ⟨0, _, _, Nat.zero_le _, rfl, Lib.hid ⟨dd_zero h R, HSD.out⟩⟩
            case round =>
              clear HSD
              obtain ⟨i, Bd, Dn, hi, rfl, HO⟩ := hrel
              by_cases hlt : i < n
              · have i1 : (i : Int) < (n : Int) := by omega
                have i2 : (0 : Int) ≤ (i : Int) := by omega
                have hiR : i < R.length := by rw [HN.out]; exact hlt
                have HBW := Lib.hid (HB2.out.trans (HO.out.2.b.mono HB2.out.size))
                obtain ⟨A', cap', eA0, -, -, hat⟩ := HR.out.under HBW.out
                injection eA0 with eA0 eA1 eA2
                subst eA0
                clear eA1 eA2
                obtain ⟨g, off, rfl, hgl, h8a⟩ := hat i hiR
                have HGW : Hid (g < w.heap.size) := Lib.hid (by
                  obtain ⟨A', cap', eA0, -, -, hat⟩ := HR.out
                  obtain ⟨g', off', e', hgl', -⟩ := hat i hiR
                  injection eA0 with eA0 eA1 eA2
                  rw [← eA0] at e'
                  injection e' with e'
                  injection e' with e' e''
                  rw [e']
                  exact hgl')
                have HAT := Lib.hid (show ∀ k, ∀ hk : k < R.length, At8 w g (off + k * 8) R[k] from fun k hk => by
                  obtain ⟨A', cap', eA0, -, -, hat⟩ := HR.out
                  obtain ⟨g', off', e', -, h8⟩ := hat k hk
                  injection eA0 with eA0 eA1 eA2
                  rw [← eA0] at e'
                  injection e' with e'
                  injection e' with e' e''
                  rw [e', e'']
                  exact h8)
                have HSK := Lib.hid (show sk R i = sea R[i].k ∧ sg R i = ⟨R[i].nm, R[i].t, nod R[i].F R[i].A R[i].B R[i].C, i⟩ from ⟨sk_at hiR, sg_at hiR⟩)
                clear hat hgl
                have HNM : Hid ((sg R i).nm = R[i].nm) := Lib.hid (by rw [HSK.out.2])
                obtain ⟨rx, hrx⟩ : ∃ r, R[i] = r := ⟨_, rfl⟩
                have HRX := Lib.hid hrx
                rw [hrx] at h8a HSK HNM
                clear hrx
                obtain ⟨xk, xn, xt, xF, xA, xB, xC, xa, xu, xc⟩ := rx
                simp only at HSK HNM
                obtain ⟨p0, p1, p2, p3, p4, p5, p6, p7⟩ := h8a
                simp only at p0 p1 p2 p3 p4 p5 p6 p7
                go_wp2_with fail
                refine (refSea_any xk xn xt xF xA xB xC xa xu xc _).mono ?_
                rintro e w1 ⟨rfl, b1⟩
                have HS1 := Lib.hid (HO.out.2.under b1)
                clear p0 p1 p2 p3 p4 p5 p6 p7 b1
                have c1 := (HS1.out.done.at_ hlt).1
                have hsc : sea xk = false ∨ sea xk = true := by cases sea xk; exact .inl rfl; exact .inr rfl
                rcases hsc with hsx | hsx
                · have HD := Lib.hid (dd_skip HO.out.1 hiR (.inl (by rw [HSK.out.1]; exact hsx)))
                  clear c1
                  rw [hsx]
                  go_wp2_with fail
                  go_roundw
                  case rel => exact ⟨i + 1, Bd, Dn, by omega, by go_num, Lib.hid ⟨HD.out, HS1.out⟩⟩
                  case measure => simp [intOf]; omega
                · rw [hsx]
                  have hdc : Dn i = true ∨ Dn i = false := by cases Dn i; exact .inr rfl; exact .inl rfl
                  rcases hdc with hdn | hdn
                  · have HD := Lib.hid (dd_skip HO.out.1 hiR (.inr hdn))
                    rw [hdn] at c1
                    go_wp2_with fail
                    go_roundw
                    case rel => exact ⟨i + 1, Bd, Dn, by omega, by go_num, Lib.hid ⟨HD.out, HS1.out⟩⟩
                    case measure => simp [intOf]; omega
                  · rw [hdn] at c1
                    have HDN := Lib.hid hdn
                    have HSI : Hid (sk R i = true) := Lib.hid (by rw [HSK.out.1]; exact hsx)
                    have HDD := Lib.hid HO.out.1
                    go_upto_region 24 with fail
                    clear c1 hdn
                    have HX0S := Lib.hid HS1.out.lt
                    go_wp2
                    generalize hX0 : w1 = X0 at *
                    clear hX0 HO HBW
                    go_loopw [12, 13] (fun u t wr => ∃ (q : Nat) (O : List Nat) (Dq : Nat → Bool), (i ≤ q ∧ q ≤ n) ∧ t = .int .i64 q ∧ Hid (OgTo R xn i q O ∧ Sd W2 n Bd Dq wr ∧ wr.ownsRow X0.heap.size 3 1 u O.length (ic O) ∧ (∀ z, z < n → (Dq z = true ↔ Dn z = true ∨ z ∈ O)) ∧ X0.heap.size ≤ wr.heap.size ∧ (O = [] → u = .slice none 0 0))) (fun _ t _ => n - (intOf t).toNat)
                    case atStart => exact ⟨i, [], Dn, ⟨Nat.le_refl _, by omega⟩, rfl, Lib.hid ⟨ogto_nil R xn i, HS1.out, ⟨rfl, .inl ⟨rfl, rfl⟩⟩, fun z _ => ⟨fun e => .inl e, fun e => e.elim id (fun e => by cases e)⟩, Nat.le_refl _, fun _ => rfl⟩⟩
                    case round =>
                      clear HS1
                      obtain ⟨q, O, Dq, ⟨hiq, hqn⟩, rfl, HQ⟩ := hrel
                      by_cases hq : q < n
                      · have q1 : (q : Int) < (n : Int) := by omega
                        have q2 : (0 : Int) ≤ (q : Int) := by omega
                        have hqR : q < R.length := by rw [HN.out]; exact hq
                        have HBQ := Lib.hid (HB2.out.trans (HQ.out.2.1.b.mono HB2.out.size))
                        have h8x := (HAT.out i hiR).under HGW.out HBQ.out
                        have h8y := (HAT.out q hqR).under HGW.out HBQ.out
                        have HSQ := Lib.hid (show sk R q = sea R[q].k ∧ (sg R q).nm = R[q].nm ∧ (sg R q).t = R[q].t from ⟨sk_at hqR, by rw [sg_at hqR], by rw [sg_at hqR]⟩)
                        have HXR : Hid (R[i] = ⟨xk, xn, xt, xF, xA, xB, xC, xa, xu, xc⟩) := HRX
                        rw [HXR.out] at h8x
                        have HX := Lib.hid h8x
                        have HYW := Lib.hid (HAT.out q hqR)
                        generalize R[q] = ry at h8y HSQ HYW
                        obtain ⟨yk, yn, yt, yF, yA, yB, yC, ya, yu, yc⟩ := ry
                        have HY := Lib.hid h8y
                        simp only at HSQ
                        have HGL : Hid (g < wr.heap.size) := Lib.hid (Nat.lt_of_lt_of_le HGW.out HBQ.out.size)
                        clear h8x h8y
                        go_upto_region 26 with fail
                        have hS0 := Lib.hid (show (wr.cell? ⟨g, off + i * 8, none⟩ = some (.int .i64 xk) ∧ wr.cell? ⟨g, off + i * 8 + 1, none⟩ = some (.string xn) ∧ wr.cell? ⟨g, off + i * 8 + 2, none⟩ = some (.int .i64 xt) ∧ wr.cell? ⟨g, off + i * 8 + 3, none⟩ = some (.int .i64 xF) ∧ wr.cell? ⟨g, off + i * 8 + 4, none⟩ = some (.int .i64 xA) ∧ wr.cell? ⟨g, off + i * 8 + 5, none⟩ = some (.int .i64 xB) ∧ wr.cell? ⟨g, off + i * 8 + 6, none⟩ = some (.int .i64 xC) ∧ wr.cell? ⟨g, off + i * 8 + 7, none⟩ = some (.slice xa xu xc)) ∧ (wr.cell? ⟨g, off + q * 8, none⟩ = some (.int .i64 yk) ∧ wr.cell? ⟨g, off + q * 8 + 1, none⟩ = some (.string yn) ∧ wr.cell? ⟨g, off + q * 8 + 2, none⟩ = some (.int .i64 yt) ∧ wr.cell? ⟨g, off + q * 8 + 3, none⟩ = some (.int .i64 yF) ∧ wr.cell? ⟨g, off + q * 8 + 4, none⟩ = some (.int .i64 yA) ∧ wr.cell? ⟨g, off + q * 8 + 5, none⟩ = some (.int .i64 yB) ∧ wr.cell? ⟨g, off + q * 8 + 6, none⟩ = some (.int .i64 yC) ∧ wr.cell? ⟨g, off + q * 8 + 7, none⟩ = some (.slice ya yu yc)) from ⟨HX.out, HY.out⟩)
                        have hyc : sea yk = false ∨ sea yk = true := by cases sea yk; exact .inl rfl; exact .inr rfl
                        rcases hyc with hsy | hsy
                        · refine wp_region_held_drew (S := fun w' : World => (w'.cell? ⟨g, off + i * 8, none⟩ = some (.int .i64 xk) ∧ w'.cell? ⟨g, off + i * 8 + 1, none⟩ = some (.string xn) ∧ w'.cell? ⟨g, off + i * 8 + 2, none⟩ = some (.int .i64 xt) ∧ w'.cell? ⟨g, off + i * 8 + 3, none⟩ = some (.int .i64 xF) ∧ w'.cell? ⟨g, off + i * 8 + 4, none⟩ = some (.int .i64 xA) ∧ w'.cell? ⟨g, off + i * 8 + 5, none⟩ = some (.int .i64 xB) ∧ w'.cell? ⟨g, off + i * 8 + 6, none⟩ = some (.int .i64 xC) ∧ w'.cell? ⟨g, off + i * 8 + 7, none⟩ = some (.slice xa xu xc)) ∧ (w'.cell? ⟨g, off + q * 8, none⟩ = some (.int .i64 yk) ∧ w'.cell? ⟨g, off + q * 8 + 1, none⟩ = some (.string yn) ∧ w'.cell? ⟨g, off + q * 8 + 2, none⟩ = some (.int .i64 yt) ∧ w'.cell? ⟨g, off + q * 8 + 3, none⟩ = some (.int .i64 yF) ∧ w'.cell? ⟨g, off + q * 8 + 4, none⟩ = some (.int .i64 yA) ∧ w'.cell? ⟨g, off + q * 8 + 5, none⟩ = some (.int .i64 yB) ∧ w'.cell? ⟨g, off + q * 8 + 6, none⟩ = some (.int .i64 yC) ∧ w'.cell? ⟨g, off + q * 8 + 7, none⟩ = some (.slice ya yu yc))) (by kernel_rfl) hS0.out (fun hHeld => ?_)
                          refine tk 0 (oi := ⟨some 128, _, _, _, _, none⟩) rfl ?_
                          try go_frame
                          refine tk 1 (oi := ⟨some 129, _, _, _, _, none⟩) rfl ?_
                          try go_frame
                          refine tk 2 (oi := ⟨some 130, _, _, _, _, none⟩) rfl ?_
                          try go_frame
                          refine tk 3 (oi := ⟨some 131, _, _, _, _, none⟩) rfl ?_
                          try go_frame
                          refine wpAnyH_ready (rs := [4]) (by kernel_rfl) (by simp) ?_
                          refine AllReadyH.cons (o := ⟨some 132, _, _, _, _, none⟩) rfl (fun K hK => ?_) AllReadyH.nil
                          have hd : Below wr.heap.size wr wr.drew := ⟨rfl, rfl, rfl, Nat.le_refl _, fun _ _ => rfl⟩
                          go_simp
                          refine (refSea_any yk yn yt yF yA yB yC ya yu yc _).mono ?_
                          rintro e Xa ⟨rfl, hbXa⟩
                          have DXa := Lib.hid (hd.trans (hbXa.mono hd.size))
                          have HXa := Lib.hid (HX.out.under HGL.out DXa.out)
                          have HYa := Lib.hid (HY.out.under HGL.out DXa.out)
                          clear hd hbXa hHeld hS0
                          rw [hsy]
                          go_wp2_with fail
                          have hSa := Lib.hid (show (Xa.cell? ⟨g, off + i * 8, none⟩ = some (.int .i64 xk) ∧ Xa.cell? ⟨g, off + i * 8 + 1, none⟩ = some (.string xn) ∧ Xa.cell? ⟨g, off + i * 8 + 2, none⟩ = some (.int .i64 xt) ∧ Xa.cell? ⟨g, off + i * 8 + 3, none⟩ = some (.int .i64 xF) ∧ Xa.cell? ⟨g, off + i * 8 + 4, none⟩ = some (.int .i64 xA) ∧ Xa.cell? ⟨g, off + i * 8 + 5, none⟩ = some (.int .i64 xB) ∧ Xa.cell? ⟨g, off + i * 8 + 6, none⟩ = some (.int .i64 xC) ∧ Xa.cell? ⟨g, off + i * 8 + 7, none⟩ = some (.slice xa xu xc)) ∧ (Xa.cell? ⟨g, off + q * 8, none⟩ = some (.int .i64 yk) ∧ Xa.cell? ⟨g, off + q * 8 + 1, none⟩ = some (.string yn) ∧ Xa.cell? ⟨g, off + q * 8 + 2, none⟩ = some (.int .i64 yt) ∧ Xa.cell? ⟨g, off + q * 8 + 3, none⟩ = some (.int .i64 yF) ∧ Xa.cell? ⟨g, off + q * 8 + 4, none⟩ = some (.int .i64 yA) ∧ Xa.cell? ⟨g, off + q * 8 + 5, none⟩ = some (.int .i64 yB) ∧ Xa.cell? ⟨g, off + q * 8 + 6, none⟩ = some (.int .i64 yC) ∧ Xa.cell? ⟨g, off + q * 8 + 7, none⟩ = some (.slice ya yu yc)) from ⟨HXa.out, HYa.out⟩)
                          refine hK.out _ _ hSa.out (fun hHeld => ?_)
                          clear hK K hSa
                          try go_frame
                          refine tk 5 (oi := ⟨some 133, _, _, _, _, none⟩) rfl ?_
                          try go_frame
                          refine tk 6 (oi := ⟨some 134, _, _, _, _, none⟩) rfl ?_
                          try go_frame
                          refine YtejoabaanclcbaaGreat.sk 7 (oi := ⟨some 135, _, _, _, _, some _⟩) rfl ?_
                          try go_frame
                          refine YtejoabaanclcbaaGreat.sk 8 (oi := ⟨some 136, _, _, _, _, some _⟩) rfl ?_
                          try go_frame
                          refine YtejoabaanclcbaaGreat.sk 9 (oi := ⟨some 137, _, _, _, _, some _⟩) rfl ?_
                          try go_frame
                          refine YtejoabaanclcbaaGreat.sk 10 (oi := ⟨some 138, _, _, _, _, some _⟩) rfl ?_
                          try go_frame
                          refine YtejoabaanclcbaaGreat.sk 11 (oi := ⟨some 139, _, _, _, _, some _⟩) rfl ?_
                          try go_frame
                          refine YtejoabaanclcbaaGreat.sk 12 (oi := ⟨some 140, _, _, _, _, some _⟩) rfl ?_
                          try go_frame
                          refine YtejoabaanclcbaaGreat.sk 13 (oi := ⟨some 141, _, _, _, _, some _⟩) rfl ?_
                          try go_frame
                          refine YtejoabaanclcbaaGreat.sk 14 (oi := ⟨some 142, _, _, _, _, some _⟩) rfl ?_
                          try go_frame
                          refine YtejoabaanclcbaaGreat.sk 15 (oi := ⟨some 143, _, _, _, _, some _⟩) rfl ?_
                          try go_frame
                          refine YtejoabaanclcbaaGreat.sk 16 (oi := ⟨some 144, _, _, _, _, some _⟩) rfl ?_
                          try go_frame
                          refine YtejoabaanclcbaaGreat.sk 17 (oi := ⟨some 145, _, _, _, _, some _⟩) rfl ?_
                          try go_frame
                          refine tk 18 (oi := ⟨some 146, _, _, _, _, none⟩) rfl ?_
                          try go_frame
                          refine wpAnyH_done (by kernel_rfl) ?_ _
                          clear hHeld
                          have HOG := Lib.hid (ogto_skip HQ.out.1 (fun h => by rw [HSQ.out.1, hsy] at h; cases h.1))
                          have HSS := Lib.hid (HQ.out.2.1.under DXa.out)
                          have HOW := Lib.hid (own_under HQ.out.2.2.1 DXa.out)
                          have HRS := Lib.hid HQ.out.2.2.2
                          have HXS := Lib.hid (Nat.le_trans HQ.out.2.2.2.2.1 DXa.out.size)
                          clear HQ
                          go_wp2_with fail
                          go_roundw
                          case rel => exact ⟨q + 1, O, Dq, ⟨by omega, by omega⟩, by go_num, Lib.hid ⟨HOG.out, HSS.out, HOW.out, HRS.out.1, HXS.out, HRS.out.2.2⟩⟩
                          case measure => simp [intOf]; omega
                        · by_cases hnm : yn = xn
                          · subst hnm
                            as_aux_lemma =>
                              refine wp_region_held_drew (S := fun w' : World => (w'.cell? ⟨g, off + i * 8, none⟩ = some (.int .i64 xk) ∧ w'.cell? ⟨g, off + i * 8 + 1, none⟩ = some (.string yn) ∧ w'.cell? ⟨g, off + i * 8 + 2, none⟩ = some (.int .i64 xt) ∧ w'.cell? ⟨g, off + i * 8 + 3, none⟩ = some (.int .i64 xF) ∧ w'.cell? ⟨g, off + i * 8 + 4, none⟩ = some (.int .i64 xA) ∧ w'.cell? ⟨g, off + i * 8 + 5, none⟩ = some (.int .i64 xB) ∧ w'.cell? ⟨g, off + i * 8 + 6, none⟩ = some (.int .i64 xC) ∧ w'.cell? ⟨g, off + i * 8 + 7, none⟩ = some (.slice xa xu xc)) ∧ (w'.cell? ⟨g, off + q * 8, none⟩ = some (.int .i64 yk) ∧ w'.cell? ⟨g, off + q * 8 + 1, none⟩ = some (.string yn) ∧ w'.cell? ⟨g, off + q * 8 + 2, none⟩ = some (.int .i64 yt) ∧ w'.cell? ⟨g, off + q * 8 + 3, none⟩ = some (.int .i64 yF) ∧ w'.cell? ⟨g, off + q * 8 + 4, none⟩ = some (.int .i64 yA) ∧ w'.cell? ⟨g, off + q * 8 + 5, none⟩ = some (.int .i64 yB) ∧ w'.cell? ⟨g, off + q * 8 + 6, none⟩ = some (.int .i64 yC) ∧ w'.cell? ⟨g, off + q * 8 + 7, none⟩ = some (.slice ya yu yc))) (by kernel_rfl) hS0.out (fun hHeld => ?_)
                              refine tk 0 (oi := ⟨some 128, _, _, _, _, none⟩) rfl ?_
                              try go_frame
                              refine tk 1 (oi := ⟨some 129, _, _, _, _, none⟩) rfl ?_
                              try go_frame
                              refine tk 2 (oi := ⟨some 130, _, _, _, _, none⟩) rfl ?_
                              try go_frame
                              refine tk 3 (oi := ⟨some 131, _, _, _, _, none⟩) rfl ?_
                              try go_frame
                              refine wpAnyH_ready (rs := [4]) (by kernel_rfl) (by simp) ?_
                              refine AllReadyH.cons (o := ⟨some 132, _, _, _, _, none⟩) rfl (fun K hK => ?_) AllReadyH.nil
                              have hd : Below wr.heap.size wr wr.drew := ⟨rfl, rfl, rfl, Nat.le_refl _, fun _ _ => rfl⟩
                              go_simp
                              refine (refSea_any yk yn yt yF yA yB yC ya yu yc _).mono ?_
                              rintro e Xa ⟨rfl, hbXa⟩
                              have DXa := Lib.hid (hd.trans (hbXa.mono hd.size))
                              have HXa := Lib.hid (HX.out.under HGL.out DXa.out)
                              have HYa := Lib.hid (HY.out.under HGL.out DXa.out)
                              clear hd hbXa hHeld hS0
                              rw [hsy]
                              go_wp2_with fail
                              have hSa := Lib.hid (show (Xa.cell? ⟨g, off + i * 8, none⟩ = some (.int .i64 xk) ∧ Xa.cell? ⟨g, off + i * 8 + 1, none⟩ = some (.string yn) ∧ Xa.cell? ⟨g, off + i * 8 + 2, none⟩ = some (.int .i64 xt) ∧ Xa.cell? ⟨g, off + i * 8 + 3, none⟩ = some (.int .i64 xF) ∧ Xa.cell? ⟨g, off + i * 8 + 4, none⟩ = some (.int .i64 xA) ∧ Xa.cell? ⟨g, off + i * 8 + 5, none⟩ = some (.int .i64 xB) ∧ Xa.cell? ⟨g, off + i * 8 + 6, none⟩ = some (.int .i64 xC) ∧ Xa.cell? ⟨g, off + i * 8 + 7, none⟩ = some (.slice xa xu xc)) ∧ (Xa.cell? ⟨g, off + q * 8, none⟩ = some (.int .i64 yk) ∧ Xa.cell? ⟨g, off + q * 8 + 1, none⟩ = some (.string yn) ∧ Xa.cell? ⟨g, off + q * 8 + 2, none⟩ = some (.int .i64 yt) ∧ Xa.cell? ⟨g, off + q * 8 + 3, none⟩ = some (.int .i64 yF) ∧ Xa.cell? ⟨g, off + q * 8 + 4, none⟩ = some (.int .i64 yA) ∧ Xa.cell? ⟨g, off + q * 8 + 5, none⟩ = some (.int .i64 yB) ∧ Xa.cell? ⟨g, off + q * 8 + 6, none⟩ = some (.int .i64 yC) ∧ Xa.cell? ⟨g, off + q * 8 + 7, none⟩ = some (.slice ya yu yc)) from ⟨HXa.out, HYa.out⟩)
                              refine hK.out _ _ hSa.out (fun hHeld => ?_)
                              clear hK K hSa
                              try go_frame
                              refine tk 5 (oi := ⟨some 133, _, _, _, _, none⟩) rfl ?_
                              try go_frame
                              refine tk 6 (oi := ⟨some 134, _, _, _, _, none⟩) rfl ?_
                              try go_frame
                              refine tk 7 (oi := ⟨some 135, _, _, _, _, some _⟩) rfl ?_
                              try go_frame
                              refine tk 8 (oi := ⟨some 136, _, _, _, _, some _⟩) rfl ?_
                              try go_frame
                              refine tk 9 (oi := ⟨some 137, _, _, _, _, some _⟩) rfl ?_
                              try go_frame
                              refine tk 10 (oi := ⟨some 138, _, _, _, _, some _⟩) rfl ?_
                              try go_frame
                              refine tk 11 (oi := ⟨some 139, _, _, _, _, some _⟩) rfl ?_
                              try go_frame
                              refine tk 12 (oi := ⟨some 140, _, _, _, _, some _⟩) rfl ?_
                              try go_frame
                              refine tk 13 (oi := ⟨some 141, _, _, _, _, some _⟩) rfl ?_
                              try go_frame
                              refine tk 14 (oi := ⟨some 142, _, _, _, _, some _⟩) rfl ?_
                              try go_frame
                              refine tk 15 (oi := ⟨some 143, _, _, _, _, some _⟩) rfl ?_
                              try go_frame
                              refine tk 16 (oi := ⟨some 144, _, _, _, _, some _⟩) rfl ?_
                              try go_frame
                              refine tk 17 (oi := ⟨some 145, _, _, _, _, some _⟩) rfl ?_
                              try go_frame
                              refine tk 18 (oi := ⟨some 146, _, _, _, _, none⟩) rfl ?_
                              try go_frame
                              refine wpAnyH_done (by kernel_rfl) ?_ _
                              clear hHeld
                              have HSS := Lib.hid (HQ.out.2.1.under DXa.out)
                              have HOW := Lib.hid (own_under HQ.out.2.2.1 DXa.out)
                              have HDN2 := Lib.hid HQ.out.2.2.2.1
                              have HXS := Lib.hid (Nat.le_trans HQ.out.2.2.2.2.1 DXa.out.size)
                              have HNZ := Lib.hid HQ.out.2.2.2.2.2
                              have HOG := Lib.hid HQ.out.1
                              have HOL := Lib.hid (show O.length ≤ 12 by have := ogto_len HQ.out.1 (by rw [HN.out]; exact hqn); rw [HN.out] at this; omega)
                              clear HQ HBQ
                              obtain ⟨c1, c1'⟩ := HSS.out.done.at_ hq
                              have HS2 := Lib.hid (HSS.out.setD q true)
                              have HOW2 := Lib.hid (own_far (j := q) (x := .bool true) HOW.out (g := W2.heap.size + 1) (by have := HX0S.out; omega))
                              have HXS2 : Hid (X0.heap.size ≤ (Xa.setCell ⟨W2.heap.size + 1, q, none⟩ (.bool true)).heap.size) := Lib.hid (by rw [World.size_setCell]; exact HXS.out)
                              obtain ⟨A2, c2, rfl⟩ := own_form HOW2.out
                              clear HSS HOW HXS
                              go_upto_region 29 with fail
                              clear c1 c1' HX HY HXa HYa HGL DXa
                              generalize hX6 : Xa.setCell ⟨W2.heap.size + 1, q, none⟩ (.bool true) = X6 at *
                              clear hX6
                              have HB6 := Lib.hid (HB2.out.trans (HS2.out.b.mono HB2.out.size))
                              obtain ⟨i0', hi', hz0, hz1, hz2⟩ := info_parts infoInt0
                              go_loopw [14] (fun t wr => ∃ p : Nat, p ≤ O.length ∧ t = .int .i64 p ∧ Hid (∀ a, ∀ ha : a < O.length, a < p → (sg R O[a]).t < (sg R q).t) ∧ Hid (Below X6.heap.size X6 wr)) (fun t _ => O.length - (intOf t).toNat)
                              case atStart => exact ⟨0, Nat.zero_le _, rfl, Lib.hid (fun a _ h => by omega), Lib.hid (Below.refl _ _)⟩
                              case round =>
                                obtain ⟨p, hp, rfl, HP, HB7⟩ := hrel
                                have HO7 := Lib.hid (own_under HOW2.out HB7.out)
                                have HS7 := Lib.hid (HS2.out.under HB7.out)
                                have HX7 := Lib.hid (Nat.le_trans HXS2.out HB7.out.size)
                                by_cases hpl : p < O.length
                                · have k1 : (p : Int) < (O.length : Int) := by omega
                                  have k2 : (0 : Int) ≤ (p : Int) := by omega
                                  obtain ⟨g2, cg, e0, hc1', hc2', hcell⟩ := il_at (IlB.zero HO7.out) hpl
                                  injection e0 with e0 e1 e2
                                  subst e0
                                  subst e2
                                  clear e1
                                  have HXQ := Lib.hid (((HOG.out.mem _).1 (List.getElem_mem hpl)).1.2)
                                  have HXR : Hid (O[p] < R.length) := Lib.hid (by rw [HN.out]; have := HXQ.out; omega)
                                  have h8x := (HAT.out (O[p]) HXR.out).under HGW.out (HB6.out.trans (HB7.out.mono HB6.out.size))
                                  have h8y := HYW.out.under HGW.out (HB6.out.trans (HB7.out.mono HB6.out.size))
                                  have HC1 := Lib.hid (show (R[O[p]]'HXR.out).t < yt → ∀ a, ∀ ha : a < O.length, a < p + 1 → (sg R O[a]).t < (sg R q).t from fun hz a ha hap => by
                                    rcases (by omega : a < p ∨ a = p) with h | rfl
                                    · exact HP.out a ha h
                                    · rw [sg_at HXR.out, HSQ.out.2.2]; exact hz)
                                  have HC2 := Lib.hid (show ¬ (R[O[p]]'HXR.out).t < yt → OgTo R yn i (q + 1) (insQ p q O) from fun hz => ogto_ins HOG.out hiq (by rw [HSQ.out.1, hsy]) HSQ.out.2.1 (fun b hb => HNODUP.out q b hb (by rw [HN.out]; exact hq)) HP.out (fun _ => by rw [sg_at HXR.out, HSQ.out.2.2]; exact hz))
                                  have hxn : O[p] < n := by have := HXQ.out; omega
                                  clear HP
                                  generalize O[p] = x at *
                                  generalize R[x]'HXR.out = r at *
                                  obtain ⟨zk, zn, zt, zF, zA, zB, zC, za, zu, zc⟩ := r
                                  obtain ⟨p0, p1, p2, p3, p4, p5, p6, p7⟩ := h8x
                                  obtain ⟨y0, y1, y2, y3, y4, y5, y6, y7⟩ := h8y
                                  simp only at p0 p1 p2 p3 p4 p5 p6 p7 y0 y1 y2 y3 y4 y5 y6 y7 HC1 HC2
                                  have x1 : (0 : Int) ≤ (x : Int) := by omega
                                  have x2 : (x : Int) < (n : Int) := by omega
                                  by_cases ht : zt < yt
                                  · have HN1 := Lib.hid (HC1.out ht)
                                    clear HC1 HC2
                                    go_upto_region 29 with fail
                                    refine wp_region_held_drew (S := fun w' : World => w'.cell? ⟨g2, p, none⟩ = some (.int .i64 (x : Int)) ∧ w'.cell? ⟨g, off + x * 8 + 2, none⟩ = some (.int .i64 zt) ∧ w'.cell? ⟨g, off + q * 8 + 2, none⟩ = some (.int .i64 yt)) (by kernel_rfl) ⟨hcell, p2, y2⟩ (fun hHeld => ?_)
                                    refine tk 0 (oi := ⟨some 150, _, _, _, _, none⟩) rfl ?_
                                    try go_frame
                                    refine tk 1 (oi := ⟨some 151, _, _, _, _, none⟩) rfl ?_
                                    try go_frame
                                    refine tk 2 (oi := ⟨some 152, _, _, _, _, none⟩) rfl ?_
                                    try go_frame
                                    refine tk 3 (oi := ⟨some 153, _, _, _, _, none⟩) rfl ?_
                                    try go_frame
                                    refine tk 4 (oi := ⟨some 154, _, _, _, _, none⟩) rfl ?_
                                    try go_frame
                                    refine tk 5 (oi := ⟨some 155, _, _, _, _, some _⟩) rfl ?_
                                    try go_frame
                                    refine tk 6 (oi := ⟨some 156, _, _, _, _, some _⟩) rfl ?_
                                    try go_frame
                                    refine tk 7 (oi := ⟨some 157, _, _, _, _, some _⟩) rfl ?_
                                    try go_frame
                                    refine tk 8 (oi := ⟨some 158, _, _, _, _, some _⟩) rfl ?_
                                    try go_frame
                                    refine tk 9 (oi := ⟨some 159, _, _, _, _, some _⟩) rfl ?_
                                    try go_frame
                                    refine tk 10 (oi := ⟨some 160, _, _, _, _, some _⟩) rfl ?_
                                    try go_frame
                                    refine tk 11 (oi := ⟨some 161, _, _, _, _, some _⟩) rfl ?_
                                    try go_frame
                                    refine tk 12 (oi := ⟨some 162, _, _, _, _, some _⟩) rfl ?_
                                    try go_frame
                                    refine tk 13 (oi := ⟨some 163, _, _, _, _, some _⟩) rfl ?_
                                    try go_frame
                                    refine tk 14 (oi := ⟨some 164, _, _, _, _, some _⟩) rfl ?_
                                    try go_frame
                                    refine tk 15 (oi := ⟨some 165, _, _, _, _, some _⟩) rfl ?_
                                    try go_frame
                                    refine tk 16 (oi := ⟨some 166, _, _, _, _, some _⟩) rfl ?_
                                    try go_frame
                                    refine tk 17 (oi := ⟨some 167, _, _, _, _, some _⟩) rfl ?_
                                    try go_frame
                                    refine tk 18 (oi := ⟨some 168, _, _, _, _, some _⟩) rfl ?_
                                    try go_frame
                                    refine tk 19 (oi := ⟨some 169, _, _, _, _, none⟩) rfl ?_
                                    try go_frame
                                    refine wpAnyH_done (by kernel_rfl) ?_ _
                                    have hdd : Below wr.heap.size wr wr.drew := ⟨rfl, rfl, rfl, Nat.le_refl _, fun _ _ => rfl⟩
                                    have HB8 := Lib.hid (HB7.out.trans (hdd.mono HB7.out.size))
                                    clear hHeld hdd HB7 HO7 HS7 HX7 hcell p0 p1 p2 p3 p4 p5 p6 p7 y0 y1 y2 y3 y4 y5 y6 y7
                                    go_wp2_with fail
                                    go_roundw
                                    case rel => exact ⟨p + 1, by omega, by go_num, HN1, HB8⟩
                                    case measure => simp [intOf]; omega
                                  · have HOGN := Lib.hid (HC2.out ht)
                                    clear HC1 HC2
                                    go_upto_region 29 with fail
                                    refine wp_region_held_drew (S := fun w' : World => w'.cell? ⟨g2, p, none⟩ = some (.int .i64 (x : Int)) ∧ w'.cell? ⟨g, off + x * 8 + 2, none⟩ = some (.int .i64 zt) ∧ w'.cell? ⟨g, off + q * 8 + 2, none⟩ = some (.int .i64 yt)) (by kernel_rfl) ⟨hcell, p2, y2⟩ (fun hHeld => ?_)
                                    refine tk 0 (oi := ⟨some 150, _, _, _, _, none⟩) rfl ?_
                                    try go_frame
                                    refine tk 1 (oi := ⟨some 151, _, _, _, _, none⟩) rfl ?_
                                    try go_frame
                                    refine tk 2 (oi := ⟨some 152, _, _, _, _, none⟩) rfl ?_
                                    try go_frame
                                    refine tk 3 (oi := ⟨some 153, _, _, _, _, none⟩) rfl ?_
                                    try go_frame
                                    refine tk 4 (oi := ⟨some 154, _, _, _, _, none⟩) rfl ?_
                                    try go_frame
                                    refine tk 5 (oi := ⟨some 155, _, _, _, _, some _⟩) rfl ?_
                                    try go_frame
                                    refine tk 6 (oi := ⟨some 156, _, _, _, _, some _⟩) rfl ?_
                                    try go_frame
                                    refine tk 7 (oi := ⟨some 157, _, _, _, _, some _⟩) rfl ?_
                                    try go_frame
                                    refine tk 8 (oi := ⟨some 158, _, _, _, _, some _⟩) rfl ?_
                                    try go_frame
                                    refine tk 9 (oi := ⟨some 159, _, _, _, _, some _⟩) rfl ?_
                                    try go_frame
                                    refine tk 10 (oi := ⟨some 160, _, _, _, _, some _⟩) rfl ?_
                                    try go_frame
                                    refine tk 11 (oi := ⟨some 161, _, _, _, _, some _⟩) rfl ?_
                                    try go_frame
                                    refine tk 12 (oi := ⟨some 162, _, _, _, _, some _⟩) rfl ?_
                                    try go_frame
                                    refine tk 13 (oi := ⟨some 163, _, _, _, _, some _⟩) rfl ?_
                                    try go_frame
                                    refine tk 14 (oi := ⟨some 164, _, _, _, _, some _⟩) rfl ?_
                                    try go_frame
                                    refine tk 15 (oi := ⟨some 165, _, _, _, _, some _⟩) rfl ?_
                                    try go_frame
                                    refine tk 16 (oi := ⟨some 166, _, _, _, _, some _⟩) rfl ?_
                                    try go_frame
                                    refine tk 17 (oi := ⟨some 167, _, _, _, _, some _⟩) rfl ?_
                                    try go_frame
                                    refine tk 18 (oi := ⟨some 168, _, _, _, _, some _⟩) rfl ?_
                                    try go_frame
                                    refine tk 19 (oi := ⟨some 169, _, _, _, _, none⟩) rfl ?_
                                    try go_frame
                                    refine wpAnyH_done (by kernel_rfl) ?_ _
                                    have hdd : Below wr.heap.size wr wr.drew := ⟨rfl, rfl, rfl, Nat.le_refl _, fun _ _ => rfl⟩
                                    have HB8 := Lib.hid (HB7.out.trans (hdd.mono HB7.out.size))
                                    clear hHeld hdd HB7 HO7 HS7 HX7 hcell p0 p1 p2 p3 p4 p5 p6 p7 y0 y1 y2 y3 y4 y5 y6 y7
                                    generalize hX8 : wr.drew = X8 at *
                                    clear hX8
                                    have HO7 := Lib.hid (own_under HOW2.out HB8.out)
                                    have HS7 := Lib.hid (HS2.out.under HB8.out)
                                    have HX7 := Lib.hid (Nat.le_trans HXS2.out HB8.out.size)
                                    have HQL := Lib.hid (insQ_len (q := q) hp)
                                    have HCE := Lib.hid (ic_cells HO7.out)
                                    have HGL2 := Lib.hid (own_lt HO7.out rfl).2
                                    have KL := Lib.hid (show p < O.length ∧ O.length ≤ 12 ∧ O.length ≤ c2 ∧ c2 ≤ maxLen from ⟨hpl, HOL.out, hc1', by unfold maxLen; omega⟩)
                                    have m1 : (p : Int) ≤ (O.length : Int) := by omega
                                    have m2 : (p : Int) ≤ (c2 : Int) := by omega
                                    have m3 : (O.length : Int) ≤ (c2 : Int) := by omega
                                    have m4 : ¬ c2 = p := by omega
                                    have BA : Hid (Below X8.heap.size X8 (X8.alloc (.cells #[.int .i64 (q : Int)] 3))) := Lib.hid ((Below.refl _ _).alloc (Nat.le_refl _) _)
                                    have HA : Hid (∀ (j : Nat) (u : Value), (ic O)[j]? = some u → (X8.alloc (.cells #[.int .i64 (q : Int)] 3)).cell? ⟨g2, j, none⟩ = some u) := Lib.hid (fun j u hu => (BA.out.cell (p := ⟨g2, j, none⟩) HGL2.out).trans (HCE.out j u hu))
                                    have HDL : Hid ((ic (O.drop p)).length = (O.length - p) * 1 ∧ (ic (O.take p)).length = p * 1) := Lib.hid ⟨by rw [ic_len, List.length_drop], by rw [ic_len, List.length_take]; omega⟩
                                    have HDL3 : Hid ((ic (q :: O.drop p)).length = (1 + (O.length - p)) * 1) := Lib.hid (by rw [ic_len, List.length_cons, List.length_drop]; omega)
                                    clear hc1' hc2' hp
                                    go_wp2_with (at_builtin; first | go_loud (refine wpList_append_grows _ rfl (.tmp 173) (.tmp 176) 23 rfl 3 i0' _ 1 8 Tryz.underlying23 hi' hz0 hz1 hz2 rfl (by decide) (some ⟨X8.heap.size, 0, none⟩) 1 1 (ic [q]) rfl (fun h => by cases h) rfl (fun b h => by cases h; exact (World.news_of_block (cs := #[.int .i64 (q : Int)]) (t := 3) (fr := (0, 0)) (heap_alloc_new X8 _))) ⟨g2, p, none⟩ (O.length - p) (c2 - p) (ic (O.drop p)) rfl HDL.out.1 (fun j u hu => by rw [Addr.add_lit]; exact HA.out _ u (ic_cut p j u hu)) (ic_one _) (by have := KL.out; omega) (by have := KL.out; unfold maxLen; omega) (by have := KL.out; omega) ?_; intro v2 w2 hown2 hgr2; have HO2 := Lib.hid hown2; have HG2 := Lib.hid (below_new hgr2); have HN2 := Lib.hid (ic_some (C := q :: O.drop p) (n := 1 + (O.length - p)) hown2 (Nat.lt_of_lt_of_le Nat.zero_lt_one (Nat.le_add_right _ _))); obtain ⟨g5, cap5, rfl, hg5, hc5, hm5, -, -⟩ := HN2.out; clear hown2 hgr2 HN2) | go_loud (refine wpList_append_grows _ rfl (.tmp 181) (.tmp 182) 23 rfl 3 i0' _ 1 8 Tryz.underlying23 hi' hz0 hz1 hz2 rfl (by decide) (some ⟨g2, 0, none⟩) p p (ic (O.take p)) rfl (fun h => by cases h) HDL.out.2 (fun b h j u hu => by cases h; rw [Addr.add_lit, Nat.zero_add, (HG2.out.cell (p := ⟨g2, j, none⟩) (Nat.lt_of_lt_of_le HGL2.out BA.out.size))]; exact HA.out _ u (ic_beg p j u hu)) ⟨g5, 0, none⟩ (1 + (O.length - p)) cap5 (ic (q :: O.drop p)) rfl HDL3.out (fun j u hu => by rw [Addr.add_lit, Nat.zero_add]; exact hc5 j u hu) (ic_one _) (by have := KL.out; omega) (by have := KL.out; unfold maxLen; omega) (by have := KL.out; omega) ?_; intro v3 w3 hown3 hgr3; have HO3 := Lib.hid hown3; have HG3 := Lib.hid (below_new hgr3); clear hown3 hgr3))
                                    have HBF := Lib.hid ((BA.out.trans (HG2.out.mono BA.out.size)).trans (HG3.out.mono (BA.out.trans (HG2.out.mono BA.out.size)).size))
                                    have HREL := Lib.hid (ins_rel (X0 := X0) HOGN.out HS7.out HDN2.out HBF.out (by have h := HO3.out; rw [← ic_app] at h; exact h) (by rw [HQL.out]; have := KL.out; omega) (Nat.le_trans HX7.out (BA.out.trans (HG2.out.mono BA.out.size)).size) HX7.out)
                                    go_roundw
                                    case rel => exact ⟨q + 1, insQ p q O, _, ⟨by omega, by omega⟩, by go_num, HREL⟩
                                    case measure => simp [intOf]; omega
                                · have k1 : ¬ (p : Int) < (O.length : Int) := by omega
                                  obtain rfl : p = O.length := by omega
                                  have HOGN := Lib.hid (show OgTo R yn i (q + 1) (insQ O.length q O) from ogto_ins HOG.out hiq (by rw [HSQ.out.1, hsy]) HSQ.out.2.1 (fun b hb => HNODUP.out q b hb (by rw [HN.out]; exact hq)) HP.out (fun h => absurd h (by omega)))
                                  have HQL := Lib.hid (insQ_len (q := q) (O := O) (Nat.le_refl _))
                                  clear HP hp hpl
                                  go_upto_region 29 with fail
                                  refine wp_region_held_drew (S := fun _ : World => True) (by kernel_rfl) trivial (fun hHeld => ?_)
                                  refine tk 0 (oi := ⟨some 150, _, _, _, _, none⟩) rfl ?_
                                  try go_frame
                                  refine tk 1 (oi := ⟨some 151, _, _, _, _, none⟩) rfl ?_
                                  try go_frame
                                  refine tk 2 (oi := ⟨some 152, _, _, _, _, none⟩) rfl ?_
                                  try go_frame
                                  refine tk 3 (oi := ⟨some 153, _, _, _, _, none⟩) rfl ?_
                                  try go_frame
                                  refine tk 4 (oi := ⟨some 154, _, _, _, _, none⟩) rfl ?_
                                  try go_frame
                                  refine YtejoabaanclcbaaGreat.sk 5 (oi := ⟨some 155, _, _, _, _, some _⟩) rfl ?_
                                  try go_frame
                                  refine YtejoabaanclcbaaGreat.sk 6 (oi := ⟨some 156, _, _, _, _, some _⟩) rfl ?_
                                  try go_frame
                                  refine YtejoabaanclcbaaGreat.sk 7 (oi := ⟨some 157, _, _, _, _, some _⟩) rfl ?_
                                  try go_frame
                                  refine YtejoabaanclcbaaGreat.sk 8 (oi := ⟨some 158, _, _, _, _, some _⟩) rfl ?_
                                  try go_frame
                                  refine YtejoabaanclcbaaGreat.sk 9 (oi := ⟨some 159, _, _, _, _, some _⟩) rfl ?_
                                  try go_frame
                                  refine YtejoabaanclcbaaGreat.sk 10 (oi := ⟨some 160, _, _, _, _, some _⟩) rfl ?_
                                  try go_frame
                                  refine YtejoabaanclcbaaGreat.sk 11 (oi := ⟨some 161, _, _, _, _, some _⟩) rfl ?_
                                  try go_frame
                                  refine YtejoabaanclcbaaGreat.sk 12 (oi := ⟨some 162, _, _, _, _, some _⟩) rfl ?_
                                  try go_frame
                                  refine YtejoabaanclcbaaGreat.sk 13 (oi := ⟨some 163, _, _, _, _, some _⟩) rfl ?_
                                  try go_frame
                                  refine YtejoabaanclcbaaGreat.sk 14 (oi := ⟨some 164, _, _, _, _, some _⟩) rfl ?_
                                  try go_frame
                                  refine YtejoabaanclcbaaGreat.sk 15 (oi := ⟨some 165, _, _, _, _, some _⟩) rfl ?_
                                  try go_frame
                                  refine YtejoabaanclcbaaGreat.sk 16 (oi := ⟨some 166, _, _, _, _, some _⟩) rfl ?_
                                  try go_frame
                                  refine YtejoabaanclcbaaGreat.sk 17 (oi := ⟨some 167, _, _, _, _, some _⟩) rfl ?_
                                  try go_frame
                                  refine YtejoabaanclcbaaGreat.sk 18 (oi := ⟨some 168, _, _, _, _, some _⟩) rfl ?_
                                  try go_frame
                                  refine tk 19 (oi := ⟨some 169, _, _, _, _, none⟩) rfl ?_
                                  try go_frame
                                  refine wpAnyH_done (by kernel_rfl) ?_ _
                                  have hdd : Below wr.heap.size wr wr.drew := ⟨rfl, rfl, rfl, Nat.le_refl _, fun _ _ => rfl⟩
                                  have HB8 := Lib.hid (HB7.out.trans (hdd.mono HB7.out.size))
                                  clear hHeld hdd HB7 HO7 HS7 HX7
                                  clear k1
                                  generalize hX8 : wr.drew = X8 at *
                                  clear hX8
                                  have HO7 := Lib.hid (own_under HOW2.out HB8.out)
                                  have HS7 := Lib.hid (HS2.out.under HB8.out)
                                  have HX7 := Lib.hid (Nat.le_trans HXS2.out HB8.out.size)
                                  have BA : Hid (Below X8.heap.size X8 (X8.alloc (.cells #[.int .i64 (q : Int)] 3))) := Lib.hid ((Below.refl _ _).alloc (Nat.le_refl _) _)
                                  by_cases hO : O.length = 0
                                  · have HO0 := Lib.hid (List.eq_nil_of_length_eq_zero hO)
                                    have hz := HNZ.out HO0.out
                                    injection hz with a1 a2 a3
                                    subst a1
                                    subst a3
                                    clear a2
                                    rw [hO]
                                    clear hO
                                    go_wp2_with (at_builtin; first | (refine wpList_append_nothing _ rfl (.tmp 173) (.tmp 176) 23 rfl 3 i0' Tryz.underlying23 hi' _ 1 1 (Nat.le_refl _) rfl _ rfl (Go.Src.ofNil _ Tryz.underlying23 0) ?_) | go_loud (refine wpList_append_grows _ rfl (.tmp 181) (.tmp 182) 23 rfl 3 i0' _ 1 8 Tryz.underlying23 hi' hz0 hz1 hz2 rfl (by decide) none 0 0 [] rfl (fun _ => ⟨rfl, rfl⟩) rfl (fun b h => by cases h) ⟨X8.heap.size, 0, none⟩ 1 1 (ic [q]) rfl rfl (World.news_of_block (cs := #[.int .i64 (q : Int)]) (t := 3) (fr := (0, 0)) (heap_alloc_new X8 _)) (ic_one _) (by omega) (by decide) (by decide) ?_; intro v3 w3 hown3 hgr3; have HO3 := Lib.hid hown3; have HG3 := Lib.hid (below_new hgr3); clear hown3 hgr3))
                                    have HBF := Lib.hid (BA.out.trans (HG3.out.mono BA.out.size))
                                    have HREL := Lib.hid (ins_rel (X0 := X0) HOGN.out HS7.out HDN2.out HBF.out (by rw [HO0.out]; exact HO3.out) (by rw [HQL.out, HO0.out]; rfl) (Nat.le_trans HX7.out BA.out.size) HX7.out)
                                    go_roundw
                                    case rel => exact ⟨q + 1, insQ O.length q O, _, ⟨by omega, by omega⟩, by go_num, HREL⟩
                                    case measure => simp [intOf]; omega
                                  · obtain ⟨g2, cap5, e0, hgl, hce, hmx, hle, -⟩ := ic_some HO7.out (Nat.pos_of_ne_zero hO)
                                    injection e0 with e0 e1 e2
                                    subst e0
                                    subst e2
                                    clear e1
                                    have HA : Hid (∀ (j : Nat) (u : Value), (ic O)[j]? = some u → (X8.alloc (.cells #[.int .i64 (q : Int)] 3)).cell? ⟨g2, j, none⟩ = some u) := Lib.hid (fun j u hu => (BA.out.cell (p := ⟨g2, j, none⟩) hgl).trans (hce j u hu))
                                    have m0 : (0 : Int) ≤ (O.length : Int) := by omega
                                    have m3 : (O.length : Int) ≤ (c2 : Int) := by omega
                                    clear hce hgl
                                    by_cases hcap : c2 = O.length
                                    · subst hcap
                                      go_wp2_with (at_builtin; first | (refine wpList_append_nothing _ rfl (.tmp 173) (.tmp 176) 23 rfl 3 i0' Tryz.underlying23 hi' _ 1 1 (Nat.le_refl _) rfl _ rfl (Go.Src.ofSlice _ Tryz.underlying23 _ 0 _ [] (by simp) (fun j u h => by simp at h) (fun u h => by cases h)) ?_) | go_loud (refine wpList_append_grows _ rfl (.tmp 181) (.tmp 182) 23 rfl 3 i0' _ 1 8 Tryz.underlying23 hi' hz0 hz1 hz2 rfl (by decide) (some ⟨g2, 0, none⟩) O.length O.length (ic O) rfl (fun h => by cases h) (ic_len _) (fun b h j u hu => by cases h; rw [Addr.add_lit, Nat.zero_add]; exact HA.out j u hu) ⟨X8.heap.size, 0, none⟩ 1 1 (ic [q]) rfl rfl (World.news_of_block (cs := #[.int .i64 (q : Int)]) (t := 3) (fr := (0, 0)) (heap_alloc_new X8 _)) (ic_one _) (by have := HOL.out; omega) (by have := HOL.out; unfold maxLen; omega) (by have := HOL.out; omega) ?_; intro v3 w3 hown3 hgr3; have HO3 := Lib.hid hown3; have HG3 := Lib.hid (below_new hgr3); clear hown3 hgr3))
                                      have HBF := Lib.hid (BA.out.trans (HG3.out.mono BA.out.size))
                                      have HREL := Lib.hid (ins_rel (X0 := X0) HOGN.out HS7.out HDN2.out HBF.out (by have h := HO3.out; rw [← ic_app] at h; rw [show insQ O.length q O = O ++ [q] by unfold insQ; rw [List.take_length, List.drop_length]]; exact h) (by rw [HQL.out]) (Nat.le_trans HX7.out BA.out.size) HX7.out)
                                      go_roundw
                                      case rel => exact ⟨q + 1, insQ O.length q O, _, ⟨by omega, by omega⟩, by go_num, HREL⟩
                                      case measure => simp [intOf]; omega
                                    · have m4 : ¬ c2 = O.length := hcap
                                      clear hcap
                                      go_wp2_with (at_builtin; first | (refine wpList_append_nothing _ rfl (.tmp 173) (.tmp 176) 23 rfl 3 i0' Tryz.underlying23 hi' _ 1 1 (Nat.le_refl _) rfl _ rfl (Go.Src.ofSlice _ Tryz.underlying23 _ 0 _ [] (by simp) (fun j u h => by simp at h) (fun u h => by cases h)) ?_) | go_loud (refine wpList_append_grows _ rfl (.tmp 181) (.tmp 182) 23 rfl 3 i0' _ 1 8 Tryz.underlying23 hi' hz0 hz1 hz2 rfl (by decide) (some ⟨g2, 0, none⟩) O.length O.length (ic O) rfl (fun h => by cases h) (ic_len _) (fun b h j u hu => by cases h; rw [Addr.add_lit, Nat.zero_add]; exact HA.out j u hu) ⟨X8.heap.size, 0, none⟩ 1 1 (ic [q]) rfl rfl (World.news_of_block (cs := #[.int .i64 (q : Int)]) (t := 3) (fr := (0, 0)) (heap_alloc_new X8 _)) (ic_one _) (by have := HOL.out; omega) (by have := HOL.out; unfold maxLen; omega) (by have := HOL.out; omega) ?_; intro v3 w3 hown3 hgr3; have HO3 := Lib.hid hown3; have HG3 := Lib.hid (below_new hgr3); clear hown3 hgr3))
                                      have HBF := Lib.hid (BA.out.trans (HG3.out.mono BA.out.size))
                                      have HREL := Lib.hid (ins_rel (X0 := X0) HOGN.out HS7.out HDN2.out HBF.out (by have h := HO3.out; rw [← ic_app] at h; rw [show insQ O.length q O = O ++ [q] by unfold insQ; rw [List.take_length, List.drop_length]]; exact h) (by rw [HQL.out]) (Nat.le_trans HX7.out BA.out.size) HX7.out)
                                      go_roundw
                                      case rel => exact ⟨q + 1, insQ O.length q O, _, ⟨by omega, by omega⟩, by go_num, HREL⟩
                                      case measure => simp [intOf]; omega
                          · have hnm2 := nm_ne hnm
                            have hnm3 : (yn.toList != xn.toList) = true := by unfold bne; rw [hnm2]; rfl
                            refine wp_region_held_drew (S := fun w' : World => (w'.cell? ⟨g, off + i * 8, none⟩ = some (.int .i64 xk) ∧ w'.cell? ⟨g, off + i * 8 + 1, none⟩ = some (.string xn) ∧ w'.cell? ⟨g, off + i * 8 + 2, none⟩ = some (.int .i64 xt) ∧ w'.cell? ⟨g, off + i * 8 + 3, none⟩ = some (.int .i64 xF) ∧ w'.cell? ⟨g, off + i * 8 + 4, none⟩ = some (.int .i64 xA) ∧ w'.cell? ⟨g, off + i * 8 + 5, none⟩ = some (.int .i64 xB) ∧ w'.cell? ⟨g, off + i * 8 + 6, none⟩ = some (.int .i64 xC) ∧ w'.cell? ⟨g, off + i * 8 + 7, none⟩ = some (.slice xa xu xc)) ∧ (w'.cell? ⟨g, off + q * 8, none⟩ = some (.int .i64 yk) ∧ w'.cell? ⟨g, off + q * 8 + 1, none⟩ = some (.string yn) ∧ w'.cell? ⟨g, off + q * 8 + 2, none⟩ = some (.int .i64 yt) ∧ w'.cell? ⟨g, off + q * 8 + 3, none⟩ = some (.int .i64 yF) ∧ w'.cell? ⟨g, off + q * 8 + 4, none⟩ = some (.int .i64 yA) ∧ w'.cell? ⟨g, off + q * 8 + 5, none⟩ = some (.int .i64 yB) ∧ w'.cell? ⟨g, off + q * 8 + 6, none⟩ = some (.int .i64 yC) ∧ w'.cell? ⟨g, off + q * 8 + 7, none⟩ = some (.slice ya yu yc))) (by kernel_rfl) hS0.out (fun hHeld => ?_)
                            refine tk 0 (oi := ⟨some 128, _, _, _, _, none⟩) rfl ?_
                            try go_frame
                            refine tk 1 (oi := ⟨some 129, _, _, _, _, none⟩) rfl ?_
                            try go_frame
                            refine tk 2 (oi := ⟨some 130, _, _, _, _, none⟩) rfl ?_
                            try go_frame
                            refine tk 3 (oi := ⟨some 131, _, _, _, _, none⟩) rfl ?_
                            try go_frame
                            refine wpAnyH_ready (rs := [4]) (by kernel_rfl) (by simp) ?_
                            refine AllReadyH.cons (o := ⟨some 132, _, _, _, _, none⟩) rfl (fun K hK => ?_) AllReadyH.nil
                            have hd : Below wr.heap.size wr wr.drew := ⟨rfl, rfl, rfl, Nat.le_refl _, fun _ _ => rfl⟩
                            go_simp
                            refine (refSea_any yk yn yt yF yA yB yC ya yu yc _).mono ?_
                            rintro e Xa ⟨rfl, hbXa⟩
                            have DXa := Lib.hid (hd.trans (hbXa.mono hd.size))
                            have HXa := Lib.hid (HX.out.under HGL.out DXa.out)
                            have HYa := Lib.hid (HY.out.under HGL.out DXa.out)
                            clear hd hbXa hHeld hS0
                            rw [hsy]
                            go_wp2_with fail
                            have hSa := Lib.hid (show (Xa.cell? ⟨g, off + i * 8, none⟩ = some (.int .i64 xk) ∧ Xa.cell? ⟨g, off + i * 8 + 1, none⟩ = some (.string xn) ∧ Xa.cell? ⟨g, off + i * 8 + 2, none⟩ = some (.int .i64 xt) ∧ Xa.cell? ⟨g, off + i * 8 + 3, none⟩ = some (.int .i64 xF) ∧ Xa.cell? ⟨g, off + i * 8 + 4, none⟩ = some (.int .i64 xA) ∧ Xa.cell? ⟨g, off + i * 8 + 5, none⟩ = some (.int .i64 xB) ∧ Xa.cell? ⟨g, off + i * 8 + 6, none⟩ = some (.int .i64 xC) ∧ Xa.cell? ⟨g, off + i * 8 + 7, none⟩ = some (.slice xa xu xc)) ∧ (Xa.cell? ⟨g, off + q * 8, none⟩ = some (.int .i64 yk) ∧ Xa.cell? ⟨g, off + q * 8 + 1, none⟩ = some (.string yn) ∧ Xa.cell? ⟨g, off + q * 8 + 2, none⟩ = some (.int .i64 yt) ∧ Xa.cell? ⟨g, off + q * 8 + 3, none⟩ = some (.int .i64 yF) ∧ Xa.cell? ⟨g, off + q * 8 + 4, none⟩ = some (.int .i64 yA) ∧ Xa.cell? ⟨g, off + q * 8 + 5, none⟩ = some (.int .i64 yB) ∧ Xa.cell? ⟨g, off + q * 8 + 6, none⟩ = some (.int .i64 yC) ∧ Xa.cell? ⟨g, off + q * 8 + 7, none⟩ = some (.slice ya yu yc)) from ⟨HXa.out, HYa.out⟩)
                            refine hK.out _ _ hSa.out (fun hHeld => ?_)
                            clear hK K hSa
                            try go_frame
                            refine tk 5 (oi := ⟨some 133, _, _, _, _, none⟩) rfl ?_
                            try go_frame
                            refine tk 6 (oi := ⟨some 134, _, _, _, _, none⟩) rfl ?_
                            try go_frame
                            refine tk 7 (oi := ⟨some 135, _, _, _, _, some _⟩) rfl ?_
                            try go_frame
                            refine tk 8 (oi := ⟨some 136, _, _, _, _, some _⟩) rfl ?_
                            try go_frame
                            refine tk 9 (oi := ⟨some 137, _, _, _, _, some _⟩) rfl ?_
                            try go_frame
                            refine tk 10 (oi := ⟨some 138, _, _, _, _, some _⟩) rfl ?_
                            try go_frame
                            refine tk 11 (oi := ⟨some 139, _, _, _, _, some _⟩) rfl ?_
                            try go_frame
                            refine tk 12 (oi := ⟨some 140, _, _, _, _, some _⟩) rfl ?_
                            try go_frame
                            refine tk 13 (oi := ⟨some 141, _, _, _, _, some _⟩) rfl ?_
                            try go_frame
                            refine tk 14 (oi := ⟨some 142, _, _, _, _, some _⟩) rfl ?_
                            try go_frame
                            refine tk 15 (oi := ⟨some 143, _, _, _, _, some _⟩) rfl ?_
                            try go_frame
                            refine tk 16 (oi := ⟨some 144, _, _, _, _, some _⟩) rfl ?_
                            try go_frame
                            refine tk 17 (oi := ⟨some 145, _, _, _, _, some _⟩) rfl ?_
                            try go_frame
                            refine tk 18 (oi := ⟨some 146, _, _, _, _, none⟩) rfl ?_
                            try go_frame
                            refine wpAnyH_done (by kernel_rfl) ?_ _
                            clear hHeld
                            have HOG := Lib.hid (ogto_skip HQ.out.1 (fun h => by rw [HSQ.out.2.1] at h; exact hnm h.2))
                            have HSS := Lib.hid (HQ.out.2.1.under DXa.out)
                            have HOW := Lib.hid (own_under HQ.out.2.2.1 DXa.out)
                            have HRS := Lib.hid HQ.out.2.2.2
                            have HXS := Lib.hid (Nat.le_trans HQ.out.2.2.2.2.1 DXa.out.size)
                            clear HQ
                            go_wp2_with fail
                            go_roundw
                            case rel => exact ⟨q + 1, O, Dq, ⟨by omega, by omega⟩, by go_num, Lib.hid ⟨HOG.out, HSS.out, HOW.out, HRS.out.1, HXS.out, HRS.out.2.2⟩⟩
                            case measure => simp [intOf]; omega
                      · have q1 : ¬ (q : Int) < (n : Int) := by omega
                        obtain rfl : n = q := by omega
                        have HOGF : Hid (Og R xn O) := Lib.hid (ogto_full (by rw [HN.out]; exact HQ.out.1) (fun j hj hs e => by
                          have h1 := (HDD.out.dn i (by rw [HN.out]; exact hlt)).2 ⟨HSI.out, j, hj, hs, e.trans HNM.out.symm⟩
                          rw [HDN.out] at h1
                          cases h1))
                        have HOL := Lib.hid (show O.length ≤ 12 by have := ogto_len HQ.out.1 (by rw [HN.out]; exact Nat.le_refl _); rw [HN.out] at this; omega)
                        have o1 : ¬ (30 : Int) < (O.length : Int) := by have := HOL.out; omega
                        obtain ⟨A2, c2, rfl⟩ := own_form HQ.out.2.2.1
                        have HOX := Lib.hid (show ∀ k ∈ O, k < n from fun k hk => by have := sk_lt ((HOGF.out.mem k).1 hk).1; rw [HN.out] at this; exact this)
                        clear hqn q1 hiq
                        go_upto_region 37 with fail
                        generalize hX1 : wr = X1 at *
                        clear hX1
                        obtain ⟨j0, hj, hj0, hj1, hj2⟩ := info_parts infoRep
                        have HSZ1 : Hid (W2.heap.size + 2 ≤ X0.heap.size ∧ X0.heap.size ≤ X1.heap.size) := Lib.hid ⟨HX0S.out, HQ.out.2.2.2.2.1⟩
                        have HDQ := Lib.hid HQ.out.2.2.2.1
                        have HS7 : Hid (∃ Bq, Sd W2 n Bq Dq X1 ∧ ∀ z, z < n → (Bq z = true ↔ Bd z = true ∨ ∃ a, a < 0 ∧ O[a]? = some z)) := Lib.hid ⟨Bd, HQ.out.2.1, fun z _ => ⟨fun e => .inl e, fun e => e.elim id (fun ⟨a, h, _⟩ => by omega)⟩⟩
                        have HO7 := Lib.hid HQ.out.2.2.1
                        clear HQ
                        go_loopw [16, 189] (fun uy t wr => ∃ j : Nat, j ≤ O.length ∧ t = .int .i64 j ∧ Hid (∃ Bq, Sd W2 n Bq Dq wr ∧ ∀ z, z < n → (Bq z = true ↔ Bd z = true ∨ ∃ a, a < j ∧ O[a]? = some z)) ∧ Hid (wr.ownsRow X0.heap.size 3 1 (.slice A2 O.length c2) O.length (ic O)) ∧ Hid (wr.ownsRow X1.heap.size 35 8 uy j (rqc ((pg R O).take j))) ∧ Hid (X1.heap.size ≤ wr.heap.size) ∧ Hid (∀ j, (Value.slice A2 O.length c2).ownBlock = some j → j < X1.heap.size)) (fun _ t _ => O.length - (intOf t).toNat)
                        case atStart => exact ⟨0, Nat.zero_le _, rfl, HS7, HO7, Lib.hid ⟨rfl, .inl ⟨rfl, rfl⟩⟩, Lib.hid (Nat.le_refl _), Lib.hid fun j hj => (own_lt HO7.out hj).2⟩
                        case round =>
                          clear HS7 HO7
                          obtain ⟨j, hjO, rfl, HS7, HO7, HY, HXL, HOB⟩ := hrel
                          by_cases hjl : j < O.length
                          · have k1 : (j : Int) < (O.length : Int) := by omega
                            have k2 : (0 : Int) ≤ (j : Int) := by omega
                            have HJ12 : Hid (j < 12) := Lib.hid (by have := HOL.out; omega)
                            obtain ⟨Bq, hs7, hbq⟩ := HS7.out
                            have HSS := Lib.hid hs7
                            have HBQ := Lib.hid hbq
                            clear hs7 hbq
                            obtain ⟨g2, cg, e0, hc1', hc2', hcell⟩ := il_at (IlB.zero HO7.out) hjl
                            injection e0 with e0 e1 e2
                            subst e0
                            clear e1 e2 hc1' hc2'
                            have HXN := Lib.hid (HOX.out _ (List.getElem_mem hjl))
                            have HXR : Hid (O[j] < R.length) := Lib.hid (by rw [HN.out]; exact HXN.out)
                            have HTK := Lib.hid (pg_take hjl HXR.out)
                            have HOJ := Lib.hid (List.getElem?_eq_getElem hjl)
                            generalize rqc ((pg R O).take j) = cs1 at *
                            generalize O[j] = x at *
                            have HBR := Lib.hid (HB2.out.trans (HSS.out.b.mono HB2.out.size))
                            have h8 := (HAT.out x HXR.out).under HGW.out HBR.out
                            have hxn := HXN.out
                            have hx1 : (0 : Int) ≤ (x : Int) := by omega
                            have hx2 : (x : Int) < (n : Int) := by omega
                            generalize R[x]'HXR.out = r at *
                            obtain ⟨zk, zn, zt, zF, zA, zB, zC, za, zu, zc⟩ := r
                            obtain ⟨p0, p1, p2, p3, p4, p5, p6, p7⟩ := h8
                            simp only at p0 p1 p2 p3 p4 p5 p6 p7
                            have BX : Hid (Below wr.heap.size wr (wr.alloc (.cells (rqC zk zn zt zF zA zB zC za zu zc) 35))) := Lib.hid ((Below.refl _ _).alloc (Nat.le_refl _) _)
                            have OX : Hid ((wr.alloc (.cells (rqC zk zn zt zF zA zB zC za zu zc) 35)).ownsRow wr.heap.size 35 8 (.slice (some ⟨wr.heap.size, 0, none⟩) 1 1) 1 (rqCells ⟨zk, zn, zt, zF, zA, zB, zC, za, zu, zc⟩)) := Lib.hid (World.ownsRow_lit wr (rqC zk zn zt zF zA zB zC za zu zc) 1 (Nat.le_refl _) (by decide) rfl)
                            have OY := Lib.hid (own_under HY.out BX.out)
                            have SX := Lib.hid (Nat.le_trans HXL.out BX.out.size)
                            have SS := Lib.hid (HSS.out.under BX.out)
                            have SO := Lib.hid (own_under HO7.out BX.out)
                            clear HY
                            go_upto_region 40 with (at_builtin; go_loud (refine wpList_append_any rfl (.tmp 193) (.tmp 198) 22 rfl X1.heap.size 35 j0 _ 8 88 Tryz.underlying22 hj hj0 hj1 hj2 rfl (by decide) «u16» j cs1 rfl OY.out 1 (rqCells ⟨zk, zn, zt, zF, zA, zB, zC, za, zu, zc⟩) (.slice (some ⟨wr.heap.size, 0, none⟩) 1 1) wr.heap.size rfl OX.out (rqc_one [⟨zk, zn, zt, zF, zA, zB, zC, za, zu, zc⟩] |> fun h u hu => h u (by simpa [rqc] using hu)) (by have := HJ12.out; unfold maxLen; omega) (by have := HJ12.out; omega) SX.out ?_; intro v13 w13 hown13 hgr13; have B13 := Lib.hid (below_own (Below.refl X1.heap.size _) SX.out OY.out hgr13); have O13 : Hid (w13.ownsRow X1.heap.size 35 8 v13 (j + 1) (rqc ((pg R O).take (j + 1)))) := Lib.hid (by rw [HTK.out]; exact hown13); clear hown13 hgr13))
                            clear p0 p1 p2 p3 p4 p5 p6 p7 hcell
                            have S13 := Lib.hid (SS.out.grown B13.out (by have := HSZ1.out; omega))
                            have L13 := Lib.hid (Nat.le_trans SX.out B13.out.size)
                            have R13 := Lib.hid (own_keep SO.out (fun k hk => B13.out.block k (HOB.out k hk)))
                            clear SS SO SX OY OX BX
                            have c1 := S13.out.bad.at_ hxn
                            obtain ⟨c1, c2'⟩ := c1
                            have S14 := Lib.hid (S13.out.setB x true)
                            have R14 := Lib.hid (own_far (j := x) (x := .bool true) R13.out (g := W2.heap.size) (by have := HSZ1.out; omega))
                            have O14 := Lib.hid (own_far (j := x) (x := .bool true) O13.out (g := W2.heap.size) (by have := HSZ1.out; omega))
                            have L14 : Hid (X1.heap.size ≤ (w13.setCell ⟨W2.heap.size, x, none⟩ (.bool true)).heap.size) := Lib.hid (by rw [World.size_setCell]; exact L13.out)
                            have HB14 : Hid (∃ Bq, Sd W2 n Bq Dq (w13.setCell ⟨W2.heap.size, x, none⟩ (.bool true)) ∧ ∀ z, z < n → (Bq z = true ↔ Bd z = true ∨ ∃ a, a < j + 1 ∧ O[a]? = some z)) := Lib.hid ⟨_, S14.out, fun z hz => by
                              by_cases hzx : z = x
                              · subst hzx
                                exact ⟨fun _ => .inr ⟨j, by omega, HOJ.out⟩, fun _ => if_pos rfl⟩
                              · simp only [if_neg hzx]
                                rw [HBQ.out z hz]
                                constructor
                                · rintro (a | ⟨a, b, c⟩)
                                  · exact .inl a
                                  · exact .inr ⟨a, by omega, c⟩
                                · rintro (a | ⟨a, b, c⟩)
                                  · exact .inl a
                                  · rcases (by omega : a < j ∨ a = j) with h | rfl
                                    · exact .inr ⟨a, h, c⟩
                                    · rw [HOJ.out] at c; injection c with c; exact absurd c.symm hzx⟩
                            clear S13 R13 O13 L13 S14
                            go_wp2_with fail
                            go_roundw
                            case rel => exact ⟨j + 1, by omega, by go_num, HB14, R14, O14, L14, HOB⟩
                            case measure => simp [intOf]; omega
                          · have k1 : ¬ (j : Int) < (O.length : Int) := by omega
                            obtain rfl : j = O.length := by omega
                            obtain ⟨Bq, hs7, hbq⟩ := HS7.out
                            have HSS := Lib.hid hs7
                            have HBQ := Lib.hid (show ∀ z, z < n → (Bq z = true ↔ Bd z = true ∨ z ∈ O) from fun z hz => by
                              rw [hbq z hz]
                              constructor
                              · rintro (a | ⟨a, _, c⟩)
                                · exact .inl a
                                · exact .inr (List.mem_of_getElem? c)
                              · rintro (a | a)
                                · exact .inl a
                                · obtain ⟨q, hq, rfl⟩ := List.getElem_of_mem a
                                  exact .inr ⟨q, hq, List.getElem?_eq_getElem hq⟩)
                            clear hs7 hbq HS7
                            have HPL := Lib.hid (pg_len R O)
                            have HYY : Hid (wr.ownsRow X1.heap.size 35 8 «u16» (pg R O).length (rqc (pg R O))) := Lib.hid (by have h := HY.out; rw [List.take_of_length_le (by rw [pg_len]; exact Nat.le_refl _)] at h; rw [pg_len]; exact h)
                            have HPR := Lib.hid (RqIn.own HYY.out)
                            have HOKG := Lib.hid (pg_ok (O := O) HOK.out (fun k hk => ((HOGF.out.mem k).1 hk).1))
                            obtain ⟨A3, c3, rfl⟩ := own_form HY.out
                            clear HY HYY k1 hjO hjl
                            go_wp2_with fail
                            refine (refChain_any _ (pg R O) h _ HPR.out (by rw [HPL.out]; have := HOL.out; omega) HH.out HOKG.out).mono ?_
                            rintro e w8 ⟨ch, vc, hB, rfl, hil, hb8⟩
                            have HBST := Lib.hid (show Best O.length (pL h (O.map (sg R))) ch from by
                              rw [HPL.out] at hB
                              exact best_congr (pR_grp (fun k hk => by rw [HN.out]; exact HOX.out k hk) rfl) hB)
                            have HCL := Lib.hid (best_lt HBST.out)
                            have HSB : Hid (∃ Bq, Sd W2 n Bq Dq w8 ∧ ∀ z, z < n → (Bq z = true ↔ (Bd z = true ∨ z ∈ O) ∧ ¬ ∃ a, a < 0 ∧ ∃ y, ch[a]? = some y ∧ O[y]? = some z)) := Lib.hid ⟨Bq, HSS.out.under hb8, fun z hz => by rw [HBQ.out z hz]; exact ⟨fun a => ⟨a, fun ⟨_, b, _⟩ => by omega⟩, fun a => a.1⟩⟩
                            have HO8 := Lib.hid (own_under HO7.out hb8)
                            have HI8 := Lib.hid hil
                            obtain ⟨A4, c4, rfl⟩ := own_form hil
                            clear hB hil hb8 HSS HBQ HO7 HPR HOKG HXL HOB
                            go_upto_region 43 with fail
                            go_loopw [208] (fun t wr => ∃ j : Nat, j ≤ ch.length ∧ t = .int .i64 j ∧ Hid (∃ Bq, Sd W2 n Bq Dq wr ∧ ∀ z, z < n → (Bq z = true ↔ (Bd z = true ∨ z ∈ O) ∧ ¬ ∃ a, a < j ∧ ∃ y, ch[a]? = some y ∧ O[y]? = some z)) ∧ Hid (wr.ownsRow X0.heap.size 3 1 (.slice A2 O.length c2) O.length (ic O)) ∧ Hid (IlIn wr (.slice A4 ch.length c4) ch)) (fun t _ => ch.length - (intOf t).toNat)
                            case atStart => exact ⟨0, Nat.zero_le _, rfl, HSB, HO8, HI8⟩
                            case round =>
                              clear HSB HO8 HI8
                              obtain ⟨j, hjc, rfl, HS9, HO9, HI9⟩ := hrel
                              by_cases hjl : j < ch.length
                              · have k1 : (j : Int) < (ch.length : Int) := by omega
                                have k2 : (0 : Int) ≤ (j : Int) := by omega
                                obtain ⟨Bz, hs9, hbq9⟩ := HS9.out
                                have HSS := Lib.hid hs9
                                have HBQ := Lib.hid hbq9
                                clear hs9 hbq9 HS9
                                obtain ⟨g3, cg3, e0, hc3, hc4, hcell⟩ := il_at HI9.out hjl
                                have HCL9 : Hid (ch.length ≤ 9223372036854775807) := Lib.hid (Nat.le_trans hc3 hc4)
                                injection e0 with e0 e1 e2
                                subst e0
                                clear e1 e2 hc3 hc4
                                have HCJ := Lib.hid (List.getElem?_eq_getElem hjl)
                                have HYO := Lib.hid (HCL.out _ (List.getElem_mem hjl))
                                generalize ch[j] = y at *
                                have hyO := HYO.out
                                obtain ⟨g2, cg2, e0, hc3, hc4, hcell2⟩ := il_at (IlB.zero HO9.out) hyO
                                injection e0 with e0 e1 e2
                                subst e0
                                clear e1 e2 hc3 hc4
                                have HXN := Lib.hid (HOX.out _ (List.getElem_mem hyO))
                                have HOJ := Lib.hid (List.getElem?_eq_getElem hyO)
                                generalize O[y] = x at *
                                have hxn := HXN.out
                                have y1 : (0 : Int) ≤ (y : Int) := by omega
                                have y2 : (y : Int) < (O.length : Int) := by omega
                                have x1 : (0 : Int) ≤ (x : Int) := by omega
                                have x2 : (x : Int) < (n : Int) := by omega
                                obtain ⟨c5, c6⟩ := HSS.out.bad.at_ hxn
                                have S14 := Lib.hid (HSS.out.setB x false)
                                have R14 := Lib.hid (own_far (j := x) (x := .bool false) HO9.out (g := W2.heap.size) (by have := HSZ1.out; omega))
                                have I14 := Lib.hid (show IlIn (wr.setCell ⟨W2.heap.size, x, none⟩ (.bool false)) (.slice (some ⟨g3, 0, none⟩) ch.length c4) ch from by
                                  obtain ⟨cs, hrow, -⟩ := HSS.out.bad
                                  exact IlB.set HI9.out hrow (by decide) x _)
                                have HB14 : Hid (∃ Bq, Sd W2 n Bq Dq (wr.setCell ⟨W2.heap.size, x, none⟩ (.bool false)) ∧ ∀ z, z < n → (Bq z = true ↔ (Bd z = true ∨ z ∈ O) ∧ ¬ ∃ a, a < j + 1 ∧ ∃ y, ch[a]? = some y ∧ O[y]? = some z)) := Lib.hid ⟨_, S14.out, fun z hz => by
                                  by_cases hzx : z = x
                                  · subst hzx
                                    constructor
                                    · intro e
                                      rw [if_pos rfl] at e
                                      cases e
                                    · rintro ⟨-, b⟩
                                      exact absurd ⟨j, by omega, y, HCJ.out, HOJ.out⟩ b
                                  · simp only [if_neg hzx]
                                    rw [HBQ.out z hz]
                                    constructor
                                    · rintro ⟨a, b⟩
                                      refine ⟨a, fun ⟨q, h1, yy, h2, h3⟩ => ?_⟩
                                      rcases (by omega : q < j ∨ q = j) with h | rfl
                                      · exact b ⟨q, h, yy, h2, h3⟩
                                      · rw [HCJ.out] at h2
                                        injection h2 with h2
                                        subst h2
                                        rw [HOJ.out] at h3
                                        injection h3 with h3
                                        exact hzx h3.symm
                                    · rintro ⟨a, b⟩
                                      exact ⟨a, fun ⟨q, h1, yy, h2, h3⟩ => b ⟨q, by omega, yy, h2, h3⟩⟩⟩
                                clear HO9 HI9 HSS HBQ S14 HYO hyO HXN
                                have wk : IntKind.i64.wrap ((j : Int) + 1) = (j : Int) + 1 := IntWalk.i64_in _ (by have := HCL9.out; omega)
                                go_wp2_with fail
                                go_roundw
                                case rel => exact ⟨j + 1, by omega, by have := HCL9.out; go_num, HB14, R14, I14⟩
                                case measure => simp [intOf]; omega
                              · have k1 : ¬ (j : Int) < (ch.length : Int) := by omega
                                obtain rfl : j = ch.length := by omega
                                obtain ⟨Bz, hs9, hbq9⟩ := HS9.out
                                have HFIN := Lib.hid (And.intro (dd_next (Bd' := Bz) (Dn' := Dq) HDD.out HSI.out (by rw [HNM.out]; exact HOGF.out) HBST.out (by rw [HN.out]; exact HDQ.out) (by rw [HN.out]; exact bq_end hbq9 HCL.out)) hs9)
                                clear hs9 hbq9 HS9 HO9 HI9
                                go_wp2_with fail
                                go_roundw
                                case rel => exact ⟨i + 1, Bz, Dq, by omega, by go_num, HFIN⟩
                                case measure => simp [intOf]; omega
              · have i1 : ¬ (i : Int) < (n : Int) := by omega
                obtain rfl : n = i := by omega
                as_aux_lemma =>
                  go_upto_region 49 with fail
                  generalize hX9 : wr = X9 at *
                  clear hX9
                  obtain ⟨i0', hi', hz0, hz1, hz2⟩ := info_parts infoInt0
                  have HDE := Lib.hid (show SusT h R (bls Bd n) 0 by
                    have h1 := dd_end HH.out HOK.out (by rw [HN.out]; exact HO.out.1)
                    rw [HN.out] at h1
                    exact h1)
                  have HDS := Lib.hid HO.out.2
                  clear HO HNODUP
                  go_loopw [21, 22] (fun u t wr => ∃ i : Nat, i ≤ n ∧ t = .int .i64 i ∧ Hid (Ow X9 (bls Bd i) u wr)) (fun _ t _ => n - (intOf t).toNat)
                  case atStart => exact ⟨0, Nat.zero_le _, rfl, Lib.hid ⟨Below.refl _ _, ⟨rfl, .inl ⟨rfl, rfl⟩⟩⟩⟩
                  case round =>
                    obtain ⟨i, hi, rfl, HQ⟩ := hrel
                    by_cases hlt : i < n
                    · have j1 : (i : Int) < (n : Int) := by omega
                      have j2 : (0 : Int) ≤ (i : Int) := by omega
                      have c1 := ((HDS.out.bad.under HQ.out.1).at_ hlt).1
                      have hbc : Bd i = false ∨ Bd i = true := by cases Bd i; exact .inl rfl; exact .inr rfl
                      rcases hbc with hb | hb
                      · have HNX := Lib.hid (show Ow X9 (bls Bd (i + 1)) «u21» wr by rw [bls_no hb]; exact HQ.out)
                        rw [hb] at c1
                        go_wp2_with fail
                        go_roundw
                        case rel => exact ⟨i + 1, by omega, by go_num, HNX⟩
                        case measure => simp [intOf]; omega
                      · have HQA := Lib.hid (show Ow X9 (bls Bd i) «u21» (wr.alloc (.cells #[.int .i64 (i : Int)] 3)) from HQ.out.under ((Below.refl _ _).alloc (Nat.le_refl _) _))
                        have HLN := Lib.hid (show (bls Bd i).length ≤ 12 from Nat.le_trans (bls_len Bd i) (by omega))
                        rw [hb] at c1
                        have HY := Lib.hid (bls_yes hb)
                        clear hb
                        generalize hbl : bls Bd i = bl at *
                        clear hbl
                        go_wp2_with (at_builtin; refine wpList_append_lies _ rfl (.tmp 229) (.tmp 231) 23 rfl X9.heap.size 3 i0' _ 1 8 Tryz.underlying23 hi' hz0 hz1 hz2 rfl (by decide) «u21» bl.length (ic bl) rfl HQA.out.2 ⟨wr.heap.size, 0, none⟩ 1 1 [.int .i64 (i : Int)] rfl rfl (World.news_of_block (cs := #[.int .i64 (i : Int)]) (t := 3) (fr := (0, 0)) (heap_alloc_new wr _)) (fun u hu => by rcases List.mem_singleton.1 hu with rfl; rfl) (by omega) (by have := HLN.out; unfold maxLen; omega) (by have := HLN.out; omega) HQA.out.1.size (wr.heap.size + 1) (by simp) ?_; intro g' cap' w6 hown6 hgrow6 hat6 hlt6; have H6 := Lib.hid (HQA.out.app hown6 hgrow6); clear hown6 hgrow6 hat6 hlt6)
                        clear c1
                        go_wp2_with fail
                        go_roundw
                        case rel => exact ⟨i + 1, by omega, by go_num, Lib.hid (by rw [HY.out]; exact H6.out)⟩
                        case measure => simp [intOf]; omega
                    · have j1 : ¬ (i : Int) < (n : Int) := by omega
                      obtain rfl : n = i := by omega
                      have HIL := Lib.hid (show IlIn wr «u21» (bls Bd n) from IlB.zero HQ.out.2)
                      have HFB := Lib.hid ((HB2.out.trans (HDS.out.b.mono HB2.out.size)).trans (HQ.out.1.mono (HB2.out.trans (HDS.out.b.mono HB2.out.size)).size))
                      clear HQ HDS
                      go_wp2_with fail
                      go_ret2
                      exact ⟨bls Bd n, 0, _, HDE.out, rfl, HIL.out, HFB.out⟩
  · have HH := Lib.hid hh
    by_cases h0 : h < 0
    · clear hh
      go_enter Tryz.func17, Tryz.ntmps17
      go_wp2_with fail
      go_ret2
      exact ⟨[], 1, _, .inl ⟨fun h => HH.out h.1, rfl, rfl⟩, rfl, il_nil _, Below.refl _ _⟩
    · have h1 : (1000 : Int) < h := by omega
      clear hh
      go_enter Tryz.func17, Tryz.ntmps17
      go_wp2_with fail
      go_ret2
      exact ⟨[], 1, _, .inl ⟨fun h => HH.out h.1, rfl, rfl⟩, rfl, il_nil _, Below.refl _ _⟩
end Go.Proofs.YtejoabaanclcbaaGreat.Tk

