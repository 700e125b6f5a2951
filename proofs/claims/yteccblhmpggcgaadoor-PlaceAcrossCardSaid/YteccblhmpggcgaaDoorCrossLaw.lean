/- The walk of PlaceAcross: for every list the law returns true, and what lay in memory is as it was. -/
import Derived.Test.YteccblhmpggcgaaDoorCrossMath
import Derived.Test.YteccblhmpggcgaaDoorSome
import Derived.Test.YteccblhmpggcgaaDoorCornersLaw
namespace Go.Proofs.YteccblhmpggcgaaDoor
open Go.RowKit

/-- A block that holds a place. -/
abbrev Pl2 (w : World) (g : Nat) (f a b c : Int) : Prop := Row w g 23 #[.int .i64 f, .int .i64 a, .int .i64 b, .int .i64 c]
/-- What is known between the steps. -/
structure Ac (W : World) (f : Nat) (x y z : Int) (gc ga : Nat) (w : World) : Prop where
  below : Below W.heap.size W w
  row : Row w gc 43 #[.int .i64 (Ico.cor f 0), .int .i64 (Ico.cor f 1), .int .i64 (Ico.cor f 2)]
  la : ga < w.heap.size
  has : Has w f x y z ga
theorem Ac.under {W w w' : World} {f : Nat} {x y z : Int} {gc ga : Nat} (h : Ac W f x y z gc ga w) (hb : Below w.heap.size w w') : Ac W f x y z gc ga w' :=
  ⟨h.below.trans (hb.mono h.below.size), h.row.under hb, Nat.lt_of_lt_of_le h.la hb.size, h.has.under h.la hb⟩
theorem Ac.alloc {W w : World} {f : Nat} {x y z : Int} {gc ga : Nat} (h : Ac W f x y z gc ga w) (o : Obj) : Ac W f x y z gc ga (w.alloc o) := h.under ((Below.refl _ _).alloc (Nat.le_refl _) o)
theorem cor_at {f k : Nat} (hk : k < 3) {w : World} {g : Nat} {t : TypeId} (r : Row w g t #[.int .i64 (Ico.cor f 0), .int .i64 (Ico.cor f 1), .int .i64 (Ico.cor f 2)]) : w.cell? ⟨g, k, none⟩ = some (.int .i64 (Ico.cor f k)) :=
  (r.cell k).trans (by
    have : k = 0 ∨ k = 1 ∨ k = 2 := by omega
    rcases this with rfl | rfl | rfl <;> rfl)
theorem fd_mem {f : Nat} {L : List Nat} (h : f ∈ L) : fd f L L.length = true := by
  unfold fd; rw [List.take_length]; exact decide_eq_true h
set_option maxRecDepth 100000 in
set_option maxHeartbeats 4000000 in
theorem placeAcross_any (v : Value) (w : World) (hE : Env w) (hl : ListIn w v) :
    Calls Tryd.prog 7 #[v] w fun e w' => e = .returned (.bool true) ∧ Below w.heap.size w w' := by
  go_enter Tryd.func7, Tryd.ntmps7
  go_wp2_with fail
  refine (new_any _ _ hl).mono ?_
  rintro e w1 ⟨rfl, s1, -⟩
  go_wp2_with fail
  refine (n_any _ _ _ _ s1 (by omega) (by omega)).mono ?_
  rintro e w2 ⟨f0, ⟨f1, f2⟩, rfl, s2, -⟩
  go_wp2_with fail
  refine (n_any _ _ _ _ s2 (by omega) (by omega)).mono ?_
  rintro e w3 ⟨k0, ⟨k1, k2⟩, rfl, s3, -⟩
  go_wp2_with fail
  refine (n_any _ _ _ _ s3 (by omega) (by omega)).mono ?_
  rintro e w4 ⟨a, ⟨a1, a2⟩, rfl, s4, -⟩
  obtain ⟨f, rfl⟩ := Int.eq_ofNat_of_zero_le f1
  obtain ⟨k, rfl⟩ := Int.eq_ofNat_of_zero_le k1
  have hf : f < 20 := by omega
  have hk : k < 3 := by omega
  have b4 := s4.below
  clear s1 s2 s3 s4 hl f1 f2 k1 k2
  go_upto_region 4 with fail
  refine forget (fun Y => Below w.heap.size w Y ∧ Row Y w4.heap.size 43 z3) ⟨b4.alloc b4.size _, Row.new _ _ _⟩ ?_
  have g7le := b4.size
  clear b4
  generalize w4.heap.size = g7 at *
  rintro Y ⟨bY, r7⟩
  go_cut [31] from 31 to 41 (fun _ wc => Below w.heap.size w wc ∧ Row wc g7 43 #[.int .i64 (ew k a 0), .int .i64 (ew k a 1), .int .i64 (ew k a 2)])
  case first =>
    obtain ⟨c0, c1, c2⟩ := row3 r7
    have t0 := r7.thaw 0
    have t1 := r7.thaw 1
    have t2 := r7.thaw 2
    have R7 := Lib.hid r7; clear r7
    have hk' : k = 0 ∨ k = 1 ∨ k = 2 := by omega
    rcases hk' with rfl | rfl | rfl
    · go_wp2_with fail
      go_meet
      exact ⟨(bY.setCell (p := ⟨g7, 1, none⟩) g7le _).setCell (p := ⟨g7, 2, none⟩) g7le _, (R7.out.put 1 _).put 2 _⟩
    · go_wp2_with fail
      go_meet
      exact ⟨(bY.setCell (p := ⟨g7, 2, none⟩) g7le _).setCell (p := ⟨g7, 0, none⟩) g7le _, (R7.out.put 2 _).put 0 _⟩
    · go_wp2_with fail
      go_meet
      exact ⟨(bY.setCell (p := ⟨g7, 0, none⟩) g7le _).setCell (p := ⟨g7, 1, none⟩) g7le _, (R7.out.put 0 _).put 1 _⟩
  case rest =>
  obtain ⟨bZ, rZ⟩ := hcut
  clear bY r7 g7le
  have hv := ew_vld hf hk (by omega : 0 ≤ a) (by omega)
  have HV := Lib.hid hv; clear hv
  obtain ⟨c0, c1, c2⟩ := row3 rZ
  go_upto_region 6 with fail
  refine forget (fun Y => Below w.heap.size w Y ∧ Pl2 Y wc.heap.size f (ew k a 0) (ew k a 1) (ew k a 2)) ⟨bZ.alloc bZ.size _, Row.new _ _ _⟩ ?_
  clear bZ rZ c0 c1 c2
  generalize wc.heap.size = gp at *
  rintro Y ⟨bY, P⟩
  obtain ⟨hA1, hA2⟩ := acr_lt f hf k hk
  have HO := Lib.hid (acr_ok hf hk (by omega : 0 ≤ a) (by omega))
  go_wp2_with fail
  refine (across_yes _ _ _ hf hk).mono ?_
  rintro e w5 ⟨rfl, hb5⟩
  have b5 := bY.trans (hb5.mono bY.size)
  have P5 := P.under hb5
  clear bY P hb5
  obtain ⟨q0, q1, q2, q3⟩ := row4 P5
  have HE := Lib.hid (fun v => ew_wt (f := f) (k := k) (a := a) hf hk v)
  have HL2 := Lib.hid (fun (h1 : 0 < a) (h2 : a < 840) => ew_len (f := f) (k := k) (a := a) hf hk h1 h2)
  generalize acr f k = G at *
  generalize ew k a 0 = x at *
  generalize ew k a 1 = y at *
  generalize ew k a 2 = z at *
  go_wp2_with fail
  refine (addresses_open _ _ _ _ _ HV.out).mono ?_
  rintro e w6 ⟨ga, cap, rfl, hb6, -, g2, g3, g4, hH⟩
  have b6 := b5.trans (hb6.mono b5.size)
  clear b5 P5 q0 q1 q2 q3 hb6
  have HA := Lib.hid hH; clear hH
  go_wp2_with fail
  refine (corners_yes _ _ hf).mono ?_
  rintro e w7 ⟨rfl, hb7⟩
  have b7 := b6.trans (hb7.mono b6.size)
  have A7 : Ac w f x y z w7.heap.size ga (w7.alloc (.cells #[.int .i64 (Ico.cor f 0), .int .i64 (Ico.cor f 1), .int .i64 (Ico.cor f 2)] 43)) :=
    ⟨b7.alloc b7.size _, Row.new _ _ _, by have := hb7.size; simp; omega, (HA.out.under g2 hb7).under (Nat.lt_of_lt_of_le g2 hb7.size) ((Below.refl _ _).alloc (Nat.le_refl _) _)⟩
  go_upto_region 9 with fail
  refine forget (Ac w f x y z w7.heap.size ga) A7 ?_
  clear A7 b6 b7 hb7 g2 HA
  generalize w7.heap.size = gc at *
  rintro V A
  have hlen := Ico.fcs_pos HV.out
  have FE := Lib.hid (fd_mem (Ico.mem_fcs.2 ⟨hA1, HO.out⟩))
  generalize hlen' : (Ico.fcs f x y z 20).length = len at *
  have HL := Lib.hid hlen'; clear hlen'
  go_wp2_with fail
  go_loopw [15, 78] (fun s t wr => ∃ i : Nat, i ≤ len ∧ t = .int .i64 i ∧ s = .bool (fd G (Ico.fcs f x y z 20) i) ∧ Ac w f x y z gc ga wr) (fun _ t _ => len - (intOf t).toNat)
  case atStart => exact ⟨0, by omega, rfl, rfl, A⟩
  case round =>
    clear A
    obtain ⟨i, hi, rfl, rfl, A⟩ := hrel
    by_cases hlt : i < len
    · have hlt' : i < (Ico.fcs f x y z 20).length := by rw [HL.out]; exact hlt
      obtain ⟨a0', b0', c0', d0'⟩ := A.has i hlt'
      have FS := Lib.hid (fd_step (f := G) hlt')
      generalize hy : (Ico.fcs f x y z 20)[i] = y0 at *
      clear hy
      go_upto_region 15 with fail
      have r := Row.new wr #[.int .i64 y0, .int .i64 (Ico.wt f x y z (Ico.cor y0 0)), .int .i64 (Ico.wt f x y z (Ico.cor y0 1)), .int .i64 (Ico.wt f x y z (Ico.cor y0 2))] 23
      refine forget (fun T => Ac w f x y z gc ga T ∧ Pl2 T wr.heap.size y0 (Ico.wt f x y z (Ico.cor y0 0)) (Ico.wt f x y z (Ico.cor y0 1)) (Ico.wt f x y z (Ico.cor y0 2))) ⟨A.alloc _, r⟩ ?_
      clear A r a0' b0' c0' d0'
      generalize wr.heap.size = gq at *
      rintro T ⟨A, r⟩
      obtain ⟨q0, q1, q2, q3⟩ := row4 r
      by_cases hyG : y0 = G
      · subst hyG
        have E := Lib.hid (show fd y0 (Ico.fcs f x y z 20) (i + 1) = true by rw [FS.out]; simp)
        have q : ((y0 : Int) != (y0 : Int)) = false := by simp
        have HA := Lib.hid A; clear A
        have R := Lib.hid r; clear r
        clear FS
        go_wp2_with fail
        refine (corners_yes _ _ hA1).mono ?_
        rintro e w8 ⟨rfl, hb8⟩
        go_upto_region 17 with fail
        have A8 := (HA.out.under hb8).alloc (.cells #[.int .i64 (Ico.cor y0 0), .int .i64 (Ico.cor y0 1), .int .i64 (Ico.cor y0 2)] 43)
        have r8 := (R.out.under hb8).alloc (.cells #[.int .i64 (Ico.cor y0 0), .int .i64 (Ico.cor y0 1), .int .i64 (Ico.cor y0 2)] 43)
        have d8 := Row.new w8 #[.int .i64 (Ico.cor y0 0), .int .i64 (Ico.cor y0 1), .int .i64 (Ico.cor y0 2)] 43
        refine forget (fun T => Ac w f x y z gc ga T ∧ Pl2 T gq y0 (Ico.wt f x y z (Ico.cor y0 0)) (Ico.wt f x y z (Ico.cor y0 1)) (Ico.wt f x y z (Ico.cor y0 2)) ∧ Row T w8.heap.size 43 #[.int .i64 (Ico.cor y0 0), .int .i64 (Ico.cor y0 1), .int .i64 (Ico.cor y0 2)]) ⟨A8, r8, d8⟩ ?_
        clear A8 r8 d8 hb8 HA R q0 q1 q2 q3
        generalize w8.heap.size = gd at *
        rintro U ⟨A, r, d⟩
        obtain ⟨q0, q1, q2, q3⟩ := row4 r
        go_upto_region 18 with fail
        refine forget (fun T => Ac w f x y z gc ga T ∧ Row T gd 43 #[.int .i64 (Ico.cor y0 0), .int .i64 (Ico.cor y0 1), .int .i64 (Ico.cor y0 2)] ∧ Row T U.heap.size 43 #[.int .i64 (Ico.wt f x y z (Ico.cor y0 0)), .int .i64 (Ico.wt f x y z (Ico.cor y0 1)), .int .i64 (Ico.wt f x y z (Ico.cor y0 2))]) ⟨A.alloc _, d.alloc _, Row.new _ _ _⟩ ?_
        clear A r d q0 q1 q2 q3
        generalize U.heap.size = gv at *
        rintro X ⟨A, d, vv⟩
        have HA := Lib.hid A
        have HD := Lib.hid d
        have HVv := Lib.hid vv
        obtain ⟨kk1, hk1, e1⟩ : ∃ m : Nat, m < 3 ∧ ((k : Int) + 1) % 3 = (m : Int) ∧ m = (k + 1) % 3 := ⟨(k + 1) % 3, by omega, by omega, rfl⟩
        obtain ⟨kk2, hk2, e2⟩ : ∃ m : Nat, m < 3 ∧ ((k : Int) + 2) % 3 = (m : Int) ∧ m = (k + 2) % 3 := ⟨(k + 2) % 3, by omega, by omega, rfl⟩
        obtain ⟨e1, e1'⟩ := e1
        obtain ⟨e2, e2'⟩ := e2
        have c1 := cor_at hk1 A.row
        have c2 := cor_at hk2 A.row
        have HW : Hid (∀ v, Ico.wt f x y z v = if v = Ico.cor f kk1 then a else if v = Ico.cor f kk2 then 840 - a else 0) := Lib.hid (fun v => by rw [e1', e2']; exact HE.out v)
        clear e1' e2' A d vv
        generalize Ico.cor f kk1 = X1 at *
        generalize Ico.cor f kk2 = X2 at *
        go_wp2_with fail
        go_loop [15, 21] (fun s t => ∃ m : Nat, m ≤ 3 ∧ t = .int .i64 m ∧ s = .bool true) (fun _ t => 3 - (intOf t).toNat)
        case atStart => exact ⟨0, by omega, rfl, rfl⟩
        case round =>
          obtain ⟨m, hm, rfl, rfl⟩ := hrel
          by_cases hm3 : m < 3
          · have d1 := cor_at hm3 HD.out
            obtain ⟨u, hu, v1⟩ : ∃ u, Ico.wt f x y z (Ico.cor y0 m) = u ∧ X.cell? ⟨gv, m, none⟩ = some (.int .i64 u) := by
              have : m = 0 ∨ m = 1 ∨ m = 2 := by omega
              rcases this with rfl | rfl | rfl
              · exact ⟨_, rfl, (HVv.out.cell 0).trans rfl⟩
              · exact ⟨_, rfl, (HVv.out.cell 1).trans rfl⟩
              · exact ⟨_, rfl, (HVv.out.cell 2).trans rfl⟩
            rw [HW.out] at hu
            generalize Ico.cor y0 m = D at *
            by_cases hD1 : D = X1
            · rw [if_pos hD1] at hu
              subst hu
              have t1 : ((D : Int) == (X1 : Int)) = true := by rw [beq_iff_eq]; omega
              clear hD1
              go_wp2_with fail
              go_round
              case rel => exact ⟨m + 1, by omega, by go_num, rfl⟩
              case measure => simp [intOf]; omega
            · rw [if_neg hD1] at hu
              have t1 : ((D : Int) == (X1 : Int)) = false := by rw [beq_eq_false_iff_ne]; omega
              by_cases hD2 : D = X2
              · rw [if_pos hD2] at hu
                subst hu
                have t2 : ((D : Int) == (X2 : Int)) = true := by rw [beq_iff_eq]; omega
                clear hD1 hD2
                go_wp2_with fail
                go_round
                case rel => exact ⟨m + 1, by omega, by go_num, rfl⟩
                case measure => simp [intOf]; omega
              · rw [if_neg hD2] at hu
                subst hu
                have t2 : ((D : Int) == (X2 : Int)) = false := by rw [beq_eq_false_iff_ne]; omega
                clear hD1 hD2
                go_wp2_with fail
                go_round
                case rel => exact ⟨m + 1, by omega, by go_num, rfl⟩
                case measure => simp [intOf]; omega
          · obtain rfl : m = 3 := by omega
            go_wp2_with fail
            go_roundw
            case rel => exact ⟨i + 1, by omega, by go_num, by rw [E.out], HA.out⟩
            case measure => simp [intOf]; omega
      · have E := Lib.hid (show fd G (Ico.fcs f x y z 20) (i + 1) = fd G (Ico.fcs f x y z 20) i by rw [FS.out]; simp [hyG])
        have q : ((y0 : Int) != (G : Int)) = true := by rw [bne_iff_ne]; omega
        have HA := Lib.hid A; clear A
        clear hyG FS r
        go_wp2_with fail
        go_roundw
        case rel => exact ⟨i + 1, by omega, by go_num, by rw [E.out], HA.out⟩
        case measure => simp [intOf]; omega
    · obtain rfl : i = len := by omega
      rw [FE.out]
      have BE := A.below
      clear A FE
      by_cases ha0 : a = 0
      · subst ha0
        go_wp2_with fail
        refine (awake_from _ hE BE).mono ?_
        rintro e w9 ⟨rfl, b9⟩
        go_wp2_with fail
        go_ret
        exact ⟨rfl, b9⟩
      · by_cases ha1 : a = 840
        · subst ha1
          go_wp2_with fail
          refine (awake_from _ hE BE).mono ?_
          rintro e w9 ⟨rfl, b9⟩
          go_wp2_with fail
          go_ret
          exact ⟨rfl, b9⟩
        · have hl2 := HL2.out (by omega) (by omega)
          subst hl2
          have t0 : (a == 0) = false := beq_eq_false_iff_ne.2 ha0
          have t1 : (a == 840) = false := beq_eq_false_iff_ne.2 ha1
          clear ha0 ha1
          go_wp2_with fail
          refine (awake_from _ hE BE).mono ?_
          rintro e w9 ⟨rfl, b9⟩
          go_wp2_with fail
          go_ret
          exact ⟨rfl, b9⟩
end Go.Proofs.YteccblhmpggcgaaDoor
