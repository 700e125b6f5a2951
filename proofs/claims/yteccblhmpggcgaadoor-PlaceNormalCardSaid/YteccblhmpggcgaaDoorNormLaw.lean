/- The walk of PlaceNormal: for every list the law returns true, and what lay in memory is as it was. -/
import Derived.Test.YteccblhmpggcgaaDoorNormMath
import Derived.Test.YteccblhmpggcgaaDoorSome
import Derived.Deep.RegionHeld3
namespace Go.Proofs.YteccblhmpggcgaaDoor
open Go.RowKit

/-- A block that holds a place. -/
def Pl (w : World) (g : Nat) (f a b c : Int) : Prop := Row w g 23 #[.int .i64 f, .int .i64 a, .int .i64 b, .int .i64 c]
/-- What is known between the steps: both places, both normal places, the list. -/
structure Np (W : World) (f : Nat) (x y z : Int) (f' : Nat) (x' y' z' : Int) (g4 g5 g8 g10 ga : Nat) (w : World) : Prop where
  below : Below W.heap.size W w
  p4 : Pl w g4 f x y z
  p5 : Pl w g5 f' x' y' z'
  p8 : Pl w g8 (Ico.nf f x y z : Nat) (nw f x y z 0) (nw f x y z 1) (nw f x y z 2)
  p10 : Pl w g10 (Ico.nf f' x' y' z' : Nat) (nw f' x' y' z' 0) (nw f' x' y' z' 1) (nw f' x' y' z' 2)
  la : ga < w.heap.size
  has : Has w f x y z ga
section
variable {W w w' : World} {f f' : Nat} {x y z x' y' z' : Int} {g4 g5 g8 g10 ga : Nat}
theorem Np.under (h : Np W f x y z f' x' y' z' g4 g5 g8 g10 ga w) (hb : Below w.heap.size w w') : Np W f x y z f' x' y' z' g4 g5 g8 g10 ga w' :=
  ⟨h.below.trans (hb.mono h.below.size), h.p4.under hb, h.p5.under hb, h.p8.under hb, h.p10.under hb, Nat.lt_of_lt_of_le h.la hb.size, h.has.under h.la hb⟩
theorem Np.alloc (h : Np W f x y z f' x' y' z' g4 g5 g8 g10 ga w) (o : Obj) : Np W f x y z f' x' y' z' g4 g5 g8 g10 ga (w.alloc o) := h.under ((Below.refl _ _).alloc (Nat.le_refl _) o)
theorem Np.drewN (h : Np W f x y z f' x' y' z' g4 g5 g8 g10 ga w) (n : Nat) : Np W f x y z f' x' y' z' g4 g5 g8 g10 ga (w.drewN n) := ⟨below_drewN h.below n, h.p4, h.p5, h.p8, h.p10, h.la, h.has⟩
theorem Np.drew (h : Np W f x y z f' x' y' z' g4 g5 g8 g10 ga w) : Np W f x y z f' x' y' z' g4 g5 g8 g10 ga w.drew := ⟨h.below.drew, h.p4, h.p5, h.p8, h.p10, h.la, h.has⟩
theorem Np.cells22 (h : Np W f x y z f' x' y' z' g4 g5 g8 g10 ga w) {g17 g18 : Nat} {a b c e a' b' c' e' : Int} (h17 : Pl w g17 a b c e) (h18 : Pl w g18 a' b' c' e') (hb : Below w.heap.size w w') :
    ((w'.cell? ⟨g17, 0, none⟩ = some (.int .i64 a) ∧ w'.cell? ⟨g17, 1, none⟩ = some (.int .i64 b) ∧ w'.cell? ⟨g17, 2, none⟩ = some (.int .i64 c) ∧ w'.cell? ⟨g17, 3, none⟩ = some (.int .i64 e)) ∧
     (w'.cell? ⟨g18, 0, none⟩ = some (.int .i64 a') ∧ w'.cell? ⟨g18, 1, none⟩ = some (.int .i64 b') ∧ w'.cell? ⟨g18, 2, none⟩ = some (.int .i64 c') ∧ w'.cell? ⟨g18, 3, none⟩ = some (.int .i64 e'))) ∧
    ((w'.cell? ⟨g4, 0, none⟩ = some (.int .i64 f) ∧ w'.cell? ⟨g4, 1, none⟩ = some (.int .i64 x) ∧ w'.cell? ⟨g4, 2, none⟩ = some (.int .i64 y) ∧ w'.cell? ⟨g4, 3, none⟩ = some (.int .i64 z)) ∧
     (w'.cell? ⟨g8, 0, none⟩ = some (.int .i64 (Ico.nf f x y z : Nat)) ∧ w'.cell? ⟨g8, 1, none⟩ = some (.int .i64 (nw f x y z 0)) ∧ w'.cell? ⟨g8, 2, none⟩ = some (.int .i64 (nw f x y z 1)) ∧ w'.cell? ⟨g8, 3, none⟩ = some (.int .i64 (nw f x y z 2)))) :=
  ⟨⟨row4 (h17.under hb), row4 (h18.under hb)⟩, row4 (h.p4.under hb), row4 (h.p8.under hb)⟩
theorem Np.cells26 (h : Np W f x y z f' x' y' z' g4 g5 g8 g10 ga w) (hb : Below w.heap.size w w') :
    ((w'.cell? ⟨g4, 0, none⟩ = some (.int .i64 f) ∧ w'.cell? ⟨g4, 1, none⟩ = some (.int .i64 x) ∧ w'.cell? ⟨g4, 2, none⟩ = some (.int .i64 y) ∧ w'.cell? ⟨g4, 3, none⟩ = some (.int .i64 z)) ∧
     (w'.cell? ⟨g5, 0, none⟩ = some (.int .i64 f') ∧ w'.cell? ⟨g5, 1, none⟩ = some (.int .i64 x') ∧ w'.cell? ⟨g5, 2, none⟩ = some (.int .i64 y') ∧ w'.cell? ⟨g5, 3, none⟩ = some (.int .i64 z'))) ∧
    ((w'.cell? ⟨g8, 0, none⟩ = some (.int .i64 (Ico.nf f x y z : Nat)) ∧ w'.cell? ⟨g8, 1, none⟩ = some (.int .i64 (nw f x y z 0)) ∧ w'.cell? ⟨g8, 2, none⟩ = some (.int .i64 (nw f x y z 1)) ∧ w'.cell? ⟨g8, 3, none⟩ = some (.int .i64 (nw f x y z 2))) ∧
     (w'.cell? ⟨g10, 0, none⟩ = some (.int .i64 (Ico.nf f' x' y' z' : Nat)) ∧ w'.cell? ⟨g10, 1, none⟩ = some (.int .i64 (nw f' x' y' z' 0)) ∧ w'.cell? ⟨g10, 2, none⟩ = some (.int .i64 (nw f' x' y' z' 1)) ∧ w'.cell? ⟨g10, 3, none⟩ = some (.int .i64 (nw f' x' y' z' 2)))) :=
  ⟨⟨row4 (h.p4.under hb), row4 (h.p5.under hb)⟩, row4 (h.p8.under hb), row4 (h.p10.under hb)⟩
end
theorem same_n {f g : Nat} {a b c x y z : Int} (hp : Ico.Vld f a b c) (hq : Ico.Vld g x y z) (w0 w : World) (hb : Below w0.heap.size w0 w) :
    Calls Tryd.prog 22 #[.agg #[.int .i64 f, .int .i64 a, .int .i64 b, .int .i64 c], .agg #[.int .i64 g, .int .i64 x, .int .i64 y, .int .i64 z]] w fun e w' =>
      e = .returned (.bool (((Ico.nf f a b c : Nat) : Int) == ((Ico.nf g x y z : Nat) : Int) && nw f a b c 0 == nw g x y z 0 && nw f a b c 1 == nw g x y z 1 && nw f a b c 2 == nw g x y z 2)) ∧ Below w0.heap.size w0 w' := by
  rw [← same_normal hp hq]
  exact (same_both f a b c g x y z w hp hq).mono fun _ _ ⟨he, hg⟩ => ⟨he, hb.trans (hg.mono hb.size)⟩
attribute [local go_sem] eq_place
set_option maxRecDepth 100000 in
set_option maxHeartbeats 4000000 in
theorem placeNormal_any (v : Value) (w : World) (hE : Env w) (hl : ListIn w v) :
    Calls Tryd.prog 6 #[v] w fun e w' => e = .returned (.bool true) ∧ Below w.heap.size w w' := by
  go_enter Tryd.func6, Tryd.ntmps6
  go_wp2_with fail
  refine (new_any _ _ hl).mono ?_
  rintro e w1 ⟨rfl, s1, -⟩
  go_wp2_with fail
  refine (somewhere_any _ _ _ s1).mono ?_
  rintro e w2 ⟨f, x, y, z, hp, rfl, s2, -⟩
  go_wp2_with fail
  refine (somewhere_any _ _ _ s2).mono ?_
  rintro e w3 ⟨f', x', y', z', hq, rfl, s3, -⟩
  go_upto_region 3 with fail
  have b3 := s3.below
  refine forget (fun Y => Below w.heap.size w Y ∧ Pl Y w3.heap.size f x y z ∧ Pl Y (w3.heap.size + 1) f' x' y' z') ⟨(b3.alloc b3.size _).alloc (by have := b3.size; simp; omega) _, (Row.new _ _ _).alloc _, Row.newAt (by simp)⟩ ?_
  clear s1 s2 s3 b3 hl
  generalize w3.heap.size + 1 = g5 at *
  generalize w3.heap.size = g4 at *
  rintro Y ⟨bY, P4, P5⟩
  have HP := Lib.hid hp; clear hp
  have HQ := Lib.hid hq; clear hq
  obtain ⟨q0, q1, q2, q3⟩ := row4 P4
  go_wp2_with fail
  refine (addresses_open _ _ _ _ _ HP.out).mono ?_
  rintro e w4 ⟨ga, cap, rfl, hb4, -, g2, g3, g4', hH⟩
  have b4 := bY.trans (hb4.mono bY.size)
  have P4' := P4.under hb4
  have P5' := P5.under hb4
  clear q0 q1 q2 q3 P4 P5 bY hb4
  obtain ⟨q0, q1, q2, q3⟩ := row4 P4'
  have HA := Lib.hid hH; clear hH
  go_wp2_with fail
  refine (normal_yes _ _ _ _ _ HP.out).mono ?_
  rintro e w5 ⟨rfl, hb5⟩
  have b5 := b4.trans (hb5.mono b4.size)
  have P4 := P4'.under hb5
  have P5 := P5'.under hb5
  have hH := HA.out.under g2 hb5
  have g5' := Nat.lt_of_lt_of_le g2 hb5.size
  have P8 := Row.new w5 #[.int .i64 (Ico.nf f x y z : Nat), .int .i64 (nw f x y z 0), .int .i64 (nw f x y z 1), .int .i64 (nw f x y z 2)] 23
  clear HA q0 q1 q2 q3 b4 P4' P5' hb5 g2
  go_upto_region 5 with fail
  refine forget (fun Y => Below w.heap.size w Y ∧ Pl Y g4 f x y z ∧ Pl Y g5 f' x' y' z' ∧ Pl Y w5.heap.size (Ico.nf f x y z : Nat) (nw f x y z 0) (nw f x y z 1) (nw f x y z 2) ∧ ga < Y.heap.size ∧ Has Y f x y z ga)
    ⟨b5.alloc b5.size _, P4.alloc _, P5.alloc _, P8, by simp; omega, hH.under g5' ((Below.refl _ _).alloc (Nat.le_refl _) _)⟩ ?_
  clear b5 P4 P5 P8 g5' hH
  generalize w5.heap.size = g8 at *
  rintro Z ⟨bZ, P4, P5, P8, g2, hH⟩
  obtain ⟨q0, q1, q2, q3⟩ := row4 P5
  have HA := Lib.hid hH; clear hH
  go_wp2_with fail
  refine (normal_yes _ _ _ _ _ HQ.out).mono ?_
  rintro e w6 ⟨rfl, hb6⟩
  have b6 := bZ.trans (hb6.mono bZ.size)
  have N : Np w f x y z f' x' y' z' g4 g5 g8 w6.heap.size ga (w6.alloc (.cells #[.int .i64 (Ico.nf f' x' y' z' : Nat), .int .i64 (nw f' x' y' z' 0), .int .i64 (nw f' x' y' z' 1), .int .i64 (nw f' x' y' z' 2)] 23)) :=
    ⟨b6.alloc b6.size _, (P4.under hb6).alloc _, (P5.under hb6).alloc _, (P8.under hb6).alloc _, Row.new _ _ _, by have := hb6.size; simp; omega, (HA.out.under g2 hb6).under (Nat.lt_of_lt_of_le g2 hb6.size) ((Below.refl _ _).alloc (Nat.le_refl _) _)⟩
  go_upto_region 6 with fail
  refine forget (Np w f x y z f' x' y' z' g4 g5 g8 w6.heap.size ga) N ?_
  clear N b6 hb6 bZ P4 P5 P8 g2 HA q0 q1 q2 q3
  generalize w6.heap.size = g10 at *
  rintro V N
  have hlen := Ico.fcs_pos HP.out
  obtain ⟨a0, a1, a2, a3⟩ := N.has.first HP.out
  obtain ⟨n0, n1, n2, n3⟩ := row4 N.p8
  have hz : (((Ico.fcs f x y z 20).length : Int) == 0) = false := by rw [beq_eq_false_iff_ne]; omega
  have HN := Lib.hid N; clear N
  have LZ := Lib.hid (len_zeros HP.out)
  generalize hlen' : (Ico.fcs f x y z 20).length = len at *
  have HL := Lib.hid hlen'; clear hlen'
  go_quiet (fail)
  clear a0 a1 a2 a3 n0 n1 n2 n3
  go_upto_region 9 with fail
  refine forget (Np w f x y z f' x' y' z' g4 g5 g8 g10 ga) (HN.out.drewN _) ?_
  clear HN
  rintro U N
  obtain ⟨n0, n1, n2, n3⟩ := row4 N.p4
  have HN := Lib.hid N; clear N
  go_wp2_with fail
  have r := Row.new U #[.int .i64 x, .int .i64 y, .int .i64 z] 3
  refine forget (fun T => Np w f x y z f' x' y' z' g4 g5 g8 g10 ga T ∧ Row T U.heap.size 3 #[.int .i64 x, .int .i64 y, .int .i64 z]) ⟨HN.out.alloc _, r⟩ ?_
  clear HN r n0 n1 n2 n3
  generalize U.heap.size = gs at *
  rintro T ⟨N, r⟩
  obtain ⟨c0, c1, c2⟩ := row3 r
  have HN := Lib.hid N; clear N
  go_loop [12, 71] (fun s t => ∃ k : Nat, k ≤ 3 ∧ t = .int .i64 k ∧ s = .int .i64 (zc x y z k : Nat)) (fun _ t => 3 - (intOf t).toNat)
  case atStart => exact ⟨0, by omega, rfl, rfl⟩
  case round =>
    obtain ⟨k, hk, rfl, rfl⟩ := hrel
    have hz3 := zc_le x y z k
    by_cases hk3 : k < 3
    · obtain ⟨u, hu, cu⟩ : ∃ u, [x, y, z][k]? = some u ∧ T.cell? ⟨gs, k, none⟩ = some (.int .i64 u) := by
        have : k = 0 ∨ k = 1 ∨ k = 2 := by omega
        rcases this with rfl | rfl | rfl
        · exact ⟨x, rfl, c0⟩
        · exact ⟨y, rfl, c1⟩
        · exact ⟨z, rfl, c2⟩
      have S := Lib.hid (zc_step x y z k hk3 u hu)
      clear hu c0 c1 c2
      by_cases h0 : u = 0
      · have q : (u == 0) = true := beq_iff_eq.2 h0
        have E := Lib.hid (show zc x y z (k + 1) = zc x y z k + 1 by rw [S.out, if_pos h0])
        clear h0 S
        go_wp2_with fail
        go_round
        case rel => exact ⟨k + 1, by omega, by go_num, by rw [E.out]; go_num⟩
        case measure => simp [intOf]; omega
      · have q : (u == 0) = false := beq_eq_false_iff_ne.2 h0
        have E := Lib.hid (show zc x y z (k + 1) = zc x y z k by rw [S.out, if_neg h0]; rfl)
        clear h0 S
        go_wp2_with fail
        go_round
        case rel => exact ⟨k + 1, by omega, by go_num, by rw [E.out]⟩
        case measure => simp [intOf]; omega
    · obtain rfl : k = 3 := by omega
      clear c0 c1 c2 r hz3
      go_upto_region 15 with fail
      go_cut [12, 86] from 80 to 86 (fun _ b wc => b = .bool false ∧ Np w f x y z f' x' y' z' g4 g5 g8 g10 ga wc)
      case first =>
        rcases LZ.out with ⟨hz3, hl⟩ | ⟨hz3, hl⟩ | ⟨hz3, hl⟩
        all_goals
          subst hl
          rw [hz3]
          clear hz3
          go_wp2_with fail
          go_meet
          exact ⟨rfl, HN.out.alloc _⟩
      case rest =>
      obtain ⟨rfl, N⟩ := hcut
      clear HN LZ
      go_wp2_with fail
      go_loopw [15, 89] (fun s t wr => ∃ i : Nat, i ≤ len ∧ t = .int .i64 i ∧ s = .bool (fd f (Ico.fcs f x y z 20) i) ∧ Np w f x y z f' x' y' z' g4 g5 g8 g10 ga wr) (fun _ t _ => len - (intOf t).toNat)
      case atStart => exact ⟨0, by omega, rfl, rfl, N⟩
      case round =>
        clear N
        obtain ⟨i, hi, rfl, rfl, N⟩ := hrel
        by_cases hlt : i < len
        · have hlt' : i < (Ico.fcs f x y z 20).length := by rw [HL.out]; exact hlt
          obtain ⟨a0, a1, a2, a3⟩ := N.has i hlt'
          have NA := Lib.hid (normal_at HP.out i hlt')
          have SA := Lib.hid (same_at HP.out i hlt')
          have FS := Lib.hid (fd_step (f := f) hlt')
          have AO := Lib.hid (at_own HP.out)
          have FL := Lib.hid (fun (k : Nat) (hk : k < i) => face_lt (f := f) (a := x) (b := y) (c := z) hk hlt')
          have HN := Lib.hid N; clear N
          generalize hy : (Ico.fcs f x y z 20)[i] = y0 at *
          have HY := Lib.hid hy; clear hy
          go_upto_region 21 with fail
          have r := Row.new wr #[.int .i64 y0, .int .i64 (Ico.wt f x y z (Ico.cor y0 0)), .int .i64 (Ico.wt f x y z (Ico.cor y0 1)), .int .i64 (Ico.wt f x y z (Ico.cor y0 2))] 23
          refine forget (fun T => Np w f x y z f' x' y' z' g4 g5 g8 g10 ga T ∧ Pl T wr.heap.size y0 (Ico.wt f x y z (Ico.cor y0 0)) (Ico.wt f x y z (Ico.cor y0 1)) (Ico.wt f x y z (Ico.cor y0 2))) ⟨HN.out.alloc _, r⟩ ?_
          clear HN r a0 a1 a2 a3
          generalize wr.heap.size = g17 at *
          rintro T ⟨N, r⟩
          obtain ⟨a0, a1, a2, a3⟩ := row4 r
          have HN := Lib.hid N; clear N
          go_wp2_with fail
          refine (NA.out _).mono ?_
          rintro e w8 ⟨rfl, hb8⟩
          have N8 := (HN.out.under hb8).alloc (.cells #[.int .i64 (Ico.nf f x y z : Nat), .int .i64 (nw f x y z 0), .int .i64 (nw f x y z 1), .int .i64 (nw f x y z 2)] 23)
          have r8 := (r.under hb8).alloc (.cells #[.int .i64 (Ico.nf f x y z : Nat), .int .i64 (nw f x y z 0), .int .i64 (nw f x y z 1), .int .i64 (nw f x y z 2)] 23)
          have n8 := Row.new w8 #[.int .i64 (Ico.nf f x y z : Nat), .int .i64 (nw f x y z 0), .int .i64 (nw f x y z 1), .int .i64 (nw f x y z 2)] 23
          go_upto_region 22 with fail
          refine forget (fun V => Np w f x y z f' x' y' z' g4 g5 g8 g10 ga V ∧ Pl V g17 y0 (Ico.wt f x y z (Ico.cor y0 0)) (Ico.wt f x y z (Ico.cor y0 1)) (Ico.wt f x y z (Ico.cor y0 2)) ∧ Pl V w8.heap.size (Ico.nf f x y z : Nat) (nw f x y z 0) (nw f x y z 1) (nw f x y z 2)) ⟨N8, r8, n8⟩ ?_
          clear HN r N8 r8 n8 hb8 a0 a1 a2 a3 NA
          generalize w8.heap.size = g18 at *
          rintro V ⟨N, P17, P18⟩
          obtain ⟨⟨⟨a0, a1, a2, a3⟩, b0, b1, b2, b3⟩, ⟨c0, c1, c2, c3⟩, d0, d1, d2, d3⟩ := N.cells22 P17 P18 (Below.refl _ _)
          have HN := Lib.hid N; clear N
          have H17 := Lib.hid P17; clear P17
          have H18 := Lib.hid P18; clear P18
          have hb2 := Below.refl V.drew.heap.size V.drew
          go_cut [126] from 99 to 126 (fun b wc => b = .bool false ∧ Np w f x y z f' x' y' z' g4 g5 g8 g10 ga wc ∧ Pl wc g17 y0 (Ico.wt f x y z (Ico.cor y0 0)) (Ico.wt f x y z (Ico.cor y0 1)) (Ico.wt f x y z (Ico.cor y0 2)))
          case first =>
            by_cases hi0 : i = 0
            · subst hi0
              refine wp_region_held_drew (S := (fun w' : World => (((w'.cell? ⟨g17, 0, none⟩ = some (.int .i64 (y0 : Nat)) ∧ w'.cell? ⟨g17, 1, none⟩ = some (.int .i64 (Ico.wt f x y z (Ico.cor y0 0))) ∧ w'.cell? ⟨g17, 2, none⟩ = some (.int .i64 (Ico.wt f x y z (Ico.cor y0 1))) ∧ w'.cell? ⟨g17, 3, none⟩ = some (.int .i64 (Ico.wt f x y z (Ico.cor y0 2)))) ∧ (w'.cell? ⟨g18, 0, none⟩ = some (.int .i64 (Ico.nf f x y z : Nat)) ∧ w'.cell? ⟨g18, 1, none⟩ = some (.int .i64 (nw f x y z 0)) ∧ w'.cell? ⟨g18, 2, none⟩ = some (.int .i64 (nw f x y z 1)) ∧ w'.cell? ⟨g18, 3, none⟩ = some (.int .i64 (nw f x y z 2)))) ∧ ((w'.cell? ⟨g4, 0, none⟩ = some (.int .i64 f) ∧ w'.cell? ⟨g4, 1, none⟩ = some (.int .i64 x) ∧ w'.cell? ⟨g4, 2, none⟩ = some (.int .i64 y) ∧ w'.cell? ⟨g4, 3, none⟩ = some (.int .i64 z)) ∧ (w'.cell? ⟨g8, 0, none⟩ = some (.int .i64 (Ico.nf f x y z : Nat)) ∧ w'.cell? ⟨g8, 1, none⟩ = some (.int .i64 (nw f x y z 0)) ∧ w'.cell? ⟨g8, 2, none⟩ = some (.int .i64 (nw f x y z 1)) ∧ w'.cell? ⟨g8, 3, none⟩ = some (.int .i64 (nw f x y z 2))))))) (by kernel_rfl) (HN.out.drew.cells22 H17.out H18.out hb2) (fun hHeld => ?_)
              refine wpAnyH_take (i := 0) (oi := { dst := some 99, op := Go.Op.move (Go.Operand.tmp 19), type := 31, pos := "law.go:165", after := #[], guard := none }) (v := ?_) rfl (by kernel_rfl) (by kernel_rfl) (by kernel_rfl) (fun _ _ _ h => h) (Or.inl ⟨by rfl, ?_⟩) (by assumption) ?_
              case refine_2 => (intro wx hSx; (try dsimp only at hSx); go_simp; first | done | with_reducible rfl)
              try simp only [Act.put, List.setIfInBounds_toArray, List.set_cons_zero, List.set_cons_succ]
              refine wpAnyH_take (i := 1) (oi := { dst := some 100, op := Go.Op.binOp Go.BinOp.neq 31 (Go.Operand.tmp 99) (Go.Operand.const (Go.Value.int Go.IntKind.i64 0)) 31, type := 4, pos := "law.go:165", after := #[{ on := 0, ground := Go.Ground.data }], guard := none }) (v := ?_) rfl (by kernel_rfl) (by kernel_rfl) (by kernel_rfl) (fun _ _ _ h => h) (Or.inl ⟨by rfl, ?_⟩) (by assumption) ?_
              case refine_2 => (intro wx hSx; (try dsimp only at hSx); go_simp; first | done | with_reducible rfl)
              try simp only [Act.put, List.setIfInBounds_toArray, List.set_cons_zero, List.set_cons_succ]
              refine wpAnyH_take (i := 2) (oi := { dst := some 101, op := Go.Op.move (Go.Operand.tmp 100), type := 4, pos := "law.go:165", after := #[{ on := 1, ground := Go.Ground.data }], guard := none }) (v := ?_) rfl (by kernel_rfl) (by kernel_rfl) (by kernel_rfl) (fun _ _ _ h => h) (Or.inl ⟨by rfl, ?_⟩) (by assumption) ?_
              case refine_2 => (intro wx hSx; (try dsimp only at hSx); go_simp; first | done | with_reducible rfl)
              try simp only [Act.put, List.setIfInBounds_toArray, List.set_cons_zero, List.set_cons_succ]
              refine wpAnyH_take (i := 3) (oi := { dst := some 102, op := Go.Op.load 23 (Go.Operand.tmp 18), type := 23, pos := "law.go:165", after := #[{ on := 2, ground := Go.Ground.guard }], guard := some (2, false) }) (v := ?_) rfl (by kernel_rfl) (by kernel_rfl) (by kernel_rfl) (fun _ _ _ h => h) (Or.inl ⟨by rfl, ?_⟩) (by assumption) ?_
              case refine_2 => (intro wx hSx; (try dsimp only at hSx); go_simp; first | done | with_reducible rfl)
              try simp only [Act.put, List.setIfInBounds_toArray, List.set_cons_zero, List.set_cons_succ]
              refine wpAnyH_take (i := 4) (oi := { dst := some 103, op := Go.Op.load 23 (Go.Operand.tmp 8), type := 23, pos := "law.go:165", after := #[{ on := 2, ground := Go.Ground.guard }], guard := some (2, false) }) (v := ?_) rfl (by kernel_rfl) (by kernel_rfl) (by kernel_rfl) (fun _ _ _ h => h) (Or.inl ⟨by rfl, ?_⟩) (by assumption) ?_
              case refine_2 => (intro wx hSx; (try dsimp only at hSx); go_simp; first | done | with_reducible rfl)
              try simp only [Act.put, List.setIfInBounds_toArray, List.set_cons_zero, List.set_cons_succ]
              refine wpAnyH_take (i := 5) (oi := { dst := some 104, op := Go.Op.binOp Go.BinOp.neq 23 (Go.Operand.tmp 102) (Go.Operand.tmp 103) 23, type := 4, pos := "law.go:165", after := #[{ on := 3, ground := Go.Ground.data }, { on := 4, ground := Go.Ground.data }, { on := 2, ground := Go.Ground.guard }], guard := some (2, false) }) (v := ?_) rfl (by kernel_rfl) (by kernel_rfl) (by kernel_rfl) (fun _ _ _ h => h) (Or.inl ⟨by rfl, ?_⟩) (by assumption) ?_
              case refine_2 => (intro wx hSx; (try dsimp only at hSx); go_simp; first | done | with_reducible rfl)
              try simp only [Act.put, List.setIfInBounds_toArray, List.set_cons_zero, List.set_cons_succ]
              refine wpAnyH_take (i := 6) (oi := { dst := some 105, op := Go.Op.pick (Go.Operand.tmp 101) (Go.Operand.const (Go.Value.bool true)) (Go.Operand.tmp 104), type := 4, pos := "law.go:165", after := #[{ on := 2, ground := Go.Ground.data }, { on := 5, ground := Go.Ground.data }], guard := none }) (v := ?_) rfl (by kernel_rfl) (by kernel_rfl) (by kernel_rfl) (fun _ _ _ h => h) (Or.inl ⟨by rfl, ?_⟩) (by assumption) ?_
              case refine_2 => (intro wx hSx; (try dsimp only at hSx); go_simp; first | done | with_reducible rfl)
              try simp only [Act.put, List.setIfInBounds_toArray, List.set_cons_zero, List.set_cons_succ]
              refine wpAnyH_take (i := 7) (oi := { dst := some 106, op := Go.Op.move (Go.Operand.tmp 105), type := 4, pos := "law.go:165", after := #[{ on := 6, ground := Go.Ground.data }, { on := 2, ground := Go.Ground.chain }], guard := none }) (v := ?_) rfl (by kernel_rfl) (by kernel_rfl) (by kernel_rfl) (fun _ _ _ h => h) (Or.inl ⟨by rfl, ?_⟩) (by assumption) ?_
              case refine_2 => (intro wx hSx; (try dsimp only at hSx); go_simp; first | done | with_reducible rfl)
              try simp only [Act.put, List.setIfInBounds_toArray, List.set_cons_zero, List.set_cons_succ]
              refine wpAnyH_take (i := 8) (oi := { dst := some 107, op := Go.Op.load 23 (Go.Operand.tmp 17), type := 23, pos := "law.go:165", after := #[{ on := 7, ground := Go.Ground.guard }], guard := some (7, false) }) (v := ?_) rfl (by kernel_rfl) (by kernel_rfl) (by kernel_rfl) (fun _ _ _ h => h) (Or.inl ⟨by rfl, ?_⟩) (by assumption) ?_
              case refine_2 => (intro wx hSx; (try dsimp only at hSx); go_simp; first | done | with_reducible rfl)
              try simp only [Act.put, List.setIfInBounds_toArray, List.set_cons_zero, List.set_cons_succ]
              refine wpAnyH_take (i := 9) (oi := { dst := some 108, op := Go.Op.load 23 (Go.Operand.tmp 4), type := 23, pos := "law.go:165", after := #[{ on := 7, ground := Go.Ground.guard }], guard := some (7, false) }) (v := ?_) rfl (by kernel_rfl) (by kernel_rfl) (by kernel_rfl) (fun _ _ _ h => h) (Or.inl ⟨by rfl, ?_⟩) (by assumption) ?_
              case refine_2 => (intro wx hSx; (try dsimp only at hSx); go_simp; first | done | with_reducible rfl)
              try simp only [Act.put, List.setIfInBounds_toArray, List.set_cons_zero, List.set_cons_succ]
              refine wpAnyH_ready (rs := [10]) (by kernel_rfl) (by simp) ?_
              refine AllReadyH.cons (o := { dst := some 109, op := Go.Op.call { callee := Go.Callee.value (Go.Operand.func 22), args := #[Go.Operand.tmp 107, Go.Operand.tmp 108], argTypes := #[23, 23] }, type := 4, pos := "law.go:165", after := #[{ on := 8, ground := Go.Ground.data }, { on := 9, ground := Go.Ground.data }, { on := 7, ground := Go.Ground.chain }, { on := 7, ground := Go.Ground.guard }], guard := some (7, false) }) rfl (fun K hK => ?_) AllReadyH.nil
              go_simp
              clear hb2
              refine (SA.out _).mono ?_
              rintro e w9 ⟨rfl, hb2⟩
              go_wp2_with fail
              refine hK.out _ _ (HN.out.drew.cells22 H17.out H18.out hb2) (fun hHeld2 => ?_)
              clear hK K hHeld
              try simp only [Act.put, List.setIfInBounds_toArray, List.set_cons_zero, List.set_cons_succ]
              refine wpAnyH_take (i := 11) (oi := { dst := some 110, op := Go.Op.unOp Go.UnOp.not 4 (Go.Operand.tmp 109), type := 4, pos := "law.go:165", after := #[{ on := 10, ground := Go.Ground.data }, { on := 7, ground := Go.Ground.guard }], guard := some (7, false) }) (v := ?_) rfl (by kernel_rfl) (by kernel_rfl) (by kernel_rfl) (fun _ _ _ h => h) (Or.inl ⟨by rfl, ?_⟩) (by assumption) ?_
              case refine_2 => (intro wx hSx; (try dsimp only at hSx); go_simp; first | done | with_reducible rfl)
              try simp only [Act.put, List.setIfInBounds_toArray, List.set_cons_zero, List.set_cons_succ]
              refine wpAnyH_take (i := 12) (oi := { dst := some 111, op := Go.Op.pick (Go.Operand.tmp 106) (Go.Operand.const (Go.Value.bool true)) (Go.Operand.tmp 110), type := 4, pos := "law.go:165", after := #[{ on := 7, ground := Go.Ground.data }, { on := 11, ground := Go.Ground.data }], guard := none }) (v := ?_) rfl (by kernel_rfl) (by kernel_rfl) (by kernel_rfl) (fun _ _ _ h => h) (Or.inl ⟨by rfl, ?_⟩) (by assumption) ?_
              case refine_2 => (intro wx hSx; (try dsimp only at hSx); go_simp; first | done | with_reducible rfl)
              try simp only [Act.put, List.setIfInBounds_toArray, List.set_cons_zero, List.set_cons_succ]
              refine wpAnyH_take (i := 13) (oi := { dst := some 112, op := Go.Op.move (Go.Operand.tmp 111), type := 4, pos := "law.go:165", after := #[{ on := 12, ground := Go.Ground.data }, { on := 10, ground := Go.Ground.chain }], guard := none }) (v := ?_) rfl (by kernel_rfl) (by kernel_rfl) (by kernel_rfl) (fun _ _ _ h => h) (Or.inl ⟨by rfl, ?_⟩) (by assumption) ?_
              case refine_2 => (intro wx hSx; (try dsimp only at hSx); go_simp; first | done | with_reducible rfl)
              try simp only [Act.put, List.setIfInBounds_toArray, List.set_cons_zero, List.set_cons_succ]
              refine wpAnyH_take (i := 14) (oi := { dst := some 113, op := Go.Op.move (Go.Operand.tmp 16), type := 3, pos := "law.go:165", after := #[{ on := 13, ground := Go.Ground.guard }], guard := some (13, false) }) (v := ?_) rfl (by kernel_rfl) (by kernel_rfl) (by kernel_rfl) (fun _ _ _ h => h) (Or.inl ⟨by rfl, ?_⟩) (by assumption) ?_
              case refine_2 => (intro wx hSx; (try dsimp only at hSx); go_simp; first | done | with_reducible rfl)
              try simp only [Act.put, List.setIfInBounds_toArray, List.set_cons_zero, List.set_cons_succ]
              refine wpAnyH_take (i := 15) (oi := { dst := some 114, op := Go.Op.binOp Go.BinOp.gtr 3 (Go.Operand.tmp 113) (Go.Operand.const (Go.Value.int Go.IntKind.i64 0)) 3, type := 4, pos := "law.go:165", after := #[{ on := 14, ground := Go.Ground.data }, { on := 13, ground := Go.Ground.guard }], guard := some (13, false) }) (v := ?_) rfl (by kernel_rfl) (by kernel_rfl) (by kernel_rfl) (fun _ _ _ h => h) (Or.inl ⟨by rfl, ?_⟩) (by assumption) ?_
              case refine_2 => (intro wx hSx; (try dsimp only at hSx); go_simp; first | done | with_reducible rfl)
              try simp only [Act.put, List.setIfInBounds_toArray, List.set_cons_zero, List.set_cons_succ]
              refine wpAnyH_take (i := 16) (oi := { dst := some 115, op := Go.Op.move (Go.Operand.tmp 114), type := 4, pos := "law.go:165", after := #[{ on := 15, ground := Go.Ground.data }, { on := 13, ground := Go.Ground.chain }, { on := 13, ground := Go.Ground.guard }], guard := some (13, false) }) (v := ?_) rfl (by kernel_rfl) (by kernel_rfl) (by kernel_rfl) (fun _ _ _ h => h) (Or.inl ⟨by rfl, ?_⟩) (by assumption) ?_
              case refine_2 => (intro wx hSx; (try dsimp only at hSx); go_simp; first | done | with_reducible rfl)
              try simp only [Act.put, List.setIfInBounds_toArray, List.set_cons_zero, List.set_cons_succ]
              refine wpAnyH_take (i := 17) (oi := { dst := some 116, op := Go.Op.move (Go.Operand.tmp 6), type := 30, pos := "law.go:165", after := #[{ on := 16, ground := Go.Ground.guard }], guard := some (16, true) }) (v := undef) rfl (by kernel_rfl) (by kernel_rfl) (by kernel_rfl) (fun _ _ _ h => h) (Or.inr ⟨by rfl, rfl⟩) (by assumption) ?_
              try simp only [Act.put, List.setIfInBounds_toArray, List.set_cons_zero, List.set_cons_succ]
              refine wpAnyH_take (i := 18) (oi := { dst := some 117, op := Go.Op.move (Go.Operand.tmp 16), type := 3, pos := "law.go:165", after := #[{ on := 16, ground := Go.Ground.guard }], guard := some (16, true) }) (v := undef) rfl (by kernel_rfl) (by kernel_rfl) (by kernel_rfl) (fun _ _ _ h => h) (Or.inr ⟨by rfl, rfl⟩) (by assumption) ?_
              try simp only [Act.put, List.setIfInBounds_toArray, List.set_cons_zero, List.set_cons_succ]
              refine wpAnyH_take (i := 19) (oi := { dst := some 118, op := Go.Op.binOp Go.BinOp.sub 3 (Go.Operand.tmp 117) (Go.Operand.const (Go.Value.int Go.IntKind.i64 1)) 3, type := 3, pos := "law.go:165", after := #[{ on := 18, ground := Go.Ground.data }, { on := 16, ground := Go.Ground.guard }], guard := some (16, true) }) (v := undef) rfl (by kernel_rfl) (by kernel_rfl) (by kernel_rfl) (fun _ _ _ h => h) (Or.inr ⟨by rfl, rfl⟩) (by assumption) ?_
              try simp only [Act.put, List.setIfInBounds_toArray, List.set_cons_zero, List.set_cons_succ]
              refine wpAnyH_take (i := 20) (oi := { dst := some 119, op := Go.Op.indexAddr 30 (Go.Operand.tmp 116) (Go.Operand.tmp 118), type := 0, pos := "law.go:165", after := #[{ on := 17, ground := Go.Ground.data }, { on := 19, ground := Go.Ground.data }, { on := 16, ground := Go.Ground.guard }], guard := some (16, true) }) (v := undef) rfl (by kernel_rfl) (by kernel_rfl) (by kernel_rfl) (fun _ _ _ h => h) (Or.inr ⟨by rfl, rfl⟩) (by assumption) ?_
              try simp only [Act.put, List.setIfInBounds_toArray, List.set_cons_zero, List.set_cons_succ]
              refine wpAnyH_take (i := 21) (oi := { dst := some 120, op := Go.Op.fieldAddr 23 (Go.Operand.tmp 119) 0, type := 0, pos := "law.go:165", after := #[{ on := 20, ground := Go.Ground.data }, { on := 16, ground := Go.Ground.guard }], guard := some (16, true) }) (v := undef) rfl (by kernel_rfl) (by kernel_rfl) (by kernel_rfl) (fun _ _ _ h => h) (Or.inr ⟨by rfl, rfl⟩) (by assumption) ?_
              try simp only [Act.put, List.setIfInBounds_toArray, List.set_cons_zero, List.set_cons_succ]
              refine wpAnyH_take (i := 22) (oi := { dst := some 121, op := Go.Op.load 3 (Go.Operand.tmp 120), type := 3, pos := "law.go:165", after := #[{ on := 21, ground := Go.Ground.data }, { on := 16, ground := Go.Ground.guard }], guard := some (16, true) }) (v := undef) rfl (by kernel_rfl) (by kernel_rfl) (by kernel_rfl) (fun _ _ _ h => h) (Or.inr ⟨by rfl, rfl⟩) (by assumption) ?_
              try simp only [Act.put, List.setIfInBounds_toArray, List.set_cons_zero, List.set_cons_succ]
              refine wpAnyH_take (i := 23) (oi := { dst := some 122, op := Go.Op.fieldAddr 23 (Go.Operand.tmp 17) 0, type := 0, pos := "law.go:165", after := #[{ on := 16, ground := Go.Ground.guard }], guard := some (16, true) }) (v := undef) rfl (by kernel_rfl) (by kernel_rfl) (by kernel_rfl) (fun _ _ _ h => h) (Or.inr ⟨by rfl, rfl⟩) (by assumption) ?_
              try simp only [Act.put, List.setIfInBounds_toArray, List.set_cons_zero, List.set_cons_succ]
              refine wpAnyH_take (i := 24) (oi := { dst := some 123, op := Go.Op.load 3 (Go.Operand.tmp 122), type := 3, pos := "law.go:165", after := #[{ on := 23, ground := Go.Ground.data }, { on := 16, ground := Go.Ground.guard }], guard := some (16, true) }) (v := undef) rfl (by kernel_rfl) (by kernel_rfl) (by kernel_rfl) (fun _ _ _ h => h) (Or.inr ⟨by rfl, rfl⟩) (by assumption) ?_
              try simp only [Act.put, List.setIfInBounds_toArray, List.set_cons_zero, List.set_cons_succ]
              refine wpAnyH_take (i := 25) (oi := { dst := some 124, op := Go.Op.binOp Go.BinOp.geq 3 (Go.Operand.tmp 121) (Go.Operand.tmp 123) 3, type := 4, pos := "law.go:165", after := #[{ on := 22, ground := Go.Ground.data }, { on := 24, ground := Go.Ground.data }, { on := 16, ground := Go.Ground.guard }], guard := some (16, true) }) (v := undef) rfl (by kernel_rfl) (by kernel_rfl) (by kernel_rfl) (fun _ _ _ h => h) (Or.inr ⟨by rfl, rfl⟩) (by assumption) ?_
              try simp only [Act.put, List.setIfInBounds_toArray, List.set_cons_zero, List.set_cons_succ]
              refine wpAnyH_take (i := 26) (oi := { dst := some 125, op := Go.Op.pick (Go.Operand.tmp 115) (Go.Operand.tmp 124) (Go.Operand.const (Go.Value.bool false)), type := 4, pos := "law.go:165", after := #[{ on := 16, ground := Go.Ground.data }, { on := 25, ground := Go.Ground.data }, { on := 13, ground := Go.Ground.guard }], guard := some (13, false) }) (v := ?_) rfl (by kernel_rfl) (by kernel_rfl) (by kernel_rfl) (fun _ _ _ h => h) (Or.inl ⟨by rfl, ?_⟩) (by assumption) ?_
              case refine_2 => (intro wx hSx; (try dsimp only at hSx); go_simp; first | done | with_reducible rfl)
              try simp only [Act.put, List.setIfInBounds_toArray, List.set_cons_zero, List.set_cons_succ]
              refine wpAnyH_take (i := 27) (oi := { dst := some 126, op := Go.Op.pick (Go.Operand.tmp 112) (Go.Operand.const (Go.Value.bool true)) (Go.Operand.tmp 125), type := 4, pos := "law.go:165", after := #[{ on := 13, ground := Go.Ground.data }, { on := 26, ground := Go.Ground.data }], guard := none }) (v := ?_) rfl (by kernel_rfl) (by kernel_rfl) (by kernel_rfl) (fun _ _ _ h => h) (Or.inl ⟨by rfl, ?_⟩) (by assumption) ?_
              case refine_2 => (intro wx hSx; (try dsimp only at hSx); go_simp; first | done | with_reducible rfl)
              try simp only [Act.put, List.setIfInBounds_toArray, List.set_cons_zero, List.set_cons_succ]
              refine wpAnyH_done (by kernel_rfl) ?_ _
              go_wp2_with fail
              go_meet
              exact ⟨rfl, HN.out.drew.under hb2, Row.under (w := V.drew) H17.out hb2⟩
            · obtain ⟨k, rfl⟩ : ∃ k, i = k + 1 := ⟨i - 1, by omega⟩
              have hk : k < (Ico.fcs f x y z 20).length := by omega
              obtain ⟨e0, -⟩ := HN.out.has k hk
              have hle := FL.out k (by omega)
              generalize (Ico.fcs f x y z 20)[k] = y1 at *
              have hle2 : decide ((y0 : Int) ≤ (y1 : Int)) = false := decide_eq_false (by omega)
              have hle3 : decide (y0 ≤ y1) = false := decide_eq_false (by omega)
              have E0 := Lib.hid e0
              clear hle hk hi0
              have k1 : (0 : Int) ≤ (k : Int) := by omega
              have k2 : (k : Int) < (len : Int) := by omega
              have LA := Lib.hid HN.out.la
              have x3 : IntKind.i64.wrap (k : Int) = (k : Int) := IntWalk.i64_in _ (by omega)
              refine wp_region_held_drew (S := (fun w' : World => ((((w'.cell? ⟨g17, 0, none⟩ = some (.int .i64 (y0 : Nat)) ∧ w'.cell? ⟨g17, 1, none⟩ = some (.int .i64 (Ico.wt f x y z (Ico.cor y0 0))) ∧ w'.cell? ⟨g17, 2, none⟩ = some (.int .i64 (Ico.wt f x y z (Ico.cor y0 1))) ∧ w'.cell? ⟨g17, 3, none⟩ = some (.int .i64 (Ico.wt f x y z (Ico.cor y0 2)))) ∧ (w'.cell? ⟨g18, 0, none⟩ = some (.int .i64 (Ico.nf f x y z : Nat)) ∧ w'.cell? ⟨g18, 1, none⟩ = some (.int .i64 (nw f x y z 0)) ∧ w'.cell? ⟨g18, 2, none⟩ = some (.int .i64 (nw f x y z 1)) ∧ w'.cell? ⟨g18, 3, none⟩ = some (.int .i64 (nw f x y z 2)))) ∧ ((w'.cell? ⟨g4, 0, none⟩ = some (.int .i64 f) ∧ w'.cell? ⟨g4, 1, none⟩ = some (.int .i64 x) ∧ w'.cell? ⟨g4, 2, none⟩ = some (.int .i64 y) ∧ w'.cell? ⟨g4, 3, none⟩ = some (.int .i64 z)) ∧ (w'.cell? ⟨g8, 0, none⟩ = some (.int .i64 (Ico.nf f x y z : Nat)) ∧ w'.cell? ⟨g8, 1, none⟩ = some (.int .i64 (nw f x y z 0)) ∧ w'.cell? ⟨g8, 2, none⟩ = some (.int .i64 (nw f x y z 1)) ∧ w'.cell? ⟨g8, 3, none⟩ = some (.int .i64 (nw f x y z 2))))) ∧ w'.cell? ⟨ga, k * 4, none⟩ = some (.int .i64 (y1 : Nat))))) (by kernel_rfl) ⟨HN.out.drew.cells22 H17.out H18.out hb2, E0.out⟩ (fun hHeld => ?_)
              refine wpAnyH_take (i := 0) (oi := { dst := some 99, op := Go.Op.move (Go.Operand.tmp 19), type := 31, pos := "law.go:165", after := #[], guard := none }) (v := ?_) rfl (by kernel_rfl) (by kernel_rfl) (by kernel_rfl) (fun _ _ _ h => h) (Or.inl ⟨by rfl, ?_⟩) (by assumption) ?_
              case refine_2 => (intro wx hSx; (try dsimp only at hSx); go_simp; first | done | with_reducible rfl)
              try simp only [Act.put, List.setIfInBounds_toArray, List.set_cons_zero, List.set_cons_succ]
              refine wpAnyH_take (i := 1) (oi := { dst := some 100, op := Go.Op.binOp Go.BinOp.neq 31 (Go.Operand.tmp 99) (Go.Operand.const (Go.Value.int Go.IntKind.i64 0)) 31, type := 4, pos := "law.go:165", after := #[{ on := 0, ground := Go.Ground.data }], guard := none }) (v := ?_) rfl (by kernel_rfl) (by kernel_rfl) (by kernel_rfl) (fun _ _ _ h => h) (Or.inl ⟨by rfl, ?_⟩) (by assumption) ?_
              case refine_2 => (intro wx hSx; (try dsimp only at hSx); go_simp; first | done | with_reducible rfl)
              try simp only [Act.put, List.setIfInBounds_toArray, List.set_cons_zero, List.set_cons_succ]
              refine wpAnyH_take (i := 2) (oi := { dst := some 101, op := Go.Op.move (Go.Operand.tmp 100), type := 4, pos := "law.go:165", after := #[{ on := 1, ground := Go.Ground.data }], guard := none }) (v := ?_) rfl (by kernel_rfl) (by kernel_rfl) (by kernel_rfl) (fun _ _ _ h => h) (Or.inl ⟨by rfl, ?_⟩) (by assumption) ?_
              case refine_2 => (intro wx hSx; (try dsimp only at hSx); go_simp; first | done | with_reducible rfl)
              try simp only [Act.put, List.setIfInBounds_toArray, List.set_cons_zero, List.set_cons_succ]
              refine wpAnyH_take (i := 3) (oi := { dst := some 102, op := Go.Op.load 23 (Go.Operand.tmp 18), type := 23, pos := "law.go:165", after := #[{ on := 2, ground := Go.Ground.guard }], guard := some (2, false) }) (v := ?_) rfl (by kernel_rfl) (by kernel_rfl) (by kernel_rfl) (fun _ _ _ h => h) (Or.inl ⟨by rfl, ?_⟩) (by assumption) ?_
              case refine_2 => (intro wx hSx; (try dsimp only at hSx); go_simp; first | done | with_reducible rfl)
              try simp only [Act.put, List.setIfInBounds_toArray, List.set_cons_zero, List.set_cons_succ]
              refine wpAnyH_take (i := 4) (oi := { dst := some 103, op := Go.Op.load 23 (Go.Operand.tmp 8), type := 23, pos := "law.go:165", after := #[{ on := 2, ground := Go.Ground.guard }], guard := some (2, false) }) (v := ?_) rfl (by kernel_rfl) (by kernel_rfl) (by kernel_rfl) (fun _ _ _ h => h) (Or.inl ⟨by rfl, ?_⟩) (by assumption) ?_
              case refine_2 => (intro wx hSx; (try dsimp only at hSx); go_simp; first | done | with_reducible rfl)
              try simp only [Act.put, List.setIfInBounds_toArray, List.set_cons_zero, List.set_cons_succ]
              refine wpAnyH_take (i := 5) (oi := { dst := some 104, op := Go.Op.binOp Go.BinOp.neq 23 (Go.Operand.tmp 102) (Go.Operand.tmp 103) 23, type := 4, pos := "law.go:165", after := #[{ on := 3, ground := Go.Ground.data }, { on := 4, ground := Go.Ground.data }, { on := 2, ground := Go.Ground.guard }], guard := some (2, false) }) (v := ?_) rfl (by kernel_rfl) (by kernel_rfl) (by kernel_rfl) (fun _ _ _ h => h) (Or.inl ⟨by rfl, ?_⟩) (by assumption) ?_
              case refine_2 => (intro wx hSx; (try dsimp only at hSx); go_simp; first | done | with_reducible rfl)
              try simp only [Act.put, List.setIfInBounds_toArray, List.set_cons_zero, List.set_cons_succ]
              refine wpAnyH_take (i := 6) (oi := { dst := some 105, op := Go.Op.pick (Go.Operand.tmp 101) (Go.Operand.const (Go.Value.bool true)) (Go.Operand.tmp 104), type := 4, pos := "law.go:165", after := #[{ on := 2, ground := Go.Ground.data }, { on := 5, ground := Go.Ground.data }], guard := none }) (v := ?_) rfl (by kernel_rfl) (by kernel_rfl) (by kernel_rfl) (fun _ _ _ h => h) (Or.inl ⟨by rfl, ?_⟩) (by assumption) ?_
              case refine_2 => (intro wx hSx; (try dsimp only at hSx); go_simp; first | done | with_reducible rfl)
              try simp only [Act.put, List.setIfInBounds_toArray, List.set_cons_zero, List.set_cons_succ]
              refine wpAnyH_take (i := 7) (oi := { dst := some 106, op := Go.Op.move (Go.Operand.tmp 105), type := 4, pos := "law.go:165", after := #[{ on := 6, ground := Go.Ground.data }, { on := 2, ground := Go.Ground.chain }], guard := none }) (v := ?_) rfl (by kernel_rfl) (by kernel_rfl) (by kernel_rfl) (fun _ _ _ h => h) (Or.inl ⟨by rfl, ?_⟩) (by assumption) ?_
              case refine_2 => (intro wx hSx; (try dsimp only at hSx); go_simp; first | done | with_reducible rfl)
              try simp only [Act.put, List.setIfInBounds_toArray, List.set_cons_zero, List.set_cons_succ]
              refine wpAnyH_take (i := 8) (oi := { dst := some 107, op := Go.Op.load 23 (Go.Operand.tmp 17), type := 23, pos := "law.go:165", after := #[{ on := 7, ground := Go.Ground.guard }], guard := some (7, false) }) (v := ?_) rfl (by kernel_rfl) (by kernel_rfl) (by kernel_rfl) (fun _ _ _ h => h) (Or.inl ⟨by rfl, ?_⟩) (by assumption) ?_
              case refine_2 => (intro wx hSx; (try dsimp only at hSx); go_simp; first | done | with_reducible rfl)
              try simp only [Act.put, List.setIfInBounds_toArray, List.set_cons_zero, List.set_cons_succ]
              refine wpAnyH_take (i := 9) (oi := { dst := some 108, op := Go.Op.load 23 (Go.Operand.tmp 4), type := 23, pos := "law.go:165", after := #[{ on := 7, ground := Go.Ground.guard }], guard := some (7, false) }) (v := ?_) rfl (by kernel_rfl) (by kernel_rfl) (by kernel_rfl) (fun _ _ _ h => h) (Or.inl ⟨by rfl, ?_⟩) (by assumption) ?_
              case refine_2 => (intro wx hSx; (try dsimp only at hSx); go_simp; first | done | with_reducible rfl)
              try simp only [Act.put, List.setIfInBounds_toArray, List.set_cons_zero, List.set_cons_succ]
              refine wpAnyH_ready (rs := [10]) (by kernel_rfl) (by simp) ?_
              refine AllReadyH.cons (o := { dst := some 109, op := Go.Op.call { callee := Go.Callee.value (Go.Operand.func 22), args := #[Go.Operand.tmp 107, Go.Operand.tmp 108], argTypes := #[23, 23] }, type := 4, pos := "law.go:165", after := #[{ on := 8, ground := Go.Ground.data }, { on := 9, ground := Go.Ground.data }, { on := 7, ground := Go.Ground.chain }, { on := 7, ground := Go.Ground.guard }], guard := some (7, false) }) rfl (fun K hK => ?_) AllReadyH.nil
              go_simp
              clear hb2
              refine (SA.out _).mono ?_
              rintro e w9 ⟨rfl, hb2⟩
              go_wp2_with fail
              refine hK.out _ _ ⟨HN.out.drew.cells22 H17.out H18.out hb2, (hb2.cell (p := ⟨ga, k * 4, none⟩) LA.out).trans E0.out⟩ (fun hHeld2 => ?_)
              clear hK K hHeld
              try simp only [Act.put, List.setIfInBounds_toArray, List.set_cons_zero, List.set_cons_succ]
              refine wpAnyH_take (i := 11) (oi := { dst := some 110, op := Go.Op.unOp Go.UnOp.not 4 (Go.Operand.tmp 109), type := 4, pos := "law.go:165", after := #[{ on := 10, ground := Go.Ground.data }, { on := 7, ground := Go.Ground.guard }], guard := some (7, false) }) (v := ?_) rfl (by kernel_rfl) (by kernel_rfl) (by kernel_rfl) (fun _ _ _ h => h) (Or.inl ⟨by rfl, ?_⟩) (by assumption) ?_
              case refine_2 => (intro wx hSx; (try dsimp only at hSx); go_simp; first | done | with_reducible rfl)
              try simp only [Act.put, List.setIfInBounds_toArray, List.set_cons_zero, List.set_cons_succ]
              refine wpAnyH_take (i := 12) (oi := { dst := some 111, op := Go.Op.pick (Go.Operand.tmp 106) (Go.Operand.const (Go.Value.bool true)) (Go.Operand.tmp 110), type := 4, pos := "law.go:165", after := #[{ on := 7, ground := Go.Ground.data }, { on := 11, ground := Go.Ground.data }], guard := none }) (v := ?_) rfl (by kernel_rfl) (by kernel_rfl) (by kernel_rfl) (fun _ _ _ h => h) (Or.inl ⟨by rfl, ?_⟩) (by assumption) ?_
              case refine_2 => (intro wx hSx; (try dsimp only at hSx); go_simp; first | done | with_reducible rfl)
              try simp only [Act.put, List.setIfInBounds_toArray, List.set_cons_zero, List.set_cons_succ]
              refine wpAnyH_take (i := 13) (oi := { dst := some 112, op := Go.Op.move (Go.Operand.tmp 111), type := 4, pos := "law.go:165", after := #[{ on := 12, ground := Go.Ground.data }, { on := 10, ground := Go.Ground.chain }], guard := none }) (v := ?_) rfl (by kernel_rfl) (by kernel_rfl) (by kernel_rfl) (fun _ _ _ h => h) (Or.inl ⟨by rfl, ?_⟩) (by assumption) ?_
              case refine_2 => (intro wx hSx; (try dsimp only at hSx); go_simp; first | done | with_reducible rfl)
              try simp only [Act.put, List.setIfInBounds_toArray, List.set_cons_zero, List.set_cons_succ]
              refine wpAnyH_take (i := 14) (oi := { dst := some 113, op := Go.Op.move (Go.Operand.tmp 16), type := 3, pos := "law.go:165", after := #[{ on := 13, ground := Go.Ground.guard }], guard := some (13, false) }) (v := ?_) rfl (by kernel_rfl) (by kernel_rfl) (by kernel_rfl) (fun _ _ _ h => h) (Or.inl ⟨by rfl, ?_⟩) (by assumption) ?_
              case refine_2 => (intro wx hSx; (try dsimp only at hSx); go_simp; first | done | with_reducible rfl)
              try simp only [Act.put, List.setIfInBounds_toArray, List.set_cons_zero, List.set_cons_succ]
              refine wpAnyH_take (i := 15) (oi := { dst := some 114, op := Go.Op.binOp Go.BinOp.gtr 3 (Go.Operand.tmp 113) (Go.Operand.const (Go.Value.int Go.IntKind.i64 0)) 3, type := 4, pos := "law.go:165", after := #[{ on := 14, ground := Go.Ground.data }, { on := 13, ground := Go.Ground.guard }], guard := some (13, false) }) (v := ?_) rfl (by kernel_rfl) (by kernel_rfl) (by kernel_rfl) (fun _ _ _ h => h) (Or.inl ⟨by rfl, ?_⟩) (by assumption) ?_
              case refine_2 => (intro wx hSx; (try dsimp only at hSx); go_simp; first | done | with_reducible rfl)
              try simp only [Act.put, List.setIfInBounds_toArray, List.set_cons_zero, List.set_cons_succ]
              refine wpAnyH_take (i := 16) (oi := { dst := some 115, op := Go.Op.move (Go.Operand.tmp 114), type := 4, pos := "law.go:165", after := #[{ on := 15, ground := Go.Ground.data }, { on := 13, ground := Go.Ground.chain }, { on := 13, ground := Go.Ground.guard }], guard := some (13, false) }) (v := ?_) rfl (by kernel_rfl) (by kernel_rfl) (by kernel_rfl) (fun _ _ _ h => h) (Or.inl ⟨by rfl, ?_⟩) (by assumption) ?_
              case refine_2 => (intro wx hSx; (try dsimp only at hSx); go_simp; first | done | with_reducible rfl)
              try simp only [Act.put, List.setIfInBounds_toArray, List.set_cons_zero, List.set_cons_succ]
              refine wpAnyH_take (i := 17) (oi := { dst := some 116, op := Go.Op.move (Go.Operand.tmp 6), type := 30, pos := "law.go:165", after := #[{ on := 16, ground := Go.Ground.guard }], guard := some (16, true) }) (v := ?_) rfl (by kernel_rfl) (by kernel_rfl) (by kernel_rfl) (fun _ _ _ h => h) (Or.inl ⟨by rfl, ?_⟩) (by assumption) ?_
              case refine_2 => (intro wx hSx; (try dsimp only at hSx); go_simp; first | done | with_reducible rfl)
              try simp only [Act.put, List.setIfInBounds_toArray, List.set_cons_zero, List.set_cons_succ]
              refine wpAnyH_take (i := 18) (oi := { dst := some 117, op := Go.Op.move (Go.Operand.tmp 16), type := 3, pos := "law.go:165", after := #[{ on := 16, ground := Go.Ground.guard }], guard := some (16, true) }) (v := ?_) rfl (by kernel_rfl) (by kernel_rfl) (by kernel_rfl) (fun _ _ _ h => h) (Or.inl ⟨by rfl, ?_⟩) (by assumption) ?_
              case refine_2 => (intro wx hSx; (try dsimp only at hSx); go_simp; first | done | with_reducible rfl)
              try simp only [Act.put, List.setIfInBounds_toArray, List.set_cons_zero, List.set_cons_succ]
              refine wpAnyH_take (i := 19) (oi := { dst := some 118, op := Go.Op.binOp Go.BinOp.sub 3 (Go.Operand.tmp 117) (Go.Operand.const (Go.Value.int Go.IntKind.i64 1)) 3, type := 3, pos := "law.go:165", after := #[{ on := 18, ground := Go.Ground.data }, { on := 16, ground := Go.Ground.guard }], guard := some (16, true) }) (v := ?_) rfl (by kernel_rfl) (by kernel_rfl) (by kernel_rfl) (fun _ _ _ h => h) (Or.inl ⟨by rfl, ?_⟩) (by assumption) ?_
              case refine_2 => (intro wx hSx; (try dsimp only at hSx); go_simp; first | done | with_reducible rfl)
              try simp only [Act.put, List.setIfInBounds_toArray, List.set_cons_zero, List.set_cons_succ]
              refine wpAnyH_take (i := 20) (oi := { dst := some 119, op := Go.Op.indexAddr 30 (Go.Operand.tmp 116) (Go.Operand.tmp 118), type := 0, pos := "law.go:165", after := #[{ on := 17, ground := Go.Ground.data }, { on := 19, ground := Go.Ground.data }, { on := 16, ground := Go.Ground.guard }], guard := some (16, true) }) (v := ?_) rfl (by kernel_rfl) (by kernel_rfl) (by kernel_rfl) (fun _ _ _ h => h) (Or.inl ⟨by rfl, ?_⟩) (by assumption) ?_
              case refine_2 => (intro wx hSx; (try dsimp only at hSx); go_simp; first | done | with_reducible rfl)
              try simp only [Act.put, List.setIfInBounds_toArray, List.set_cons_zero, List.set_cons_succ]
              refine wpAnyH_take (i := 21) (oi := { dst := some 120, op := Go.Op.fieldAddr 23 (Go.Operand.tmp 119) 0, type := 0, pos := "law.go:165", after := #[{ on := 20, ground := Go.Ground.data }, { on := 16, ground := Go.Ground.guard }], guard := some (16, true) }) (v := ?_) rfl (by kernel_rfl) (by kernel_rfl) (by kernel_rfl) (fun _ _ _ h => h) (Or.inl ⟨by rfl, ?_⟩) (by assumption) ?_
              case refine_2 => (intro wx hSx; (try dsimp only at hSx); go_simp; first | done | with_reducible rfl)
              try simp only [Act.put, List.setIfInBounds_toArray, List.set_cons_zero, List.set_cons_succ]
              refine wpAnyH_take (i := 22) (oi := { dst := some 121, op := Go.Op.load 3 (Go.Operand.tmp 120), type := 3, pos := "law.go:165", after := #[{ on := 21, ground := Go.Ground.data }, { on := 16, ground := Go.Ground.guard }], guard := some (16, true) }) (v := ?_) rfl (by kernel_rfl) (by kernel_rfl) (by kernel_rfl) (fun _ _ _ h => h) (Or.inl ⟨by rfl, ?_⟩) (by assumption) ?_
              case refine_2 => (intro wx hSx; (try dsimp only at hSx); go_simp; first | done | with_reducible rfl)
              try simp only [Act.put, List.setIfInBounds_toArray, List.set_cons_zero, List.set_cons_succ]
              refine wpAnyH_take (i := 23) (oi := { dst := some 122, op := Go.Op.fieldAddr 23 (Go.Operand.tmp 17) 0, type := 0, pos := "law.go:165", after := #[{ on := 16, ground := Go.Ground.guard }], guard := some (16, true) }) (v := ?_) rfl (by kernel_rfl) (by kernel_rfl) (by kernel_rfl) (fun _ _ _ h => h) (Or.inl ⟨by rfl, ?_⟩) (by assumption) ?_
              case refine_2 => (intro wx hSx; (try dsimp only at hSx); go_simp; first | done | with_reducible rfl)
              try simp only [Act.put, List.setIfInBounds_toArray, List.set_cons_zero, List.set_cons_succ]
              refine wpAnyH_take (i := 24) (oi := { dst := some 123, op := Go.Op.load 3 (Go.Operand.tmp 122), type := 3, pos := "law.go:165", after := #[{ on := 23, ground := Go.Ground.data }, { on := 16, ground := Go.Ground.guard }], guard := some (16, true) }) (v := ?_) rfl (by kernel_rfl) (by kernel_rfl) (by kernel_rfl) (fun _ _ _ h => h) (Or.inl ⟨by rfl, ?_⟩) (by assumption) ?_
              case refine_2 => (intro wx hSx; (try dsimp only at hSx); go_simp; first | done | with_reducible rfl)
              try simp only [Act.put, List.setIfInBounds_toArray, List.set_cons_zero, List.set_cons_succ]
              refine wpAnyH_take (i := 25) (oi := { dst := some 124, op := Go.Op.binOp Go.BinOp.geq 3 (Go.Operand.tmp 121) (Go.Operand.tmp 123) 3, type := 4, pos := "law.go:165", after := #[{ on := 22, ground := Go.Ground.data }, { on := 24, ground := Go.Ground.data }, { on := 16, ground := Go.Ground.guard }], guard := some (16, true) }) (v := ?_) rfl (by kernel_rfl) (by kernel_rfl) (by kernel_rfl) (fun _ _ _ h => h) (Or.inl ⟨by rfl, ?_⟩) (by assumption) ?_
              case refine_2 => (intro wx hSx; (try dsimp only at hSx); go_simp; first | done | with_reducible rfl)
              try simp only [Act.put, List.setIfInBounds_toArray, List.set_cons_zero, List.set_cons_succ]
              refine wpAnyH_take (i := 26) (oi := { dst := some 125, op := Go.Op.pick (Go.Operand.tmp 115) (Go.Operand.tmp 124) (Go.Operand.const (Go.Value.bool false)), type := 4, pos := "law.go:165", after := #[{ on := 16, ground := Go.Ground.data }, { on := 25, ground := Go.Ground.data }, { on := 13, ground := Go.Ground.guard }], guard := some (13, false) }) (v := ?_) rfl (by kernel_rfl) (by kernel_rfl) (by kernel_rfl) (fun _ _ _ h => h) (Or.inl ⟨by rfl, ?_⟩) (by assumption) ?_
              case refine_2 => (intro wx hSx; (try dsimp only at hSx); go_simp; first | done | with_reducible rfl)
              try simp only [Act.put, List.setIfInBounds_toArray, List.set_cons_zero, List.set_cons_succ]
              refine wpAnyH_take (i := 27) (oi := { dst := some 126, op := Go.Op.pick (Go.Operand.tmp 112) (Go.Operand.const (Go.Value.bool true)) (Go.Operand.tmp 125), type := 4, pos := "law.go:165", after := #[{ on := 13, ground := Go.Ground.data }, { on := 26, ground := Go.Ground.data }], guard := none }) (v := ?_) rfl (by kernel_rfl) (by kernel_rfl) (by kernel_rfl) (fun _ _ _ h => h) (Or.inl ⟨by rfl, ?_⟩) (by assumption) ?_
              case refine_2 => (intro wx hSx; (try dsimp only at hSx); go_simp; first | done | with_reducible rfl)
              try simp only [Act.put, List.setIfInBounds_toArray, List.set_cons_zero, List.set_cons_succ]
              refine wpAnyH_done (by kernel_rfl) ?_ _
              go_wp2_with fail
              go_meet
              exact ⟨rfl, HN.out.drew.under hb2, Row.under (w := V.drew) H17.out hb2⟩
          case rest =>
          obtain ⟨rfl, N, P17⟩ := hcut
          clear HN H17 H18 a0 a1 a2 a3 b0 b1 b2 b3 c0 c1 c2 c3 d0 d1 d2 d3 hb2
          obtain ⟨a0, a1, a2, a3⟩ := row4 P17
          obtain ⟨c0, c1, c2, c3⟩ := row4 N.p4
          have HN := Lib.hid N; clear N P17
          cases hfd : fd f (Ico.fcs f x y z 20) i
          · by_cases hyf : y0 = f
            · have E := Lib.hid (show fd f (Ico.fcs f x y z 20) (i + 1) = true by rw [FS.out]; simp [hyf])
              subst hyf
              rw [AO.out.1] at a1
              rw [AO.out.2.1] at a2
              rw [AO.out.2.2] at a3
              clear hfd FS
              go_wp2_with fail
              go_roundw
              case rel => exact ⟨i + 1, by omega, by go_num, by rw [E.out], HN.out⟩
              case measure => simp [intOf]; omega
            · have E := Lib.hid (show fd f (Ico.fcs f x y z 20) (i + 1) = false by rw [FS.out, hfd]; simp [hyf])
              have q : ((y0 : Int) == (f : Int)) = false := by rw [beq_eq_false_iff_ne]; omega
              clear hfd FS hyf
              go_wp2_with fail
              go_roundw
              case rel => exact ⟨i + 1, by omega, by go_num, by rw [E.out], HN.out⟩
              case measure => simp [intOf]; omega
          · have E := Lib.hid (show fd f (Ico.fcs f x y z 20) (i + 1) = true by rw [FS.out, hfd]; rfl)
            clear hfd FS
            go_wp2_with fail
            go_roundw
            case rel => exact ⟨i + 1, by omega, by go_num, by rw [E.out], HN.out⟩
            case measure => simp [intOf]; omega
        · obtain rfl : i = len := by omega
          have FE := Lib.hid (fd_end HP.out)
          rw [HL.out] at FE
          rw [FE.out]
          obtain ⟨a0, a1, a2, a3⟩ := row4 N.p4
          obtain ⟨b0, b1, b2, b3⟩ := row4 N.p5
          obtain ⟨c0, c1, c2, c3⟩ := row4 N.p8
          obtain ⟨d0, d1, d2, d3⟩ := row4 N.p10
          have HN := Lib.hid N; clear N
          have SN := Lib.hid (same_n HP.out HQ.out)
          go_upto_region 26 with fail
          have CE := Lib.hid (fun (w' : World) (hb : Below wr.drew.heap.size wr.drew w') => HN.out.drew.cells26 hb)
          have BE := Lib.hid HN.out.below; clear HN
          generalize ((Ico.nf f x y z : Nat) : Int) = p0 at *
          generalize nw f x y z 0 = p1 at *
          generalize nw f x y z 1 = p2 at *
          generalize nw f x y z 2 = p3 at *
          generalize ((Ico.nf f' x' y' z' : Nat) : Int) = r0 at *
          generalize nw f' x' y' z' 0 = r1 at *
          generalize nw f' x' y' z' 1 = r2 at *
          generalize nw f' x' y' z' 2 = r3 at *
          have hb2 := Below.refl wr.drew.heap.size wr.drew
          have hc : (p0 == r0) = false ∨ (p0 = r0 ∧ ((p1 == r1) = false ∨ (p1 = r1 ∧ ((p2 == r2) = false ∨ (p2 = r2 ∧ ((p3 == r3) = false ∨ p3 = r3)))))) := by
            simp only [beq_eq_false_iff_ne]; omega
          rcases hc with hc | ⟨rfl, hc | ⟨rfl, hc | ⟨rfl, hc | rfl⟩⟩⟩
          · go_region_held3 (fun w' => ((w'.cell? ⟨g4, 0, none⟩ = some (.int .i64 f) ∧ w'.cell? ⟨g4, 1, none⟩ = some (.int .i64 x) ∧ w'.cell? ⟨g4, 2, none⟩ = some (.int .i64 y) ∧ w'.cell? ⟨g4, 3, none⟩ = some (.int .i64 z)) ∧
              (w'.cell? ⟨g5, 0, none⟩ = some (.int .i64 f') ∧ w'.cell? ⟨g5, 1, none⟩ = some (.int .i64 x') ∧ w'.cell? ⟨g5, 2, none⟩ = some (.int .i64 y') ∧ w'.cell? ⟨g5, 3, none⟩ = some (.int .i64 z'))) ∧
              ((w'.cell? ⟨g8, 0, none⟩ = some (.int .i64 p0) ∧ w'.cell? ⟨g8, 1, none⟩ = some (.int .i64 p1) ∧ w'.cell? ⟨g8, 2, none⟩ = some (.int .i64 p2) ∧ w'.cell? ⟨g8, 3, none⟩ = some (.int .i64 p3)) ∧
              (w'.cell? ⟨g10, 0, none⟩ = some (.int .i64 r0) ∧ w'.cell? ⟨g10, 1, none⟩ = some (.int .i64 r1) ∧ w'.cell? ⟨g10, 2, none⟩ = some (.int .i64 r2) ∧ w'.cell? ⟨g10, 3, none⟩ = some (.int .i64 r3))))
              (first | go_keep | exact CE.out _ hb2)
              (first | (go_at_call 22; refine (SN.out _ _ hb2).mono ?_; clear hb2; rintro e w8 ⟨rfl, hb2⟩) | (go_at_call 28; refine (awake_from (w0 := wr.drew) _ (hE.under BE.out).drew hb2).mono ?_; clear hb2; rintro e w9 ⟨rfl, hb2⟩))
            go_wp2_with fail
            go_ret
            exact ⟨rfl, BE.out.trans ((undrew hb2).mono BE.out.size)⟩
          · go_region_held3 (fun w' => ((w'.cell? ⟨g4, 0, none⟩ = some (.int .i64 f) ∧ w'.cell? ⟨g4, 1, none⟩ = some (.int .i64 x) ∧ w'.cell? ⟨g4, 2, none⟩ = some (.int .i64 y) ∧ w'.cell? ⟨g4, 3, none⟩ = some (.int .i64 z)) ∧
              (w'.cell? ⟨g5, 0, none⟩ = some (.int .i64 f') ∧ w'.cell? ⟨g5, 1, none⟩ = some (.int .i64 x') ∧ w'.cell? ⟨g5, 2, none⟩ = some (.int .i64 y') ∧ w'.cell? ⟨g5, 3, none⟩ = some (.int .i64 z'))) ∧
              ((w'.cell? ⟨g8, 0, none⟩ = some (.int .i64 p0) ∧ w'.cell? ⟨g8, 1, none⟩ = some (.int .i64 p1) ∧ w'.cell? ⟨g8, 2, none⟩ = some (.int .i64 p2) ∧ w'.cell? ⟨g8, 3, none⟩ = some (.int .i64 p3)) ∧
              (w'.cell? ⟨g10, 0, none⟩ = some (.int .i64 p0) ∧ w'.cell? ⟨g10, 1, none⟩ = some (.int .i64 r1) ∧ w'.cell? ⟨g10, 2, none⟩ = some (.int .i64 r2) ∧ w'.cell? ⟨g10, 3, none⟩ = some (.int .i64 r3))))
              (first | go_keep | exact CE.out _ hb2)
              (first | (go_at_call 22; refine (SN.out _ _ hb2).mono ?_; clear hb2; rintro e w8 ⟨rfl, hb2⟩) | (go_at_call 28; refine (awake_from (w0 := wr.drew) _ (hE.under BE.out).drew hb2).mono ?_; clear hb2; rintro e w9 ⟨rfl, hb2⟩))
            go_wp2_with fail
            go_ret
            exact ⟨rfl, BE.out.trans ((undrew hb2).mono BE.out.size)⟩
          · go_region_held3 (fun w' => ((w'.cell? ⟨g4, 0, none⟩ = some (.int .i64 f) ∧ w'.cell? ⟨g4, 1, none⟩ = some (.int .i64 x) ∧ w'.cell? ⟨g4, 2, none⟩ = some (.int .i64 y) ∧ w'.cell? ⟨g4, 3, none⟩ = some (.int .i64 z)) ∧
              (w'.cell? ⟨g5, 0, none⟩ = some (.int .i64 f') ∧ w'.cell? ⟨g5, 1, none⟩ = some (.int .i64 x') ∧ w'.cell? ⟨g5, 2, none⟩ = some (.int .i64 y') ∧ w'.cell? ⟨g5, 3, none⟩ = some (.int .i64 z'))) ∧
              ((w'.cell? ⟨g8, 0, none⟩ = some (.int .i64 p0) ∧ w'.cell? ⟨g8, 1, none⟩ = some (.int .i64 p1) ∧ w'.cell? ⟨g8, 2, none⟩ = some (.int .i64 p2) ∧ w'.cell? ⟨g8, 3, none⟩ = some (.int .i64 p3)) ∧
              (w'.cell? ⟨g10, 0, none⟩ = some (.int .i64 p0) ∧ w'.cell? ⟨g10, 1, none⟩ = some (.int .i64 p1) ∧ w'.cell? ⟨g10, 2, none⟩ = some (.int .i64 r2) ∧ w'.cell? ⟨g10, 3, none⟩ = some (.int .i64 r3))))
              (first | go_keep | exact CE.out _ hb2)
              (first | (go_at_call 22; refine (SN.out _ _ hb2).mono ?_; clear hb2; rintro e w8 ⟨rfl, hb2⟩) | (go_at_call 28; refine (awake_from (w0 := wr.drew) _ (hE.under BE.out).drew hb2).mono ?_; clear hb2; rintro e w9 ⟨rfl, hb2⟩))
            go_wp2_with fail
            go_ret
            exact ⟨rfl, BE.out.trans ((undrew hb2).mono BE.out.size)⟩
          · go_region_held3 (fun w' => ((w'.cell? ⟨g4, 0, none⟩ = some (.int .i64 f) ∧ w'.cell? ⟨g4, 1, none⟩ = some (.int .i64 x) ∧ w'.cell? ⟨g4, 2, none⟩ = some (.int .i64 y) ∧ w'.cell? ⟨g4, 3, none⟩ = some (.int .i64 z)) ∧
              (w'.cell? ⟨g5, 0, none⟩ = some (.int .i64 f') ∧ w'.cell? ⟨g5, 1, none⟩ = some (.int .i64 x') ∧ w'.cell? ⟨g5, 2, none⟩ = some (.int .i64 y') ∧ w'.cell? ⟨g5, 3, none⟩ = some (.int .i64 z'))) ∧
              ((w'.cell? ⟨g8, 0, none⟩ = some (.int .i64 p0) ∧ w'.cell? ⟨g8, 1, none⟩ = some (.int .i64 p1) ∧ w'.cell? ⟨g8, 2, none⟩ = some (.int .i64 p2) ∧ w'.cell? ⟨g8, 3, none⟩ = some (.int .i64 p3)) ∧
              (w'.cell? ⟨g10, 0, none⟩ = some (.int .i64 p0) ∧ w'.cell? ⟨g10, 1, none⟩ = some (.int .i64 p1) ∧ w'.cell? ⟨g10, 2, none⟩ = some (.int .i64 p2) ∧ w'.cell? ⟨g10, 3, none⟩ = some (.int .i64 r3))))
              (first | go_keep | exact CE.out _ hb2)
              (first | (go_at_call 22; refine (SN.out _ _ hb2).mono ?_; clear hb2; rintro e w8 ⟨rfl, hb2⟩) | (go_at_call 28; refine (awake_from (w0 := wr.drew) _ (hE.under BE.out).drew hb2).mono ?_; clear hb2; rintro e w9 ⟨rfl, hb2⟩))
            go_wp2_with fail
            go_ret
            exact ⟨rfl, BE.out.trans ((undrew hb2).mono BE.out.size)⟩
          · go_region_held3 (fun w' => ((w'.cell? ⟨g4, 0, none⟩ = some (.int .i64 f) ∧ w'.cell? ⟨g4, 1, none⟩ = some (.int .i64 x) ∧ w'.cell? ⟨g4, 2, none⟩ = some (.int .i64 y) ∧ w'.cell? ⟨g4, 3, none⟩ = some (.int .i64 z)) ∧
              (w'.cell? ⟨g5, 0, none⟩ = some (.int .i64 f') ∧ w'.cell? ⟨g5, 1, none⟩ = some (.int .i64 x') ∧ w'.cell? ⟨g5, 2, none⟩ = some (.int .i64 y') ∧ w'.cell? ⟨g5, 3, none⟩ = some (.int .i64 z'))) ∧
              ((w'.cell? ⟨g8, 0, none⟩ = some (.int .i64 p0) ∧ w'.cell? ⟨g8, 1, none⟩ = some (.int .i64 p1) ∧ w'.cell? ⟨g8, 2, none⟩ = some (.int .i64 p2) ∧ w'.cell? ⟨g8, 3, none⟩ = some (.int .i64 p3)) ∧
              (w'.cell? ⟨g10, 0, none⟩ = some (.int .i64 p0) ∧ w'.cell? ⟨g10, 1, none⟩ = some (.int .i64 p1) ∧ w'.cell? ⟨g10, 2, none⟩ = some (.int .i64 p2) ∧ w'.cell? ⟨g10, 3, none⟩ = some (.int .i64 p3))))
              (first | go_keep | exact CE.out _ hb2)
              (first | (go_at_call 22; refine (SN.out _ _ hb2).mono ?_; clear hb2; rintro e w8 ⟨rfl, hb2⟩) | (go_at_call 28; refine (awake_from (w0 := wr.drew) _ (hE.under BE.out).drew hb2).mono ?_; clear hb2; rintro e w9 ⟨rfl, hb2⟩))
            go_wp2_with fail
            go_ret
            exact ⟨rfl, BE.out.trans ((undrew hb2).mono BE.out.size)⟩
end Go.Proofs.YteccblhmpggcgaaDoor
