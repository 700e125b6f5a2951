/- The walk of GridNearest: for every list the law returns true, and what lay in memory is as it was. -/
import Derived.Test.YtehehhehilgnkaaNode
namespace Go.Proofs.Ytehehhehilgnkaa
open Go.RowKit

/-- What is known inside: the reader, the list of shares. -/
structure Ng (W : World) (b g : Nat) (L : List (Nat × Int)) (w : World) : Prop where
  src : Src W b w
  shs : Shs w g L
  lg : g < w.heap.size
theorem Ng.under {W w w' : World} {b g : Nat} {L : List (Nat × Int)} (h : Ng W b g L w) (hb : Below w.heap.size w w') : Ng W b g L w' := ⟨h.src.under hb, h.shs.under h.lg hb, Nat.lt_of_lt_of_le h.lg hb.size⟩
theorem grown_own {a c : World} {base size m : Nat} {e : TypeId} {v : Value} {xs : List Value} {r : Option Nat} (h : a.ownsRow base e size v m xs) (hg : a.grownBy c r) (hr : v.ownBlock = none ∨ v.ownBlock ≠ r) : c.ownsRow base e size v m xs := h.kept hg hr
theorem src_ne {W w : World} {b base size m g cap : Nat} {e : TypeId} {xs : List Value} (hs : Src W b w) (h : w.ownsRow base e size (.slice (some ⟨g, 0, none⟩) m cap) m xs) (he : e ≠ 65) : g ≠ b := by
  obtain ⟨A, n, cp, k, h1, h2, h3, h4⟩ := hs.row
  have := own_ne (g := b) h (show Row w b 65 _ from h3) he
  rintro rfl
  exact this rfl
set_option maxRecDepth 100000 in
set_option maxHeartbeats 8000000 in
theorem gridNearest_any (v : Value) (w : World) (hl : ListIn w v) :
    Calls Try.prog 8 #[v] w fun e w' => e = .returned (.bool true) ∧ Below w.heap.size w w' := by
  go_enter Try.func8, Try.ntmps8
  go_wp2_with fail
  refine (new_any _ _ hl).mono ?_
  rintro e w1 ⟨rfl, s1, -⟩
  go_wp2_with fail
  refine (range_any _ _ _ _ _ s1 (by omega) (by omega) (by omega) (by omega)).mono ?_
  rintro e w2 ⟨n', ⟨n1, n2⟩, rfl, s2, -⟩
  obtain ⟨n, rfl⟩ := Int.eq_ofNat_of_zero_le (show 0 ≤ n' by omega)
  have hn : Lat.frq n := ⟨by omega, by omega⟩
  go_wp2_with fail
  refine (somewhere_any _ _ _ s2).mono ?_
  rintro e w3 ⟨f, x, y, z, hv, rfl, s3, -⟩
  have HNF := near_facts hn hv rfl
  have HN := Lib.hid hn; clear hn
  have HV := Lib.hid hv; clear hv
  go_upto_region 4 with fail
  refine forget (fun Y => Src w w.heap.size Y ∧ Row Y w3.heap.size 23 #[.int .i64 f, .int .i64 x, .int .i64 y, .int .i64 z]) ⟨s3.under ((Below.refl _ _).alloc (Nat.le_refl _) _), Row.new _ _ _⟩ ?_
  clear s1 s2 s3 hl
  generalize w3.heap.size = gp at *
  generalize hb : w.heap.size = b at *
  have HB := Lib.hid hb; clear hb
  rintro Y ⟨s, rp⟩
  obtain ⟨p0, p1, p2, p3⟩ := row4 rp
  go_wp2_with fail
  refine (nearest_yes n f x y z _ HN.out HV.out).mono ?_
  rintro e w4 ⟨rfl, hb4⟩
  have s4 := s.under hb4
  have r4 := rp.under hb4
  clear s rp hb4 p0 p1 p2 p3
  obtain ⟨p0, p1, p2, p3⟩ := row4 r4
  go_wp2_with fail
  refine (locate_yes n f x y z _ HN.out HV.out).mono ?_
  rintro e w5 ⟨u, rfl, g, cap, rfl, c1, c2, hb5, -, lg, hS⟩
  have NG := Lib.hid (Ng.mk (L := Lat.loc n f x y z) (g := g) (s4.under hb5) hS lg)
  clear s4 r4 hb5 hS lg p0 p1 p2 p3
  obtain ⟨L, hL⟩ : ∃ L, Lat.loc n f x y z = L := ⟨_, rfl⟩
  rw [hL] at c1 NG HNF ⊢
  have HL := Lib.hid hL; clear hL
  have HNF := Lib.hid HNF
  go_upto_region 9 with fail
  refine forget (fun Y => Ng w b g L Y) NG.out ?_
  clear NG
  rintro Z N
  have NG := Lib.hid N; clear N
  go_wp2_with fail
  go_loopw [10, 11, 47] (fun o m t wr => ∃ k : Nat, k ≤ L.length ∧ t = .int .i64 k ∧ o = .int .i64 (ownTo L (best L).1 k) ∧ m = .int .i64 (mostTo L k) ∧ Ng w b g L wr) (fun _ _ t _ => L.length - (intOf t).toNat)
  case atStart => exact ⟨0, by omega, rfl, rfl, rfl, NG.out⟩
  case round =>
    clear NG
    obtain ⟨k, hk, rfl, rfl, rfl, N⟩ := hrel
    by_cases hlt : k < L.length
    · have k0 : (0 : Int) ≤ (k : Int) := by omega
      have k1 : (k : Int) < (L.length : Int) := by omega
      obtain ⟨q0, q1⟩ := N.shs k hlt
      have HM := Lib.hid (mostTo_succ L k hlt)
      have HO := Lib.hid (ownTo_succ L (best L).1 k hlt)
      have HX := Lib.hid (HNF.out.2.2.2.2.1 L[k] (List.getElem_mem _))
      generalize hx : L[k] = x0 at *
      clear hx
      generalize hb1 : (best L).1 = bn at *
      have HBN := Lib.hid hb1; clear hb1
      generalize ho : ownTo L bn k = ov at *
      clear ho
      generalize hm : mostTo L k = mv at *
      clear hm
      have NG := Lib.hid N; clear N
      go_upto_region 12 with fail
      refine forget (fun V => Ng w b g L V ∧ Row V wr.heap.size 55 #[.int .i64 (x0.1 : Int), .int .i64 x0.2]) ⟨NG.out.under ((Below.refl _ _).alloc (Nat.le_refl _) _), Row.new _ _ _⟩ ?_
      clear NG q0 q1
      generalize wr.heap.size = gx at *
      rintro V ⟨N, rx⟩
      obtain ⟨q0, q1⟩ : V.cell? ⟨gx, 0, none⟩ = some (.int .i64 (x0.1 : Int)) ∧ V.cell? ⟨gx, 1, none⟩ = some (.int .i64 x0.2) := ⟨(rx.cell 0).trans rfl, (rx.cell 1).trans rfl⟩
      have NG := Lib.hid N; clear N rx
      by_cases hj : x0.1 = bn
      · have e1 : ((x0.1 : Int) == (bn : Int)) = true := beq_iff_eq.2 (by omega)
        have HJ := Lib.hid hj; clear hj
        go_wp2_with fail
        go_roundw
        case rel => exact ⟨k + 1, by omega, by go_num, by rw [HO.out, if_pos HJ.out], by rw [HM.out], NG.out⟩
        case measure => simp [intOf]; omega
      · have e1 : ((x0.1 : Int) == (bn : Int)) = false := beq_eq_false_iff_ne.2 (by omega)
        have HJ := Lib.hid hj; clear hj
        go_wp2_with fail
        go_roundw
        case rel => exact ⟨k + 1, by omega, by go_num, by rw [HO.out, if_neg HJ.out], by rw [HM.out], NG.out⟩
        case measure => simp [intOf]; omega
    · have hke : k = L.length := by omega
      have k1 : ¬ ((k : Int) < (L.length : Int)) := by omega
      have e1 : mostTo L k = (best L).2 := by rw [hke]; exact HNF.out.1
      have e2 : ownTo L (best L).1 k = (best L).2 := by rw [hke]; exact HNF.out.2.1
      rw [e1, e2]
      clear e1 e2 hke
      have w0 := HNF.out.2.2.1
      have HF4 := Lib.hid HNF.out.2.2.2.1
      clear HNF
      generalize (best L).2 = wb at *
      generalize (best L).1 = bn at *
      have NG := Lib.hid N; clear N
      go_upto_region 16 with fail
      clear k1 hk
      go_wp2_with fail
      go_loopw [64] (fun t wr => ∃ k : Nat, k ≤ L.length ∧ t = .int .i64 k ∧ Ng w b g L wr) (fun t _ => L.length - (intOf t).toNat)
      case atStart => exact ⟨0, by omega, rfl, NG.out⟩
      case round =>
        clear NG
        obtain ⟨j, hj, rfl, N⟩ := hrel
        by_cases hlt2 : j < L.length
        · have k0 : (0 : Int) ≤ (j : Int) := by omega
          have k1 : (j : Int) < (L.length : Int) := by omega
          obtain ⟨q0, q1⟩ := N.shs j hlt2
          have HX := Lib.hid (HF4.out L[j] (List.getElem_mem _))
          generalize hx : L[j] = x0 at *
          clear hx
          have NG := Lib.hid N; clear N
          go_upto_region 19 with fail
          refine forget (fun V => Ng w b g L V ∧ Row V «wr».heap.size 55 #[.int .i64 (x0.1 : Int), .int .i64 x0.2]) ⟨NG.out.under ((Below.refl _ _).alloc (Nat.le_refl _) _), Row.new _ _ _⟩ ?_
          clear NG q0 q1
          generalize «wr».heap.size = gx at *
          rintro V ⟨N, rx⟩
          obtain ⟨q0, q1⟩ : V.cell? ⟨gx, 0, none⟩ = some (.int .i64 (x0.1 : Int)) ∧ V.cell? ⟨gx, 1, none⟩ = some (.int .i64 x0.2) := ⟨(rx.cell 0).trans rfl, (rx.cell 1).trans rfl⟩
          have NG := Lib.hid N; clear N rx
          by_cases hj2 : x0.2 = wb
          · have e1 : (x0.2 == wb) = true := beq_iff_eq.2 hj2
            have e2 : ¬ ((x0.1 : Int) < (bn : Int)) := by have := HX.out hj2; omega
            clear hj2
            go_wp2_with fail
            go_roundw
            case rel => exact ⟨j + 1, by omega, by go_num, NG.out⟩
            case measure => simp [intOf]; omega
          · have e1 : (x0.2 == wb) = false := beq_eq_false_iff_ne.2 hj2
            clear hj2
            go_wp2_with fail
            go_roundw
            case rel => exact ⟨j + 1, by omega, by go_num, NG.out⟩
            case measure => simp [intOf]; omega
        · have k1 : ¬ ((j : Int) < (L.length : Int)) := by omega
          have HS := Lib.hid N.src; clear N
          go_upto_region 22 with fail
          clear k1 hj hlt2 hlt
          go_wp2_with fail
          refine (nodes_yes n _ HN.out).mono ?_
          rintro e w6 ⟨gn, cap6, rfl, hb6, hown⟩
          have s6 := HS.out.under hb6
          have hc : 1 ≤ (cn n : Int) ∧ (cn n : Int) ≤ 642 := by have := cn_le HN.out; unfold cn at *; omega
          obtain ⟨hc1, hc2⟩ := hc
          have z1 : ((cn n : Int) == 0) = false := beq_eq_false_iff_ne.2 (by omega)
          have HO := Lib.hid hown; clear hown hb6
          go_wp2_with fail
          refine (n_any w b _ _ s6 (by omega) (by omega)).mono ?_
          rintro e w7 ⟨m', ⟨m1, m2⟩, rfl, s7, hg7⟩
          obtain ⟨m, rfl⟩ := Int.eq_ofNat_of_zero_le m1
          have hm : m < cn n := by omega
          have own7 := HO.out.kept hg7 (.inr (by have := src_ne s6 HO.out (by decide); simpa [Value.ownBlock] using this))
          obtain ⟨c0, c1', c2', c3⟩ := nd_cells HN.out own7 m hm
          have HV7 := Lib.hid (nd_vld HN.out hm)
          have HL7 := Lib.hid (nd_loc HN.out hm)
          have S7 := Lib.hid s7; clear s6 s7 hg7 own7 HO
          clear hm
          generalize (Lat.nd n m).1 = f' at *
          generalize wd n (Lat.nd n m).2.1 = x' at *
          generalize wd n (Lat.nd n m).2.2 = y' at *
          generalize wd n (n - (Lat.nd n m).2.1 - (Lat.nd n m).2.2) = z' at *
          go_wp2_with fail
          refine (nearest_yes n f' x' y' z' _ HN.out HV7.out).mono ?_
          rintro e w8 ⟨rfl, hb8⟩
          rw [HL7.out, show (best [(m, 840)]).1 = m from rfl]
          have S8 := Lib.hid (S7.out.under hb8); clear hb8
          clear c0 c1' c2' c3
          go_wp2_with fail
          refine (awake_from (w0 := w) _ S8.out.below).mono ?_
          rintro e w9 ⟨rfl, hb9⟩
          have B9 := Lib.hid hb9; clear hb9
          go_wp2_with fail
          go_ret
          exact ⟨rfl, B9.out⟩
end Go.Proofs.Ytehehhehilgnkaa
