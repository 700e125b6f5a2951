/- Texts of this proof. -/
import Derived.Test.YtejoabaanclcbaaGreatTkRp
import Derived.Test.YtejoabaanclcbaaGreatTkAw
namespace Go.Proofs.YtejoabaanclcbaaGreat.Tk
open Go.RowKit

/-- The reader and a drawn list. -/
structure Lw (w : World) (R : List Rq) (u : Value) (Y : World) : Prop where
  src : Src w w.heap.size Y
  own : ∃ base, w.heap.size + 1 ≤ base ∧ Y.ownsRow base 35 8 u R.length (rqc R)
section
variable {w Y Y' : World} {R : List Rq} {u : Value}
theorem Lw.under (h : Lw w R u Y) (hb : Below Y.heap.size Y Y') : Lw w R u Y' := by
  obtain ⟨base, h1, h2⟩ := h.own
  exact ⟨h.src.under hb, base, h1, own_under h2 hb⟩
theorem Lw.step (h : Lw w R u Y) (hs : Src w w.heap.size Y') (hg : Y.grownBy Y' (some w.heap.size)) : Lw w R u Y' := by
  obtain ⟨base, h1, h2⟩ := h.own
  exact ⟨hs, base, h1, own_keep h2 fun i hi => hg.block i (own_lt h2 hi).2 (fun e => by injection e with e; have := (own_lt h2 hi).1; omega)⟩
theorem Lw.rq (h : Lw w R u Y) : RqIn Y u R := by
  obtain ⟨base, h1, h2⟩ := h.own
  exact RqIn.own h2
theorem Lw.form (h : Lw w R u Y) : (u = .slice none R.length 0 ∧ R.length = 0) ∨ ∃ g cap, u = .slice (some ⟨g, 0, none⟩) R.length cap := by
  obtain ⟨base, h1, h2⟩ := h.own
  rcases h2.2 with ⟨e, h0⟩ | ⟨g, cap, cur, e, -⟩
  · exact .inl ⟨by rw [e, h0], h0⟩
  · exact .inr ⟨g, cap, e⟩
theorem Lw.at {g cap : Nat} (h : Lw w R (.slice (some ⟨g, 0, none⟩) R.length cap) Y) (i : Nat) (hi : i < R.length) : At8 Y g (i * 8) R[i] := by
  obtain ⟨A0, c0, e0, -, -, h8⟩ := id h.rq
  injection e0 with e0 e1 e2
  subst e0
  obtain ⟨g', off', e', hg, h8b⟩ := h8 i hi
  injection e' with e'
  injection e' with e' e''
  subst e' e''
  rw [Nat.zero_add] at h8b
  exact h8b
theorem Lw.start {w1 : World} {n : Nat} {one : Bool} {e : Ending} (hs : Src w w.heap.size w1) (h : RpO w w.heap.size w1 n one e Y) : ∃ (R : List Rq) (u : Value) (m : Int), (RF one R m ∧ m ≤ 14000000 + 400 * R.length) ∧ R.length ≤ n ∧ e = .returned u ∧ Lw w R u Y ∧ w1.grownBy Y (some w.heap.size) := by
  obtain ⟨R, u, m, h1, h2, h3, ⟨h4, h5⟩, base, h6, h7⟩ := h
  exact ⟨R, u, m, h1, h2, h3, ⟨h4, base, by have := src_at hs; omega, h7⟩, h5⟩
end
theorem il_step {W Y Y' : World} {b : Nat} {v : Value} {l : List Nat} (h : IlIn Y v l) (hs : Src W b Y) (hg : Y.grownBy Y' (some b)) : IlIn Y' v l :=
  h.keep fun i hi => hg.block i (own_lt h hi).2 (fun e => by
    injection e with e
    subst e
    obtain ⟨cur, hc⟩ := il_row h hi
    obtain ⟨A, n, cp, k, h1, h2, h3, h4⟩ := hs.row
    rw [hc] at h3
    injection h3 with h3
    injection h3 with _ h3 _
    exact absurd h3 (by decide))
theorem rf_ok {R : List Rq} {m : Int} {p : Int → Bool} (h : RF true R m) (hm : m ≤ 52595999) : oks p R := fun r hr _ => by
  obtain ⟨h1, h2, h3, h4⟩ := h.2 r hr
  unfold okr
  rw [(h4 rfl).2.2, Bool.true_and]
  unfold tOk
  rw [decide_eq_true_iff]
  omega
theorem rf_asc {R : List Rq} {m : Int} {one : Bool} (h : RF one R m) : ascR R := fun i hi => List.pairwise_iff_getElem.1 h.1 i (i + 1) (by omega) hi (by omega)
theorem ctag_ok {h : Int} {R : List Rq} {l : List Nat} {c : Int} (ht : CTag h R l c) (h1 : R.length ≤ 30) (h2 : 0 ≤ h ∧ h ≤ 1000) (h3 : oks (fun _ => true) R) (h4 : ascR R) : c = 0 ∧ Best R.length (pR h R) l := by
  rcases ht with ⟨a, -⟩ | ⟨-, b, -⟩ | ⟨-, -, d, -⟩ | ⟨-, -, -, e, f⟩
  · omega
  · exact absurd ⟨h2, h3⟩ b
  · exact absurd h4 d
  · exact ⟨f, e⟩
theorem pls_mono {h d : Int} {x y : Sg} (hd : 0 ≤ d) (hp : pls h x y = true) : pls (h + d) x y = true := by
  unfold pls at hp ⊢
  rw [decide_eq_true_iff] at hp ⊢
  refine ⟨hp.1, ?_⟩
  have h1 : 0 ≤ d * (y.t - x.t) := Int.mul_nonneg hd (by omega)
  have h2 : (h + d) * (y.t - x.t) = h * (y.t - x.t) + d * (y.t - x.t) := Int.add_mul ..
  omega
theorem pR_mono {h d : Int} {R : List Rq} {i j : Nat} (hd : 0 ≤ d) (hi : i < R.length) (hj : j < R.length) (hp : pR h R i j = true) : pR (h + d) R i j = true := by
  rw [pR_at hi hj] at hp ⊢
  exact pls_mono hd hp
theorem refHops8_any (a b : Nat) (w : World) (ha : a < 642) (hb : b < 642) : Calls Tryz.prog 26 #[.int .i64 8, .int .i64 a, .int .i64 b] w fun e w' => e = .returned (.tuple #[.int .i64 (hp a b : Nat), .int .i64 0]) ∧ Below w.heap.size w w' :=
  (refHops_of around_any 8 a b (hp a) w frq8 ha hb (hp_far ha) (fun x hx => by have := hp_le ha hx; omega)).mono fun e w' ⟨h1, h2⟩ => ⟨h1, h2⟩
theorem refNode_any (F A B C : Int) (w : World) (hv : vb F A B C = true) : Calls Tryz.prog 25 #[.int .i64 8, .agg #[.int .i64 F, .int .i64 A, .int .i64 B, .int .i64 C]] w fun e w' => e = .returned (.tuple #[.int .i64 (nod F A B C : Nat), .int .i64 0]) ∧ Below w.heap.size w w' :=
  (refNearest8_any F A B C w).mono fun e w' ⟨h1, h2⟩ => ⟨h1.elim (fun h => h.2) (fun h => by rw [hv] at h; cases h.1), h2⟩
theorem okr_vb {r : Rq} (h : okr r = true) : vb r.F r.A r.B r.C = true := by
  unfold okr at h
  simp only [Bool.and_eq_true] at h
  exact h.1
/-- The node of a report. -/
noncomputable def rn (r : Rq) : Nat := nod r.F r.A r.B r.C
theorem pR_near {h : Int} {R : List Rq} {i : Nat} (hh : 0 ≤ h) (hi : i + 1 < R.length) (ha : ascR R) (hp1 : hp (rn R[i]) (rn R[i + 1]) ≤ 1) : pR h R i (i + 1) = true := by
  rw [pR_at (by omega) hi]
  unfold pls
  rw [decide_eq_true_iff]
  have ht := ha i hi
  refine ⟨ht, ?_⟩
  have h1 : 0 ≤ h * (R[i + 1].t - R[i].t) := Int.mul_nonneg hh (by omega)
  show 1440 * (hp (rn R[i]) (rn R[i + 1]) : Int) ≤ h * (R[i + 1].t - R[i].t) + 1440
  omega
end Go.Proofs.YtejoabaanclcbaaGreat.Tk


namespace Go.Proofs.YtejoabaanclcbaaGreat.Tk
open Go.RowKit

set_option maxRecDepth 100000 in
set_option maxHeartbeats 8000000 in
theorem trackFaster_any (v : Value) (w : World) (hl : ListIn w v) :
    Calls Tryz.prog 6 #[v] w fun e w' => e = .returned (.bool true) ∧ Below w.heap.size w w' := by
  go_enter Tryz.func6, Tryz.ntmps6
  go_wp2_with fail
  refine (new_any _ _ hl).mono ?_
  rintro e w1 ⟨rfl, s1, -⟩
  go_wp2_with fail
  refine (reports_any _ _ _ 5 true s1 (by omega)).mono ?_
  intro e w2 hr
  obtain ⟨R, u, m, ⟨hRF, hm⟩, hR5, rfl, l2, -⟩ := Lw.start s1 hr
  have L2 := Lib.hid l2
  have HOK := Lib.hid (rf_ok (p := fun _ => true) hRF (by omega))
  have HAS := Lib.hid (rf_asc hRF)
  clear l2 hr s1 hl hRF hm
  go_wp2_with fail
  refine (range_any _ _ _ _ _ L2.out.src (by omega) (by omega) (by omega) (by omega)).mono ?_
  rintro e w3 ⟨k, ⟨k1, k2⟩, rfl, s3, g3⟩
  have L3 := Lib.hid (L2.out.step s3 g3)
  clear L2 s3 g3
  go_wp2_with fail
  refine (chainP_any _ R k _ L3.out.rq (by omega)).mono ?_
  rintro e w4 ⟨l1, c1, v1, ht1, rfl, hi1, b4⟩
  obtain ⟨rfl, hb1⟩ := ctag_ok ht1 (by omega) (by omega) HOK.out HAS.out
  have HB1 := Lib.hid hb1
  have I1 := Lib.hid hi1
  have L4 := Lib.hid (L3.out.under b4)
  clear L3 b4 ht1 hb1 hi1
  go_wp2_with fail
  refine (range_any _ _ _ _ _ L4.out.src (by omega) (by omega) (by omega) (by omega)).mono ?_
  rintro e w5 ⟨d, ⟨d1, d2⟩, rfl, s5, g5⟩
  have L5 := Lib.hid (L4.out.step s5 g5)
  have I15 := Lib.hid (il_step I1.out L4.out.src g5)
  clear L4 I1 s5 g5
  go_wp2_with fail
  refine (chainP_any _ R (k + d) _ L5.out.rq (by omega)).mono ?_
  rintro e w6 ⟨l2, c2, v2, ht2, rfl, hi2, b6⟩
  obtain ⟨rfl, hb2⟩ := ctag_ok ht2 (by omega) (by omega) HOK.out HAS.out
  have hle : ¬ (l2.length : Int) < (l1.length : Int) := by
    have := best_mono (fun i j hij hj hp => pR_mono d1 (by omega) hj hp) HB1.out hb2
    omega
  have hleN : ¬ l2.length < l1.length := by omega
  have hleB : decide (l2.length < l1.length) = false := decide_eq_false hleN
  have L6 := Lib.hid (L5.out.under b6)
  have I16 := Lib.hid (I15.out.under b6)
  have I26 := Lib.hid hi2
  clear L5 I15 b6 ht2 hb2 hi2
  obtain ⟨A1, cp1, rfl⟩ := il_form I16.out
  obtain ⟨A2, cp2, rfl⟩ := il_form I26.out
  rcases L6.out.form with ⟨rfl, h0⟩ | ⟨g, cr, rfl⟩
  all_goals go_upto_region 8 with fail
  all_goals clear I26
  all_goals (try simp only [hleB])
  all_goals clear hle
  all_goals go_wp2_with fail
  all_goals (try rw [hleB])
  all_goals (clear hleN hleB)
  · have H0 := Lib.hid h0
    clear h0
    go_loopw [10, 11] (fun tc ti wr => ∃ (i : Nat) (cb : Bool), 1 ≤ i ∧ (i ≤ R.length ∨ i = 1) ∧ tc = .bool cb ∧ ti = .int .i64 i ∧ (cb = true → ∀ j, ∀ hj : j + 1 < R.length, j + 1 < i → hp (rn R[j]) (rn R[j + 1]) ≤ 1) ∧ Lw w R (.slice none R.length 0) wr ∧ IlIn wr (.slice A1 l1.length cp1) l1) (fun _ t _ => R.length - (intOf t).toNat)
    case atStart => exact ⟨1, true, by omega, .inr rfl, rfl, rfl, fun _ j _ h => by omega, L6.out, I16.out⟩
    case round =>
      clear L6 I16
      obtain ⟨i, cb, hi1, hi2, rfl, rfl, hcl, hL, hI⟩ := hrel
      have HC := Lib.hid hcl; have HL := Lib.hid hL; have HI := Lib.hid hI
      clear hcl hL hI
      have hlt : ¬ i < R.length := by have := H0.out; omega
      have k0 : ¬ (i : Int) < (R.length : Int) := by omega
      cases cb
      · go_wp2_with fail
        refine (awake_any _).mono ?_
        rintro e wz ⟨rfl, bz⟩
        go_wp2_with fail
        go_ret
        exact ⟨rfl, HL.out.src.below.trans (bz.mono HL.out.src.below.size)⟩
      · have hfull := best_full (fun q hq => pR_near k1 hq HAS.out (HC.out rfl q hq (by omega))) HB1.out
        have hbe : ((l1.length : Int) == (0 : Int)) = true := by rw [beq_iff_eq]; have := H0.out; omega
        clear hfull
        go_wp2_with fail
        refine (awake_any _).mono ?_
        rintro e wz ⟨rfl, bz⟩
        go_wp2_with fail
        go_ret
        exact ⟨rfl, HL.out.src.below.trans (bz.mono HL.out.src.below.size)⟩
  · go_loopw [10, 11] (fun tc ti wr => ∃ (i : Nat) (cb : Bool), 1 ≤ i ∧ (i ≤ R.length ∨ i = 1) ∧ tc = .bool cb ∧ ti = .int .i64 i ∧ (cb = true → ∀ j, ∀ hj : j + 1 < R.length, j + 1 < i → hp (rn R[j]) (rn R[j + 1]) ≤ 1) ∧ Lw w R (.slice (some ⟨g, 0, none⟩) R.length cr) wr ∧ IlIn wr (.slice A1 l1.length cp1) l1) (fun _ t _ => R.length - (intOf t).toNat)
    case atStart => exact ⟨1, true, by omega, .inr rfl, rfl, rfl, fun _ j _ h => by omega, L6.out, I16.out⟩
    case round =>
      clear L6 I16
      obtain ⟨i, cb, hi1, hi2, rfl, rfl, hcl, hL, hI⟩ := hrel
      have HC := Lib.hid hcl; have HL := Lib.hid hL; have HI := Lib.hid hI
      clear hcl hL hI
      by_cases hlt : i < R.length
      · obtain ⟨j, rfl⟩ : ∃ j, i = j + 1 := ⟨i - 1, by omega⟩
        have k0 : ((j + 1 : Nat) : Int) < (R.length : Int) := by omega
        have k1 : (0 : Int) ≤ (j : Int) := by omega
        have k2 : (j : Int) < (R.length : Int) := by omega
        have k3 : ((j + 1 : Nat) : Int) - 1 = (j : Int) := by omega
        obtain ⟨-, -, -, pF, pA, pB, pC, -⟩ := HL.out.at j (by omega)
        have HVA := Lib.hid (okr_vb (HOK.out R[j] (List.getElem_mem _) rfl))
        have HVB := Lib.hid (okr_vb (HOK.out R[j + 1] (List.getElem_mem _) rfl))
        go_wp2_with fail
        refine (refNode_any _ _ _ _ _ HVA.out).mono ?_
        rintro e w7 ⟨rfl, b7⟩
        have L7 := Lib.hid (HL.out.under b7)
        have I7 := Lib.hid (HI.out.under b7)
        clear HL HI b7 pF pA pB pC
        obtain ⟨-, -, -, pF, pA, pB, pC, -⟩ := L7.out.at (j + 1) (by omega)
        go_wp2_with fail
        refine (refNode_any _ _ _ _ _ HVB.out).mono ?_
        rintro e w8 ⟨rfl, b8⟩
        have L8 := Lib.hid (L7.out.under b8)
        have I8 := Lib.hid (I7.out.under b8)
        clear L7 I7 b8 pF pA pB pC
        go_wp2_with fail
        refine (refHops8_any _ _ _ (nod_lt HVA.out) (nod_lt HVB.out)).mono ?_
        rintro e w9 ⟨rfl, b9⟩
        have L9 := Lib.hid (L8.out.under b9)
        have I9 := Lib.hid (I8.out.under b9)
        clear L8 I8 b9
        obtain ⟨z, hz⟩ : ∃ z, hp (rn R[j]) (rn R[j + 1]) = z := ⟨_, rfl⟩
        have HZ := Lib.hid hz
        rw [show hp (nod R[j].F R[j].A R[j].B R[j].C) (nod R[j + 1].F R[j + 1].A R[j + 1].B R[j + 1].C) = z from hz]
        clear hz
        cases cb
        · go_wp2_with fail
          go_roundw
          case rel => exact ⟨j + 1 + 1, false, by omega, .inl (by omega), rfl, by go_num, (by intro h; cases h), L9.out, I9.out⟩
          case measure => simp [intOf]; omega
        · by_cases hz1 : z ≤ 1
          · have hz2 : (z : Int) ≤ 1 := by omega
            have HC2 := Lib.hid (show ∀ q, ∀ hq : q + 1 < R.length, q + 1 < j + 1 + 1 → hp (rn R[q]) (rn R[q + 1]) ≤ 1 from fun q hq hq2 => by
              by_cases hqj : q + 1 < j + 1
              · exact HC.out rfl q hq hqj
              · obtain rfl : q = j := by omega
                rw [HZ.out]
                exact hz1)
            go_wp2_with fail
            go_roundw
            case rel => exact ⟨j + 1 + 1, true, by omega, .inl (by omega), rfl, by go_num, fun _ => HC2.out, L9.out, I9.out⟩
            case measure => simp [intOf]; omega
          · have hz2 : ¬ (z : Int) ≤ 1 := by omega
            go_wp2_with fail
            go_roundw
            case rel => exact ⟨j + 1 + 1, false, by omega, .inl (by omega), by rw [decide_eq_false (by omega)], by go_num, (by intro h; cases h), L9.out, I9.out⟩
            case measure => simp [intOf]; omega
      · have k0 : ¬ (i : Int) < (R.length : Int) := by omega
        cases cb
        · go_wp2_with fail
          refine (awake_any _).mono ?_
          rintro e wz ⟨rfl, bz⟩
          go_wp2_with fail
          go_ret
          exact ⟨rfl, HL.out.src.below.trans (bz.mono HL.out.src.below.size)⟩
        · have hfull := best_full (fun q hq => pR_near k1 hq HAS.out (HC.out rfl q hq (by omega))) HB1.out
          have hbe : ((l1.length : Int) == (R.length : Int)) = true := by rw [beq_iff_eq]; omega
          clear hfull
          go_wp2_with fail
          refine (awake_any _).mono ?_
          rintro e wz ⟨rfl, bz⟩
          go_wp2_with fail
          go_ret
          exact ⟨rfl, HL.out.src.below.trans (bz.mono HL.out.src.below.size)⟩
end Go.Proofs.YtejoabaanclcbaaGreat.Tk

