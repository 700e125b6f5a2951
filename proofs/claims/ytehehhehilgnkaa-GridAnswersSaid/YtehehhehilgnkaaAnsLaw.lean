/- The walk of GridAnswers: for every number, place and list the law returns true, and what lay in memory is as it was. -/
import Derived.Test.YtehehhehilgnkaaUni
import Derived.Test.YtehehhehilgnkaaNode
namespace Go.Proofs.Ytehehhehilgnkaa
open Go.RowKit

/-- What is known inside: the two places, the two frequencies. -/
structure Ga (W : World) (gp gx gk : Nat) (n m : Int) (P X : Array Value) (w : World) : Prop where
  below : Below W.heap.size W w
  rp : Row w gp 23 P
  rx : Row w gx 23 X
  rk : Row w gk 3 #[.int .i64 n, .int .i64 m]
theorem Ga.under {W w w' : World} {gp gx gk : Nat} {n m : Int} {P X : Array Value} (h : Ga W gp gx gk n m P X w) (hb : Below w.heap.size w w') : Ga W gp gx gk n m P X w' :=
  ⟨h.below.trans (hb.mono h.below.size), h.rp.under hb, h.rx.under hb, h.rk.under hb⟩
/-- .. and the list of the two places. -/
structure Gb (W : World) (gp gx gk gq : Nat) (n m : Int) (p0 p1 p2 p3 x0 x1 x2 x3 : Int) (w : World) : Prop where
  ga : Ga W gp gx gk n m #[.int .i64 p0, .int .i64 p1, .int .i64 p2, .int .i64 p3] #[.int .i64 x0, .int .i64 x1, .int .i64 x2, .int .i64 x3] w
  rq : Row w gq 23 #[.int .i64 p0, .int .i64 p1, .int .i64 p2, .int .i64 p3, .int .i64 x0, .int .i64 x1, .int .i64 x2, .int .i64 x3]
theorem Gb.under {W w w' : World} {gp gx gk gq : Nat} {n m p0 p1 p2 p3 x0 x1 x2 x3 : Int} (h : Gb W gp gx gk gq n m p0 p1 p2 p3 x0 x1 x2 x3 w) (hb : Below w.heap.size w w') : Gb W gp gx gk gq n m p0 p1 p2 p3 x0 x1 x2 x3 w' := ⟨h.ga.under hb, h.rq.under hb⟩
theorem Gb.cells {W w : World} {gp gx gk gq : Nat} {n m p0 p1 p2 p3 x0 x1 x2 x3 : Int} (h : Gb W gp gx gk gq n m p0 p1 p2 p3 x0 x1 x2 x3 w) {j : Nat} (hj : j < 2) :
    ∃ a b c d : Int, w.cell? ⟨gq, j * 4, none⟩ = some (.int .i64 a) ∧ w.cell? ⟨gq, j * 4 + 1, none⟩ = some (.int .i64 b) ∧ w.cell? ⟨gq, j * 4 + 2, none⟩ = some (.int .i64 c) ∧ w.cell? ⟨gq, j * 4 + 3, none⟩ = some (.int .i64 d) := by
  rcases (by omega : j = 0 ∨ j = 1) with rfl | rfl
  · exact ⟨p0, p1, p2, p3, (h.rq.cell 0).trans rfl, (h.rq.cell 1).trans rfl, (h.rq.cell 2).trans rfl, (h.rq.cell 3).trans rfl⟩
  · exact ⟨x0, x1, x2, x3, (h.rq.cell 4).trans rfl, (h.rq.cell 5).trans rfl, (h.rq.cell 6).trans rfl, (h.rq.cell 7).trans rfl⟩
theorem Ga.freq {W w : World} {gp gx gk : Nat} {n m : Int} {P X : Array Value} (h : Ga W gp gx gk n m P X w) {i : Nat} (hi : i < 2) : ∃ k : Int, w.cell? ⟨gk, i, none⟩ = some (.int .i64 k) := by
  rcases (by omega : i = 0 ∨ i = 1) with rfl | rfl
  · exact ⟨n, (h.rk.cell 0).trans rfl⟩
  · exact ⟨m, (h.rk.cell 1).trans rfl⟩
/-- .. and the copy of the place. -/
def Gz (W : World) (gp gx gk gq gz : Nat) (n m p0 p1 p2 p3 x0 x1 x2 x3 a b c d : Int) (w : World) : Prop := Gb W gp gx gk gq n m p0 p1 p2 p3 x0 x1 x2 x3 w ∧ Row w gz 23 #[.int .i64 a, .int .i64 b, .int .i64 c, .int .i64 d]
theorem Gz.under {W w w' : World} {gp gx gk gq gz : Nat} {n m p0 p1 p2 p3 x0 x1 x2 x3 a b c d : Int} (h : Gz W gp gx gk gq gz n m p0 p1 p2 p3 x0 x1 x2 x3 a b c d w) (hb : Below w.heap.size w w') : Gz W gp gx gk gq gz n m p0 p1 p2 p3 x0 x1 x2 x3 a b c d w' := ⟨h.1.under hb, h.2.under hb⟩
set_option maxRecDepth 100000 in
set_option maxHeartbeats 8000000 in
theorem gridAnswers_any (n p0 p1 p2 p3 : Int) (v : Value) (w : World) (hl : ListIn w v) :
    Calls Try.prog 3 #[.int .i64 n, .agg #[.int .i64 p0, .int .i64 p1, .int .i64 p2, .int .i64 p3], v] w fun e w' => e = .returned (.bool true) ∧ Below w.heap.size w w' := by
  go_enter Try.func3, Try.ntmps3
  go_wp2_with fail
  have hl1 := hl.under ((Below.refl w.heap.size w).alloc (Nat.le_refl _) (.cells #[.int .i64 p0, .int .i64 p1, .int .i64 p2, .int .i64 p3] 23))
  have bW := Lib.hid ((Below.refl w.heap.size w).alloc (Nat.le_refl _) (.cells #[.int .i64 p0, .int .i64 p1, .int .i64 p2, .int .i64 p3] 23))
  have rP := Row.new w #[.int .i64 p0, .int .i64 p1, .int .i64 p2, .int .i64 p3] 23
  generalize w.alloc (.cells #[.int .i64 p0, .int .i64 p1, .int .i64 p2, .int .i64 p3] 23) = W0 at *
  refine (new_any _ _ hl1).mono ?_
  rintro e w1 ⟨rfl, s1, -⟩
  go_wp2_with fail
  refine (somewhere_any _ _ _ s1).mono ?_
  rintro e w2 ⟨f, x, y, z, hv, rfl, s2, -⟩
  clear hl hl1
  go_wp2_with fail
  have s2' := s2.under ((Below.refl w2.heap.size w2).alloc (Nat.le_refl _) (.cells #[.int .i64 f, .int .i64 x, .int .i64 y, .int .i64 z] 23))
  refine (range_any _ _ _ _ _ s2' (by omega) (by omega) (by omega) (by omega)).mono ?_
  rintro e w3 ⟨m, -, rfl, s3, hg3⟩
  have hlt : W0.heap.size < w2.heap.size := by
    obtain ⟨_, _, _, _, _, _, h, _⟩ := s2.row
    exact (Array.getElem?_eq_some_iff.1 h).1
  have A0 : Ga w w.heap.size w2.heap.size w3.heap.size n m #[.int .i64 p0, .int .i64 p1, .int .i64 p2, .int .i64 p3] #[.int .i64 f, .int .i64 x, .int .i64 y, .int .i64 z] (w3.alloc (.cells #[.int .i64 n, .int .i64 m] 3)) :=
    Ga.mk ((bW.out.trans (s3.below.mono bW.out.size)).alloc (by have := bW.out.size; have := s3.below.size; omega) _) ((rP.under s3.below).alloc _) (((Row.new w2 _ _).grown hg3 (by simp; omega)).alloc _) (Row.new _ _ _)
  have HA := Lib.hid A0
  clear s1 s2 s2' s3 hg3 hv A0 bW rP hlt
  go_wp2_with fail
  generalize hgp : w.heap.size = gp at *
  generalize w2.heap.size = gx at *
  generalize w3.alloc (.cells #[.int .i64 n, .int .i64 m] 3) = V0 at *
  generalize w3.heap.size = gk at *
  go_loopw [34] (fun t wr => ∃ i : Nat, i ≤ 2 ∧ t = .int .i64 i ∧ Ga w gp gx gk n m #[.int .i64 p0, .int .i64 p1, .int .i64 p2, .int .i64 p3] #[.int .i64 f, .int .i64 x, .int .i64 y, .int .i64 z] wr) (fun t _ => 2 - (intOf t).toNat)
  case atStart => exact ⟨0, by omega, rfl, HA.out⟩
  case round =>
    clear HA
    obtain ⟨i, hi, rfl, A⟩ := hrel
    have HA := Lib.hid A; clear A
    by_cases hi2 : i < 2
    · obtain ⟨k, ck⟩ := HA.out.freq hi2
      have i0 : (0 : Int) ≤ (i : Int) := by omega
      have i1 : (i : Int) < 2 := by omega
      obtain ⟨cnt, hc1, hc2⟩ := count_both k
      have HC1 := Lib.hid hc1
      have HC2 := Lib.hid hc2
      clear hc1 hc2
      obtain ⟨a0, a1, a2, a3⟩ := row4 HA.out.rp
      obtain ⟨b0, b1, b2, b3⟩ := row4 HA.out.rx
      go_wp2_with fail
      refine (HC1.out _).mono ?_
      rintro e u1 ⟨rfl, rfl⟩
      go_wp2_with fail
      refine (HC2.out _).mono ?_
      rintro e u2 ⟨rfl, rfl⟩
      go_wp2_with fail
      have G0 : Gb w gp gx gk wr.heap.size n m p0 p1 p2 p3 f x y z (wr.alloc (.cells #[.int .i64 p0, .int .i64 p1, .int .i64 p2, .int .i64 p3, .int .i64 f, .int .i64 x, .int .i64 y, .int .i64 z] 23)) :=
        Gb.mk (HA.out.under ((Below.refl _ _).alloc (Nat.le_refl _) _)) (Row.new _ _ _)
      have HG := Lib.hid G0
      clear G0 HA a0 a1 a2 a3 b0 b1 b2 b3 ck HC1 HC2
      generalize wr.alloc (.cells #[.int .i64 p0, .int .i64 p1, .int .i64 p2, .int .i64 p3, .int .i64 f, .int .i64 x, .int .i64 y, .int .i64 z] 23) = V1 at *
      generalize wr.heap.size = gq at *
      go_loopw [47] (fun t w' => ∃ j : Nat, j ≤ 2 ∧ t = .int .i64 j ∧ Gb w gp gx gk gq n m p0 p1 p2 p3 f x y z w') (fun t _ => 2 - (intOf t).toNat)
      case atStart => exact ⟨0, by omega, rfl, HG.out⟩
      case round =>
        clear HG
        obtain ⟨j, hj, rfl, G⟩ := hrel
        have HG := Lib.hid G; clear G
        by_cases hj2 : j < 2
        · obtain ⟨qa, qb, qc, qd, q0, q1, q2, q3⟩ := HG.out.cells hj2
          have j0 : (0 : Int) ≤ (j : Int) := by omega
          have j1 : (j : Int) < 2 := by omega
          go_upto_region 11 with fail
          refine forget (Gz w gp gx gk gq «wr».heap.size n m p0 p1 p2 p3 f x y z qa qb qc qd) ⟨HG.out.under ((Below.refl _ _).alloc (Nat.le_refl _) _), Row.new _ _ _⟩ ?_
          clear q0 q1 q2 q3 HG
          generalize «wr».heap.size = gz at *
          rintro V hV
          have Q0 := Lib.hid hV; clear hV
          obtain ⟨ix, iy, h1, h2⟩ := index_both k qa qb qc qd
          obtain ⟨L, ly, h3, h4⟩ := locate_both k qa qb qc qd
          obtain ⟨nx, ny, h5, h6⟩ := nearest_both k qa qb qc qd
          have H1 := Lib.hid h1
          have H2 := Lib.hid h2
          have H3 := Lib.hid h3
          have H4 := Lib.hid h4
          have H5 := Lib.hid h5
          have H6 := Lib.hid h6
          clear h1 h2 h3 h4 h5 h6
          obtain ⟨z0, z1, z2, z3⟩ := row4 Q0.out.2
          go_wp2_with fail
          refine (H1.out _).mono ?_
          rintro e v1 ⟨rfl, hb⟩
          have Q1 := Lib.hid (Q0.out.under hb)
          clear hb z0 z1 z2 z3 Q0 H1 
          obtain ⟨z0, z1, z2, z3⟩ := row4 Q1.out.2
          go_wp2_with fail
          refine (H2.out _).mono ?_
          rintro e v2 ⟨rfl, hb⟩
          have Q2 := Lib.hid (Q1.out.under hb)
          clear hb z0 z1 z2 z3 Q1 H2 
          obtain ⟨z0, z1, z2, z3⟩ := row4 Q2.out.2
          go_wp2_with fail
          refine (H3.out _).mono ?_
          rintro e v3 ⟨c, rfl, hb, hs⟩
          have Q3 := Lib.hid (Q2.out.under hb)
          have Sc3 := Lib.hid hs
          clear hb z0 z1 z2 z3 Q2 H3  hs
          obtain ⟨z0, z1, z2, z3⟩ := row4 Q3.out.2
          go_wp2_with fail
          refine (H4.out _).mono ?_
          rintro e v4 ⟨d, rfl, hb, hs⟩
          have Q4 := Lib.hid (Q3.out.under hb)
          have Sc4 := Lib.hid (Sc3.out.under hb)
          have Sd4 := Lib.hid hs
          clear hb z0 z1 z2 z3 Q3 H4 Sc3 hs
          obtain ⟨z0, z1, z2, z3⟩ := row4 Q4.out.2
          go_wp2_with fail
          refine (H5.out _).mono ?_
          rintro e v5 ⟨rfl, hb⟩
          have Q5 := Lib.hid (Q4.out.under hb)
          have Sc5 := Lib.hid (Sc4.out.under hb)
          have Sd5 := Lib.hid (Sd4.out.under hb)
          clear hb z0 z1 z2 z3 Q4 H5 Sc4 Sd4
          obtain ⟨z0, z1, z2, z3⟩ := row4 Q5.out.2
          go_wp2_with fail
          refine (H6.out _).mono ?_
          rintro e v6 ⟨rfl, hb⟩
          have Q6 := Lib.hid (Q5.out.under hb)
          have Sc6 := Lib.hid (Sc5.out.under hb)
          have Sd6 := Lib.hid (Sd5.out.under hb)
          clear hb z0 z1 z2 z3 Q5 H6 Sc5 Sd5
          go_wp2_with fail
          refine (shareq_any c d L L _ Sc6.out Sd6.out).mono ?_
          rintro e v7 ⟨rfl, hb⟩
          have Q7 := Lib.hid (Q6.out.under hb)
          clear hb Q6 Sc6 Sd6
          rw [show decide (L = L) = true from decide_eq_true rfl]
          go_wp2_with fail
          go_roundw
          case rel => exact ⟨j + 1, by omega, by go_num, Q7.out.1⟩
          case measure => simp [intOf]; omega
        · have j1 : ¬ ((j : Int) < 2) := by omega
          go_wp2_with fail
          go_roundw
          case rel => exact ⟨i + 1, by omega, by go_num, HG.out.ga⟩
          case measure => simp [intOf]; omega
    · have i1 : ¬ ((i : Int) < 2) := by omega
      go_wp2_with fail
      refine (awake_from (w0 := w) _ HA.out.below).mono ?_
      rintro e w9 ⟨rfl, hb9⟩
      have B9 := Lib.hid hb9; clear hb9
      go_wp2_with fail
      go_ret
      exact ⟨rfl, B9.out⟩
end Go.Proofs.Ytehehhehilgnkaa
