/- The comparison of reports is a total order; a report as an argument. -/
import Derived.Test.YtneglkfcelpdgaaGreatDoorMzi
import Derived.Test.YtneglkfcelpdgaaGreatDoorMzg
namespace Go.Proofs.YtneglkfcelpdgaaGreatDoor
open Go.RowKit

/-- A report with its readings. -/
structure Rp where
  k : Int
  nm : ByteArray
  t : Int
  F : Int
  A : Int
  B : Int
  C : Int
  u : Value
  L : List El.Elt.R
abbrev Rp.v (r : Rp) : Value := repV r.k r.nm r.t r.F r.A r.B r.C r.u
def Rp.key (r : Rp) : Int × ByteArray × Int × (Int × Int × Int × Int) × List El.Elt.R := (r.k, r.nm, r.t, (r.F, r.A, r.B, r.C), r.L)
/-- The comparison. -/
def cR2 (a b : Rp) : Int := cRep a.k a.nm a.t a.F a.A a.B a.C a.L b.k b.nm b.t b.F b.A b.B b.C b.L
theorem key_tot : Cmpr.Tot (Cmpr.lex Cmpr.num (Cmpr.lex ctx (Cmpr.lex Cmpr.num (Cmpr.lex (Cmpr.lex Cmpr.num (Cmpr.lex Cmpr.num (Cmpr.lex Cmpr.num Cmpr.num))) cRs)))) :=
  Cmpr.lex_tot Cmpr.num_tot (Cmpr.lex_tot ctx_tot (Cmpr.lex_tot Cmpr.num_tot (Cmpr.lex_tot (Cmpr.lex_tot Cmpr.num_tot (Cmpr.lex_tot Cmpr.num_tot (Cmpr.lex_tot Cmpr.num_tot Cmpr.num_tot))) cRs_tot)))
theorem cR2_key (a b : Rp) : cR2 a b = Cmpr.lex Cmpr.num (Cmpr.lex ctx (Cmpr.lex Cmpr.num (Cmpr.lex (Cmpr.lex Cmpr.num (Cmpr.lex Cmpr.num (Cmpr.lex Cmpr.num Cmpr.num))) cRs))) a.key b.key := by
  unfold cR2 cRep Cmpr.lex Rp.key
  simp only [orL, or_zero]
theorem cR2_rng (a b : Rp) : cR2 a b = -1 ∨ cR2 a b = 0 ∨ cR2 a b = 1 := by rw [cR2_key]; exact key_tot.rng _ _
theorem cR2_anti (a b : Rp) : cR2 b a = - cR2 a b := by rw [cR2_key, cR2_key]; exact key_tot.anti _ _
theorem cR2_le {a b c : Rp} (h1 : cR2 a b ≤ 0) (h2 : cR2 b c ≤ 0) : cR2 a c ≤ 0 := by rw [cR2_key] at *; exact key_tot.le h1 h2
theorem cR2_zero (a b : Rp) : decide (Eqr a.k a.nm a.t a.F a.A a.B a.C a.L b.k b.nm b.t b.F b.A b.B b.C b.L) = (cR2 a b == 0) := by
  rw [cR2_key, Bool.eq_iff_iff, decide_eq_true_iff, beq_iff_eq, key_tot.zero]
  unfold Eqr Rp.key
  simp only [Prod.mk.injEq]
theorem compare_is (a b : Rp) (w0 w : World) (ha : El.RdIn w0 a.u a.L) (hb : El.RdIn w0 b.u b.L) (h : Below w0.heap.size w0 w) :
    Calls Tryz.prog 19 #[a.v, b.v] w fun e w' => e = .returned (.int .i64 (cR2 a b)) ∧ Below w.heap.size w w' := compare_any a.k a.nm a.t a.F a.A a.B a.C a.u a.L b.k b.nm b.t b.F b.A b.B b.C b.u b.L w (ha.under h) (hb.under h)
theorem same_is (a b : Rp) (w0 w : World) (ha : El.RdIn w0 a.u a.L) (hb : El.RdIn w0 b.u b.L) (h : Below w0.heap.size w0 w) :
    Calls Tryz.prog 17 #[a.v, b.v] w fun e w' => e = .returned (.bool (cR2 a b == 0)) ∧ Below w.heap.size w w' := by
  have := same_any a.k a.nm a.t a.F a.A a.B a.C a.u a.L b.k b.nm b.t b.F b.A b.B b.C b.u b.L w (ha.under h) (hb.under h)
  rw [cR2_zero] at this
  exact this
set_option maxHeartbeats 400000 in
theorem small_any (k : Int) (nm : ByteArray) (t F A B C : Int) (u : Value) (L : List El.Elt.R) (w : World) (hL : El.RdIn w u L) :
    Calls Tryz.prog 5 #[repV k nm t F A B C u] w fun e w' => e = .returned (.bool (decide (nm.size ≤ 40) && decide (L.length ≤ 40))) ∧ Below w.heap.size w w' := by
  obtain ⟨Au, cu, rfl, -⟩ := hL
  go_enter Tryz.func5, Tryz.ntmps5
  by_cases h1 : nm.size ≤ 40
  · have i1 : (nm.size : Int) ≤ 40 := by omega
    by_cases h2 : L.length ≤ 40
    · have i2 : (L.length : Int) ≤ 40 := by omega
      have H := Lib.hid (show (decide (nm.size ≤ 40) && decide (L.length ≤ 40)) = true by rw [decide_eq_true h1, decide_eq_true h2]; rfl)
      clear h1 h2
      go_wp2_with fail
      go_ret
      exact ⟨ret_bool (by rw [H.out]), (Below.refl _ _).alloc (Nat.le_refl _) _⟩
    · have i2 : ¬ (L.length : Int) ≤ 40 := by omega
      have H := Lib.hid (show (decide (nm.size ≤ 40) && decide (L.length ≤ 40)) = false by rw [decide_eq_false h2, Bool.and_false])
      clear h1 h2
      go_wp2_with fail
      go_ret
      exact ⟨ret_bool (by rw [H.out]), (Below.refl _ _).alloc (Nat.le_refl _) _⟩
  · have i1 : ¬ (nm.size : Int) ≤ 40 := by omega
    have H := Lib.hid (show (decide (nm.size ≤ 40) && decide (L.length ≤ 40)) = false by rw [decide_eq_false h1, Bool.false_and])
    clear h1
    go_wp2_with fail
    go_ret
    exact ⟨ret_bool (by rw [H.out]), (Below.refl _ _).alloc (Nat.le_refl _) _⟩
end Go.Proofs.YtneglkfcelpdgaaGreatDoor
