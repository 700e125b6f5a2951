/- Facts that the laws share: what is known of drawn reports, chains without an error. -/
import Derived.Test.YtejoabaanclcbaaGreatTkRp
import Derived.Test.YtejoabaanclcbaaGreatTkAw
namespace Go.Proofs.YtejoabaanclcbaaGreat.Tk
open Go.RowKit

/-- The reader and a drawn list. -/
structure Lw (w : World) (R : List Rq) (u : Value) (Y : World) : Prop where
  src : Src w w.heap.size Y
  own : ∃ base, w.heap.size + 1 ≤ base ∧ Y.ownsRow base 35 8 u R.length (rqc R)
section
variable {w Y Y' : World} {R : List Rq} {u : Value}
theorem Lw.under (h : Lw w R u Y) (hb : Below Y.heap.size Y Y') : Lw w R u Y' := by
  obtain ⟨base, h1, h2⟩ := h.own
  exact ⟨h.src.under hb, base, h1, own_under h2 hb⟩
theorem Lw.step (h : Lw w R u Y) (hs : Src w w.heap.size Y') (hg : Y.grownBy Y' (some w.heap.size)) : Lw w R u Y' := by
  obtain ⟨base, h1, h2⟩ := h.own
  exact ⟨hs, base, h1, own_keep h2 fun i hi => hg.block i (own_lt h2 hi).2 (fun e => by injection e with e; have := (own_lt h2 hi).1; omega)⟩
theorem Lw.rq (h : Lw w R u Y) : RqIn Y u R := by
  obtain ⟨base, h1, h2⟩ := h.own
  exact RqIn.own h2
theorem Lw.form (h : Lw w R u Y) : (u = .slice none R.length 0 ∧ R.length = 0) ∨ ∃ g cap, u = .slice (some ⟨g, 0, none⟩) R.length cap := by
  obtain ⟨base, h1, h2⟩ := h.own
  rcases h2.2 with ⟨e, h0⟩ | ⟨g, cap, cur, e, -⟩
  · exact .inl ⟨by rw [e, h0], h0⟩
  · exact .inr ⟨g, cap, e⟩
theorem Lw.at {g cap : Nat} (h : Lw w R (.slice (some ⟨g, 0, none⟩) R.length cap) Y) (i : Nat) (hi : i < R.length) : At8 Y g (i * 8) R[i] := by
  obtain ⟨A0, c0, e0, -, -, h8⟩ := id h.rq
  injection e0 with e0 e1 e2
  subst e0
  obtain ⟨g', off', e', hg, h8b⟩ := h8 i hi
  injection e' with e'
  injection e' with e' e''
  subst e' e''
  rw [Nat.zero_add] at h8b
  exact h8b
theorem Lw.start {w1 : World} {n : Nat} {one : Bool} {e : Ending} (hs : Src w w.heap.size w1) (h : RpO w w.heap.size w1 n one e Y) : ∃ (R : List Rq) (u : Value) (m : Int), (RF one R m ∧ m ≤ 14000000 + 400 * R.length) ∧ R.length ≤ n ∧ e = .returned u ∧ Lw w R u Y ∧ w1.grownBy Y (some w.heap.size) := by
  obtain ⟨R, u, m, h1, h2, h3, ⟨h4, h5⟩, base, h6, h7⟩ := h
  exact ⟨R, u, m, h1, h2, h3, ⟨h4, base, by have := src_at hs; omega, h7⟩, h5⟩
end
theorem il_step {W Y Y' : World} {b : Nat} {v : Value} {l : List Nat} (h : IlIn Y v l) (hs : Src W b Y) (hg : Y.grownBy Y' (some b)) : IlIn Y' v l :=
  h.keep fun i hi => hg.block i (own_lt h hi).2 (fun e => by
    injection e with e
    subst e
    obtain ⟨cur, hc⟩ := il_row h hi
    obtain ⟨A, n, cp, k, h1, h2, h3, h4⟩ := hs.row
    rw [hc] at h3
    injection h3 with h3
    injection h3 with _ h3 _
    exact absurd h3 (by decide))
theorem rf_ok {R : List Rq} {m : Int} {p : Int → Bool} (h : RF true R m) (hm : m ≤ 52595999) : oks p R := fun r hr _ => by
  obtain ⟨h1, h2, h3, h4⟩ := h.2 r hr
  unfold okr
  rw [(h4 rfl).2.2, Bool.true_and]
  unfold tOk
  rw [decide_eq_true_iff]
  omega
theorem rf_asc {R : List Rq} {m : Int} {one : Bool} (h : RF one R m) : ascR R := fun i hi => List.pairwise_iff_getElem.1 h.1 i (i + 1) (by omega) hi (by omega)
theorem ctag_ok {h : Int} {R : List Rq} {l : List Nat} {c : Int} (ht : CTag h R l c) (h1 : R.length ≤ 30) (h2 : 0 ≤ h ∧ h ≤ 1000) (h3 : oks (fun _ => true) R) (h4 : ascR R) : c = 0 ∧ Best R.length (pR h R) l := by
  rcases ht with ⟨a, -⟩ | ⟨-, b, -⟩ | ⟨-, -, d, -⟩ | ⟨-, -, -, e, f⟩
  · omega
  · exact absurd ⟨h2, h3⟩ b
  · exact absurd h4 d
  · exact ⟨f, e⟩
theorem pls_mono {h d : Int} {x y : Sg} (hd : 0 ≤ d) (hp : pls h x y = true) : pls (h + d) x y = true := by
  unfold pls at hp ⊢
  rw [decide_eq_true_iff] at hp ⊢
  refine ⟨hp.1, ?_⟩
  have h1 : 0 ≤ d * (y.t - x.t) := Int.mul_nonneg hd (by omega)
  have h2 : (h + d) * (y.t - x.t) = h * (y.t - x.t) + d * (y.t - x.t) := Int.add_mul ..
  omega
theorem pR_mono {h d : Int} {R : List Rq} {i j : Nat} (hd : 0 ≤ d) (hi : i < R.length) (hj : j < R.length) (hp : pR h R i j = true) : pR (h + d) R i j = true := by
  rw [pR_at hi hj] at hp ⊢
  exact pls_mono hd hp
theorem refHops8_any (a b : Nat) (w : World) (ha : a < 642) (hb : b < 642) : Calls Tryz.prog 26 #[.int .i64 8, .int .i64 a, .int .i64 b] w fun e w' => e = .returned (.tuple #[.int .i64 (hp a b : Nat), .int .i64 0]) ∧ Below w.heap.size w w' :=
  (refHops_of around_any 8 a b (hp a) w frq8 ha hb (hp_far ha) (fun x hx => by have := hp_le ha hx; omega)).mono fun e w' ⟨h1, h2⟩ => ⟨h1, h2⟩
theorem refNode_any (F A B C : Int) (w : World) (hv : vb F A B C = true) : Calls Tryz.prog 25 #[.int .i64 8, .agg #[.int .i64 F, .int .i64 A, .int .i64 B, .int .i64 C]] w fun e w' => e = .returned (.tuple #[.int .i64 (nod F A B C : Nat), .int .i64 0]) ∧ Below w.heap.size w w' :=
  (refNearest8_any F A B C w).mono fun e w' ⟨h1, h2⟩ => ⟨h1.elim (fun h => h.2) (fun h => by rw [hv] at h; cases h.1), h2⟩
theorem okr_vb {r : Rq} (h : okr r = true) : vb r.F r.A r.B r.C = true := by
  unfold okr at h
  simp only [Bool.and_eq_true] at h
  exact h.1
/-- The node of a report. -/
noncomputable def rn (r : Rq) : Nat := nod r.F r.A r.B r.C
theorem pR_near {h : Int} {R : List Rq} {i : Nat} (hh : 0 ≤ h) (hi : i + 1 < R.length) (ha : ascR R) (hp1 : hp (rn R[i]) (rn R[i + 1]) ≤ 1) : pR h R i (i + 1) = true := by
  rw [pR_at (by omega) hi]
  unfold pls
  rw [decide_eq_true_iff]
  have ht := ha i hi
  refine ⟨ht, ?_⟩
  have h1 : 0 ≤ h * (R[i + 1].t - R[i].t) := Int.mul_nonneg hh (by omega)
  show 1440 * (hp (rn R[i]) (rn R[i + 1]) : Int) ≤ h * (R[i + 1].t - R[i].t) + 1440
  omega
end Go.Proofs.YtejoabaanclcbaaGreat.Tk

