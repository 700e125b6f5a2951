/- Lists of numbers appended to, in drawn regions and outside; a code and a list of codes. -/
import Derived.Test.YtjaopjhfjijdaaaDoorLw
import Derived.Test.YtjaopjhfjijdaaaDoorEw
namespace Go.Proofs.YtjaopjhfjijdaaaDoor
open Go.RowKit

theorem NmIn.news {w : World} {ad : Addr} {m c : Nat} {D : List Int} (h : NmIn w (.slice (some ad) m c) D) : m = D.length ∧ (∀ (j : Nat) u, (D.map (Value.int .i64))[j]? = some u → w.cell? (ad.add j) = some u) := by
  obtain ⟨A, cap, e, h2, h3, h4⟩ := h
  injection e with e1 e2 e3
  subst e1; subst e2; subst e3
  refine ⟨rfl, fun j u hj => ?_⟩
  have hl : j < D.length := by have := (List.getElem?_eq_some_iff.1 hj).1; simpa using this
  obtain ⟨g, off, e, -, hc, -⟩ := h4 j hl
  injection e with e
  subst e
  rw [Addr.add_lit, hc]
  simpa [hl] using hj
theorem NmIn.null {w : World} {A : Option Addr} {m c : Nat} {D : List Int} (h : NmIn w (.slice A m c) D) : m = D.length ∧ (A = none → D = []) := by
  obtain ⟨A', cap, e, h2, h3, h4⟩ := h
  injection e with e1 e2 e3
  subst e1; subst e2; subst e3
  refine ⟨rfl, fun q => ?_⟩
  cases D with
  | nil => rfl
  | cons d D =>
    obtain ⟨g, off, e, -⟩ := h4 0 (by simp)
    rw [q] at e; cases e
/-- A LIST OF NUMBERS, NONE OR MORE, APPENDED TO AN OWNED ROW: ONE STEP OF A DRAWN REGION. -/
theorem step_append_ints {ops : Array Oper} {o : Oper} {a : Act} {w : World} {K : Act → World → Prop} {Q : Exit → Act → World → Prop} {E : Prop} (hgd : o.guard = none) (s x : Operand)
    (ho : o.op = .call { callee := .builtin .append, args := #[s, x], argTypes := #[26, 26] }) (base : Nat) (v : Value) (n : Nat) (xs : List Value) (hs : a.eval s = v) (hown : w.ownsRow base 3 1 v n xs)
    (A : Option Addr) (m c : Nat) (D : List Int) (hx : a.eval x = .slice A m c) (hD : NmIn w (.slice A m c) D) (h63 : n + m ≤ 1000) (hbase : base ≤ w.heap.size)
    (h : ∀ v' w', w'.ownsRow base 3 1 v' (n + m) (xs ++ D.map (Value.int .i64)) → w.grownBy w' v.ownBlock → K (a.put o.dst v') w') :
    if Region.wanted o (yielded ops a.tmps) = true then Oper.wp Tryd.prog o a w K Q else E := by
  obtain ⟨i0, hi, hz0, hz1, hz2⟩ := info_parts infoInt
  obtain ⟨hm, hn⟩ := hD.null
  cases A with
  | some ad => exact step_append_own hgd s x 26 ho base 3 i0 _ 1 8 Tryd.underlying26 hi hz0 hz1 hz2 rfl (by decide) v n xs hs hown ad m c (D.map (Value.int .i64)) hx (by rw [List.length_map, hm, Nat.mul_one]) hD.news.2 (ints_one _) (by unfold maxLen; omega) (by omega) hbase h
  | none =>
    obtain rfl := hn rfl
    obtain rfl : m = 0 := hm
    have hw : Region.wanted o (yielded ops a.tmps) = true := by simp [Region.wanted, hgd]
    rw [if_pos hw]
    have hk : ∃ B cp, v = .slice B n cp ∧ n ≤ cp := by
      rcases hown.2 with ⟨rfl, h0⟩ | ⟨g, cap, cur, rfl, _, _, hle, _⟩
      · exact ⟨none, 0, by rw [h0], by omega⟩
      · exact ⟨_, cap, rfl, hle⟩
    obtain ⟨B, cp, ev, hle⟩ := hk
    have hr := run_append_nothing (P := Tryd.prog) w 26 26 o.type 3 i0 Tryd.underlying26 hi B n cp hle (.slice none 0 c) (Go.Src.ofNil w Tryd.underlying26 c)
    unfold Oper.wp execOp
    rw [← ev] at hr
    simp only [ho, resolve, invoke, builtin, Sem.run_bind, Sem.run_pure, Result.andThen_ok, List.map_toArray, List.map_cons, List.map_nil, hs, hx, hr]
    exact h v w (by rw [List.map_nil, List.append_nil, Nat.add_zero]; exact hown) (grown_refl _ _)
end Go.Proofs.YtjaopjhfjijdaaaDoor
