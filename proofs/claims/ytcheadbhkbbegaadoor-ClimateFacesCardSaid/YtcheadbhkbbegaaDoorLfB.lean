/- ClimateFaces: the three climates; an append of a list that may be nil, in a drawn region. -/
import Derived.Test.YtcheadbhkbbegaaDoorLfA
namespace Go.Proofs.YtcheadbhkbbegaaDoor
open Go.RowKit Go.Maps

theorem step_append_opt {P : Program} {ops : Array Oper} {o : Oper} {a : Act} {w : World} {K : Act → World → Prop} {Q : Exit → Act → World → Prop} {E : Prop} (hgd : o.guard = none) (s x : Operand) (t : TypeId)
    (ho : o.op = .call { callee := .builtin .append, args := #[s, x], argTypes := #[t, t] })
    (base : Nat) (e : TypeId) (i : TypeInfo) (z : Value) (size bytes : Nat) (ht : P.underlying t = some (.slice e)) (hi : P.info? e = some i) (hz : i.zero = some z)
    (hsize : i.size = size) (hby : i.bytes = bytes) (hzs : z.cells.size = size) (hsz : 0 < size)
    (v : Value) (n : Nat) (xs : List Value) (hs : a.eval s = v) (hown : w.ownsRow base e size v n xs)
    (A : Option Addr) (m c : Nat) (news : List Value) (hx : a.eval x = .slice A m c) (hl : news.length = m * size) (hnone : A = none → m = 0)
    (hnews : ∀ ad, A = some ad → ∀ (j : Nat) u, news[j]? = some u → w.cell? (ad.add j) = some u) (h1 : ∀ u ∈ news, u.oneCell' = true)
    (h63 : n + m ≤ maxLen) (hbytes : (n + m) * bytes ≤ 140737488355328) (hbase : base ≤ w.heap.size)
    (h : ∀ v' w', w'.ownsRow base e size v' (n + m) (xs ++ news) → w.grownBy w' v.ownBlock → K (a.put o.dst v') w') :
    if Region.wanted o (yielded ops a.tmps) = true then Oper.wp P o a w K Q else E := by
  have hw : Region.wanted o (yielded ops a.tmps) = true := by simp [Region.wanted, hgd]
  rw [if_pos hw]
  cases A with
  | none =>
    obtain rfl := hnone rfl
    obtain rfl : news = [] := List.eq_nil_of_length_eq_zero (by rw [hl, Nat.zero_mul])
    have hv : ∃ P' cap, v = .slice P' n cap ∧ n ≤ cap := by
      rcases hown.2 with ⟨q, h0⟩ | ⟨g, cap', cur, q, hb, hg, hc, hm, hs, hx⟩
      · exact ⟨none, 0, by rw [q, h0], by omega⟩
      · exact ⟨_, _, q, hc⟩
    obtain ⟨P', cap, rfl, hle⟩ := hv
    have hr := run_append_nothing (P := P) w t t o.type e i ht hi P' n cap hle (.slice none 0 c) (Go.Src.ofNil w ht c)
    unfold Oper.wp execOp
    simp only [ho, resolve, invoke, builtin, Sem.run_bind, Sem.run_pure, Result.andThen_ok, List.map_toArray, List.map_cons, List.map_nil, hs, hx, hr]
    exact h _ _ (by rw [List.append_nil]; exact hown) (grown_refl _ _)
  | some ad =>
    obtain ⟨v', w', hr, h2, h3, -⟩ := run_append_own (P := P) w base t o.type e i z size bytes ht hi hz hsize hby hzs hsz v n xs hown ad m c news hl (hnews ad rfl) h1 h63 hbytes hbase
    unfold Oper.wp execOp
    simp only [ho, resolve, invoke, builtin, Sem.run_bind, Sem.run_pure, Result.andThen_ok, List.map_toArray, List.map_cons, List.map_nil, hs, hx, hr]
    exact h v' w' h2 h3
/-- The three climates in their boxes. -/
structure Lg (W : World) (N1 : List Cm.N5) (A1 : Option Addr) (d1 ga : Nat) (N2 : List Cm.N5) (A2 : Option Addr) (d2 gb : Nat) (N3 : List Cm.N5) (A3 : Option Addr) (d3 gc : Nat) (Y : World) : Prop where
  below : Below W.heap.size W Y
  i1 : NrIn Y (.slice A1 N1.length d1) N1
  r1 : Row Y ga 24 #[.slice A1 N1.length d1]
  i2 : NrIn Y (.slice A2 N2.length d2) N2
  r2 : Row Y gb 24 #[.slice A2 N2.length d2]
  i3 : NrIn Y (.slice A3 N3.length d3) N3
  r3 : Row Y gc 24 #[.slice A3 N3.length d3]
theorem Lg.under {W Y Y' : World} {N1 N2 N3 : List Cm.N5} {A1 A2 A3 : Option Addr} {d1 d2 d3 ga gb gc : Nat} (h : Lg W N1 A1 d1 ga N2 A2 d2 gb N3 A3 d3 gc Y) (hb : Below Y.heap.size Y Y') : Lg W N1 A1 d1 ga N2 A2 d2 gb N3 A3 d3 gc Y' :=
  ⟨h.below.trans (hb.mono h.below.size), h.i1.under hb, h.r1.under hb, h.i2.under hb, h.r2.under hb, h.i3.under hb, h.r3.under hb⟩
/-- How two normals compare, field by field. -/
theorem five_cases (n0 n1 n2 n3 n4 m0 m1 m2 m3 m4 : Int) : (m0 = n0 ∧ m1 = n1 ∧ m2 = n2 ∧ m3 = n3 ∧ m4 = n4) ∨ (¬ m0 = n0) ∨ (m0 = n0 ∧ ¬ m1 = n1) ∨ (m0 = n0 ∧ m1 = n1 ∧ ¬ m2 = n2) ∨ (m0 = n0 ∧ m1 = n1 ∧ m2 = n2 ∧ ¬ m3 = n3) ∨ (m0 = n0 ∧ m1 = n1 ∧ m2 = n2 ∧ m3 = n3 ∧ ¬ m4 = n4) := by
  by_cases h0 : m0 = n0 <;> by_cases h1 : m1 = n1 <;> by_cases h2 : m2 = n2 <;> by_cases h3 : m3 = n3 <;> by_cases h4 : m4 = n4 <;> simp [h0, h1, h2, h3, h4]
theorem nrc_app2 (N M : List Cm.N5) : nrc (N ++ M) = nrc N ++ nrc M := by unfold nrc; rw [List.flatMap_append]
theorem in_take {n : Cm.N5} {L : List Cm.N5} {j : Nat} (hj : j < L.length) : n ∈ L.take (j + 1) ↔ n ∈ L.take j ∨ n = L[j] := by
  rw [List.take_add_one, List.getElem?_eq_getElem hj, List.mem_append]
  simp
end Go.Proofs.YtcheadbhkbbegaaDoor
