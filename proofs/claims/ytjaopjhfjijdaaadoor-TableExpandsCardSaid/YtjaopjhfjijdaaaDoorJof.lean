/- What the laws hold between their steps. Lists of numbers appended to, in drawn regions and outside; a code and a list of codes. Lists of codes one after the other and replications, in plain numbers; appending lists of entries and of numbers in the walk. -/
import Derived.Test.YtjaopjhfjijdaaaDoorDt
import Derived.Test.YtjaopjhfjijdaaaDoorTf
import Derived.Test.YtjaopjhfjijdaaaDoorAw
import Derived.Test.YtjaopjhfjijdaaaDoorEw
namespace Go.Proofs.YtjaopjhfjijdaaaDoor
open Go.RowKit

theorem src_ne {W Y : World} {b g : Nat} {t : TypeId} {cs : Array Value} (h : Src W b Y) (hr : Row Y g t cs) (ht : t ≠ 60) : g ≠ b := by
  obtain ⟨_, _, _, _, _, _, h3, _⟩ := h.row
  intro q
  subst q
  unfold Row at hr
  rw [hr] at h3
  injection h3 with h3
  injection h3 with _ h3
  exact ht h3
theorem Row.keep {W Y Y' : World} {b g : Nat} {t : TypeId} {cs : Array Value} (hr : Row Y g t cs) (h : Src W b Y) (hg : Y.grownBy Y' (some b)) (ht : t ≠ 60) : Row Y' g t cs :=
  hr.grown hg (fun q => by injection q with q; exact src_ne h hr ht q)
theorem EnIn.cells {Y : World} {ge off n cap : Nat} {es : List En} (h : EnIn Y (.slice (some ⟨ge, off, none⟩) n cap) es) : ∀ i (h : i < es.length), At5 Y ge (off + i * 5) es[i] := fun i hi => by
  obtain ⟨A, c, e, -, -, h4⟩ := h
  injection e with e
  obtain ⟨g, o, e2, -, h5, -⟩ := h4 i hi
  rw [← e] at e2
  injection e2 with e2
  injection e2 with e2 e3
  subst e2; subst e3
  exact h5
theorem EnIn.at {Y : World} {A : Option Addr} {n cap : Nat} {es : List En} (h : EnIn Y (.slice A n cap) es) (hp : 0 < es.length) : ∃ ge off, A = some ⟨ge, off, none⟩ ∧ n = es.length ∧ n ≤ cap ∧ ge < Y.heap.size := by
  obtain ⟨A', c, e, h2, -, h4⟩ := h
  injection e with e1 e2 e3
  subst e1; subst e2; subst e3
  obtain ⟨g, o, e2, hl, -⟩ := h4 0 hp
  exact ⟨g, o, e2, rfl, h2, hl⟩
theorem agg3 {a b c a' b' c' : Value} (h : Value.agg #[a, b, c] = .agg #[a', b', c']) : a = a' ∧ b = b' ∧ c = c' := by
  injection h with h
  have h1 := congrArg Array.toList h
  injection h1 with h1 h2
  injection h2 with h2 h3
  injection h3 with h3 _
  exact ⟨h1, h2, h3⟩
theorem TbO.cells {b base : Nat} {Y : World} {ver : Int} {es : List En} {ss : List Sq} {ge off n cap : Nat} {u : Value} (h : TbO b base Y (.agg #[.int .i64 ver, .slice (some ⟨ge, off, none⟩) n cap, u]) ver es ss) : ∀ i (h : i < es.length), At5 Y ge (off + i * 5) es[i] := by
  obtain ⟨a, c, e, hE, -⟩ := h.tb
  obtain ⟨-, e1, -⟩ := agg3 e
  subst e1
  exact hE.cells
/-- The table's cells, ready to be read. -/
theorem TbO.parts {b base : Nat} {Y : World} {t : Value} {ver : Int} {es : List En} {ss : List Sq} (h : TbO b base Y t ver es ss) : ∃ A cap B cbp, t = .agg #[.int .i64 ver, .slice A es.length cap, .slice B ss.length cbp] ∧ EnIn Y (.slice A es.length cap) es ∧ SqIn Y (.slice B ss.length cbp) ss := by
  obtain ⟨v, u, rfl, hE, hS⟩ := h.tb
  obtain ⟨A, cap, rfl, -⟩ := id hE
  obtain ⟨B, cbp, rfl, -⟩ := id hS
  exact ⟨A, cap, B, cbp, rfl, hE, hS⟩
/-- An entry is stored into a block of one's own. -/
theorem put5 {W Y : World} {b g : Nat} {z0 z1 z2 z3 z4 u0 u1 u2 u3 u4 : Value} (hs : Src W b Y) (hr : Row Y g 47 #[z0, z1, z2, z3, z4]) (hg : W.heap.size ≤ g) :
    Src W b (((((Y.setCell ⟨g, 0, none⟩ u0).setCell ⟨g, 1, none⟩ u1).setCell ⟨g, 2, none⟩ u2).setCell ⟨g, 3, none⟩ u3).setCell ⟨g, 4, none⟩ u4) ∧ Row (((((Y.setCell ⟨g, 0, none⟩ u0).setCell ⟨g, 1, none⟩ u1).setCell ⟨g, 2, none⟩ u2).setCell ⟨g, 3, none⟩ u3).setCell ⟨g, 4, none⟩ u4) g 47 #[u0, u1, u2, u3, u4] := by
  have hb := src_ne hs hr (by decide)
  refine ⟨src_put (src_put (src_put (src_put (src_put hs hg hb) hg hb) hg hb) hg hb) hg hb, ?_⟩
  have h0 : Row (Y.setCell ⟨g, 0, none⟩ u0) g 47 #[u0, z1, z2, z3, z4] := hr.put 0 _
  have h1 : Row ((Y.setCell ⟨g, 0, none⟩ u0).setCell ⟨g, 1, none⟩ u1) g 47 #[u0, u1, z2, z3, z4] := h0.put 1 _
  have h2 : Row (((Y.setCell ⟨g, 0, none⟩ u0).setCell ⟨g, 1, none⟩ u1).setCell ⟨g, 2, none⟩ u2) g 47 #[u0, u1, u2, z3, z4] := h1.put 2 _
  have h3 : Row ((((Y.setCell ⟨g, 0, none⟩ u0).setCell ⟨g, 1, none⟩ u1).setCell ⟨g, 2, none⟩ u2).setCell ⟨g, 3, none⟩ u3) g 47 #[u0, u1, u2, u3, z4] := h2.put 3 _
  exact h3.put 4 _
theorem u_in {k : Nat} (h : k ≤ 24) : IntKind.u64.wrap (k : Int) = (k : Int) := by
  have : ∀ k : Fin 25, IntKind.u64.wrap ((k : Nat) : Int) = ((k : Nat) : Int) := by decide +kernel
  exact this ⟨k, by omega⟩
theorem sh_min {k : Nat} (h : k ≤ 24) : min (IntKind.u64.wrap (k : Int)).toNat 64 = k := by
  have : ∀ k : Fin 25, min (IntKind.u64.wrap ((k : Nat) : Int)).toNat 64 = k := by decide +kernel
  exact this ⟨k, by omega⟩
end Go.Proofs.YtjaopjhfjijdaaaDoor
namespace Go.Proofs.YtjaopjhfjijdaaaDoor
open Go.RowKit

theorem NmIn.news {w : World} {ad : Addr} {m c : Nat} {D : List Int} (h : NmIn w (.slice (some ad) m c) D) : m = D.length ∧ (∀ (j : Nat) u, (D.map (Value.int .i64))[j]? = some u → w.cell? (ad.add j) = some u) := by
  obtain ⟨A, cap, e, h2, h3, h4⟩ := h
  injection e with e1 e2 e3
  subst e1; subst e2; subst e3
  refine ⟨rfl, fun j u hj => ?_⟩
  have hl : j < D.length := by have := (List.getElem?_eq_some_iff.1 hj).1; simpa using this
  obtain ⟨g, off, e, -, hc, -⟩ := h4 j hl
  injection e with e
  subst e
  rw [Addr.add_lit, hc]
  simpa [hl] using hj
theorem NmIn.null {w : World} {A : Option Addr} {m c : Nat} {D : List Int} (h : NmIn w (.slice A m c) D) : m = D.length ∧ (A = none → D = []) := by
  obtain ⟨A', cap, e, h2, h3, h4⟩ := h
  injection e with e1 e2 e3
  subst e1; subst e2; subst e3
  refine ⟨rfl, fun q => ?_⟩
  cases D with
  | nil => rfl
  | cons d D =>
    obtain ⟨g, off, e, -⟩ := h4 0 (by simp)
    rw [q] at e; cases e
/-- A LIST OF NUMBERS, NONE OR MORE, APPENDED TO AN OWNED ROW: ONE STEP OF A DRAWN REGION. -/
theorem step_append_ints {ops : Array Oper} {o : Oper} {a : Act} {w : World} {K : Act → World → Prop} {Q : Exit → Act → World → Prop} {E : Prop} (hgd : o.guard = none) (s x : Operand)
    (ho : o.op = .call { callee := .builtin .append, args := #[s, x], argTypes := #[26, 26] }) (base : Nat) (v : Value) (n : Nat) (xs : List Value) (hs : a.eval s = v) (hown : w.ownsRow base 3 1 v n xs)
    (A : Option Addr) (m c : Nat) (D : List Int) (hx : a.eval x = .slice A m c) (hD : NmIn w (.slice A m c) D) (h63 : n + m ≤ 1000) (hbase : base ≤ w.heap.size)
    (h : ∀ v' w', w'.ownsRow base 3 1 v' (n + m) (xs ++ D.map (Value.int .i64)) → w.grownBy w' v.ownBlock → K (a.put o.dst v') w') :
    if Region.wanted o (yielded ops a.tmps) = true then Oper.wp Tryd.prog o a w K Q else E := by
  obtain ⟨i0, hi, hz0, hz1, hz2⟩ := info_parts infoInt
  obtain ⟨hm, hn⟩ := hD.null
  cases A with
  | some ad => exact step_append_own hgd s x 26 ho base 3 i0 _ 1 8 Tryd.underlying26 hi hz0 hz1 hz2 rfl (by decide) v n xs hs hown ad m c (D.map (Value.int .i64)) hx (by rw [List.length_map, hm, Nat.mul_one]) hD.news.2 (ints_one _) (by unfold maxLen; omega) (by omega) hbase h
  | none =>
    obtain rfl := hn rfl
    obtain rfl : m = 0 := hm
    have hw : Region.wanted o (yielded ops a.tmps) = true := by simp [Region.wanted, hgd]
    rw [if_pos hw]
    have hk : ∃ B cp, v = .slice B n cp ∧ n ≤ cp := by
      rcases hown.2 with ⟨rfl, h0⟩ | ⟨g, cap, cur, rfl, _, _, hle, _⟩
      · exact ⟨none, 0, by rw [h0], by omega⟩
      · exact ⟨_, cap, rfl, hle⟩
    obtain ⟨B, cp, ev, hle⟩ := hk
    have hr := run_append_nothing (P := Tryd.prog) w 26 26 o.type 3 i0 Tryd.underlying26 hi B n cp hle (.slice none 0 c) (Go.Src.ofNil w Tryd.underlying26 c)
    unfold Oper.wp execOp
    rw [← ev] at hr
    simp only [ho, resolve, invoke, builtin, Sem.run_bind, Sem.run_pure, Result.andThen_ok, List.map_toArray, List.map_cons, List.map_nil, hs, hx, hr]
    exact h v w (by rw [List.map_nil, List.append_nil, Nat.add_zero]; exact hown) (grown_refl _ _)
end Go.Proofs.YtjaopjhfjijdaaaDoor
namespace Go.Proofs.YtjaopjhfjijdaaaDoor
open Go.RowKit

theorem ans_run' {v : Int} {es : List En} {ss : List Sq} {C : List Int} {x : Int} {L : List En} (h : Ans v es ss C x L) (hg : tbl v es ss = 0) (hl : C.length ≤ 20) :
    (x ≠ 0 ∧ Ev es ss (.run C) 0 0 [] (.er x) ∧ L = []) ∨ (x = 0 ∧ ∃ tk, Ev es ss (.run C) 0 0 [] (.ok tk L)) := by
  rcases h with ⟨a, -, -⟩ | ⟨-, b, -⟩ | ⟨-, -, c⟩
  · exact absurd hg a
  · omega
  · exact c
theorem join_yes {es : List En} {ss : List Sq} {A B : List Int} {y : Int} {L M N : List En} (hg : tbl 1 es ss = 0) (ha : A.length ≤ 4) (hb : B.length ≤ 4)
    (h1 : Ans 1 es ss A 0 L) (h2 : Ans 1 es ss B y M) (h3 : Ans 1 es ss (A ++ B) 0 N) : y = 0 ∧ N = L ++ M := by
  rcases ans_run' h1 hg (by omega) with ⟨q, -⟩ | ⟨-, tk, e1⟩
  case inl => exact absurd rfl q
  rcases ans_run' h3 hg (by rw [List.length_append]; omega) with ⟨q, -⟩ | ⟨-, tk3, e3⟩
  case inl => exact absurd rfl q
  have e4 := e1.behind _ _ _ _ _ rfl rfl e3
  obtain ⟨d, e, -, he, hd⟩ := e4.less _ _ rfl
  have e5 := hd 0 0 [] (Nat.le_refl _) (Nat.zero_le _) (by simp)
  obtain ⟨q1, q2⟩ := h2.one (.inr (.inr ⟨hg, by omega, .inr ⟨rfl, _, e5⟩⟩))
  exact ⟨q1, by rw [he, q2, List.nil_append]⟩
theorem rep_no {es : List En} {ss : List Sq} {C : List Int} {n : Nat} {x y : Int} {L M : List En} (hg : tbl 1 es ss = 0) (h0 : 1 ≤ C.length) (hl : C.length ≤ 3) (n1 : 1 ≤ n) (n3 : n ≤ 3)
    (h1 : Ans 1 es ss ((20000 + 100 * (C.length : Int) + (n : Int)) :: C) x L) (h2 : Ans 1 es ss C y M) (hy : y ≠ 0) : x ≠ 0 := by
  intro hx
  subst hx
  obtain ⟨k1, k2, k3⟩ := rep_code (x := C.length) (y := n) h0 (by omega) n1 (by omega)
  rcases ans_run' h1 hg (by simp only [List.length_cons]; omega) with ⟨q, -⟩ | ⟨-, tk, e1⟩
  case inl => exact absurd rfl q
  cases e1 with
  | rep _ _ _ _ _ tk1 l1 _ _ _ _ e1 e2 =>
    rw [k2, k3, List.take_of_length_le (Nat.le_refl _)] at e1
    obtain ⟨t, rfl⟩ : ∃ t, n = t + 1 := ⟨n - 1, by omega⟩
    obtain ⟨d, e, h⟩ := e1.first
    obtain ⟨q, -⟩ := h2.one (.inr (.inr ⟨hg, by omega, .inr ⟨rfl, _, h⟩⟩))
    exact hy q
  | _ => omega
theorem many_len (c : List Int) : ∀ t, (many c t).length = t * c.length
  | 0 => by simp [many]
  | t + 1 => by rw [many, List.length_append, many_len c t, Nat.succ_mul]; omega
theorem many_snoc (c : List Int) : ∀ t, many c t ++ c = many c (t + 1)
  | 0 => by simp [many]
  | t + 1 => by rw [many, List.append_assoc, many_snoc c t]; rfl
theorem rep_yes {es : List En} {ss : List Sq} {C : List Int} {n : Nat} {x y : Int} {L M N : List En} (hg : tbl 1 es ss = 0) (h0 : 1 ≤ C.length) (hl : C.length ≤ 3) (n1 : 1 ≤ n) (n3 : n ≤ 3)
    (h1 : Ans 1 es ss ((20000 + 100 * (C.length : Int) + (n : Int)) :: C) x L) (h2 : Ans 1 es ss C 0 M) (h3 : Ans 1 es ss (many C n) y N) (hx : x ≠ 2) (hy : y ≠ 2) : x = y ∧ L = N := by
  obtain ⟨k1, k2, k3⟩ := rep_code (x := C.length) (y := n) h0 (by omega) n1 (by omega)
  rcases ans_run' h2 hg (by omega) with ⟨q, -⟩ | ⟨-, d, e0⟩
  case inl => exact absurd rfl q
  have hln : (many C n).length ≤ 20 := by
    rw [many_len]
    have : n * C.length ≤ 3 * 3 := Nat.mul_le_mul n3 hl
    omega
  have hN : y = 0 ∧ N = manyE M n := by
    rcases ans_run' h3 hg hln with ⟨-, e, -⟩ | ⟨q, tk, e⟩
    · rcases Ev.manys e0 n _ _ _ _ e with q | q
      · injection q with q; exact absurd q hy
      · cases q
    · rcases Ev.manys e0 n _ _ _ _ e with z | z
      · cases z
      · injection z with _ z
        exact ⟨q, by simpa using z⟩
  have hL : x = 0 ∧ L = manyE M n := by
    rcases ans_run' h1 hg (by simp only [List.length_cons]; omega) with ⟨-, e1, -⟩ | ⟨q, tk, e1⟩
    · cases e1 with
      | repE _ _ _ _ _ _ _ _ _ e1 =>
        rw [k2, k3, List.take_of_length_le (Nat.le_refl _)] at e1
        rcases Ev.reps e0 n _ _ _ _ e1 with q | q
        · injection q with q; exact absurd q hx
        · cases q
      | rep _ _ _ _ _ tk1 l1 _ _ _ _ e1 e2 =>
        rw [k2, List.drop_of_length_le (Nat.le_refl _)] at e2
        cases e2
      | _ => omega
    · cases e1 with
      | rep _ _ _ _ _ tk1 l1 _ _ _ _ e1 e2 =>
        rw [k2, List.drop_of_length_le (Nat.le_refl _)] at e2
        cases e2
        rw [k2, k3, List.take_of_length_le (Nat.le_refl _)] at e1
        rcases Ev.reps e0 n _ _ _ _ e1 with z | z
        · cases z
        · injection z with _ z
          exact ⟨q, by simpa using z⟩
      | _ => omega
  exact ⟨hL.1.trans hN.1.symm, hL.2.trans hN.2.symm⟩
theorem rowE_one (L : List En) : ∀ u ∈ rowE L, u.oneCell' = true := fun u hu => by
  unfold rowE at hu
  obtain ⟨e, -, hu⟩ := List.mem_flatMap.1 hu
  exact encE_one e u hu
theorem EnIn.news {w : World} {ad : Addr} {m c : Nat} {D : List En} (h : EnIn w (.slice (some ad) m c) D) : m = D.length ∧ (∀ (j : Nat) u, (rowE D)[j]? = some u → w.cell? (ad.add j) = some u) := by
  obtain ⟨A, cap, e, h2, h3, h4⟩ := h
  injection e with e1 e2 e3
  subst e1; subst e2; subst e3
  refine ⟨rfl, fun j u hj => ?_⟩
  have hl : j < D.length * 5 := by have := (List.getElem?_eq_some_iff.1 hj).1; rwa [rowE_len] at this
  obtain ⟨i, r, hi, hr, rfl⟩ : ∃ i r, i < D.length ∧ r < 5 ∧ j = i * 5 + r := ⟨j / 5, j % 5, by omega, by omega, by omega⟩
  obtain ⟨g, off, e, -, ⟨c0, c1, c2, c3, c4⟩, -⟩ := h4 i hi
  injection e with e
  subst e
  obtain ⟨r0, r1, r2, r3, r4⟩ := rowE_at D i hi
  rw [Addr.add_lit, ← Nat.add_assoc]
  rcases (by omega : r = 0 ∨ r = 1 ∨ r = 2 ∨ r = 3 ∨ r = 4) with rfl | rfl | rfl | rfl | rfl
  · rw [Nat.add_zero] at hj ⊢; rw [c0, ← hj, r0]
  · rw [c1, ← hj, r1]
  · rw [c2, ← hj, r2]
  · rw [c3, ← hj, r3]
  · rw [c4, ← hj, r4]
theorem EnIn.null {w : World} {A : Option Addr} {m c : Nat} {D : List En} (h : EnIn w (.slice A m c) D) : m = D.length ∧ (A = none → D = []) := by
  obtain ⟨A', cap, e, h2, h3, h4⟩ := h
  injection e with e1 e2 e3
  subst e1; subst e2; subst e3
  refine ⟨rfl, fun q => ?_⟩
  cases D with
  | nil => rfl
  | cons d D =>
    obtain ⟨g, off, e, -⟩ := h4 0 (by simp)
    rw [q] at e; cases e
/-- A LIST OF ENTRIES, NONE OR MORE, APPENDED TO AN OWNED ROW, FOR THE WALK; THE OPERATION MAY BE GUARDED. -/
theorem wpList_append_ents {ops : Array Oper} {rest : List Oper} {o : Oper} {a : Act} {w : World} {Q : Exit → Act → World → Prop} (hw : Region.wanted o (yielded ops a.tmps) = true) (s x : Operand)
    (ho : o.op = .call { callee := .builtin .append, args := #[s, x], argTypes := #[22, 22] }) (base : Nat) (v : Value) (n : Nat) (xs : List Value) (hs : a.eval s = v) (hown : w.ownsRow base 47 5 v n xs)
    (A : Option Addr) (m c : Nat) (D : List En) (hx : a.eval x = .slice A m c) (hD : EnIn w (.slice A m c) D) (h63 : n + m ≤ 1000) (hbase : base ≤ w.heap.size)
    (h : ∀ v' w', w'.ownsRow base 47 5 v' (n + m) (xs ++ rowE D) → w.grownBy w' v.ownBlock → wpList Tryd.prog ops Q rest (a.put o.dst v') w') : wpList Tryd.prog ops Q (o :: rest) a w := by
  obtain ⟨i0, hi, hz0, hz1, hz2⟩ := info_parts infoEntry
  obtain ⟨hm, hn⟩ := hD.null
  simp only [wpList, hw, if_true]
  left
  cases A with
  | some ad =>
    obtain ⟨v', w', hr, h2, h3, -⟩ := run_append_own (P := Tryd.prog) w base 22 o.type 47 i0 _ 5 40 Tryd.underlying22 hi hz0 hz1 hz2 rfl (by decide) v n xs hown ad m c (rowE D) (by rw [rowE_len, hm]) hD.news.2 (rowE_one D) (by unfold maxLen; omega) (by omega) hbase
    unfold Oper.wp execOp
    simp only [ho, resolve, invoke, builtin, Sem.run_bind, Sem.run_pure, Result.andThen_ok, List.map_toArray, List.map_cons, List.map_nil, hs, hx, hr]
    exact h v' w' h2 h3
  | none =>
    obtain rfl := hn rfl
    obtain rfl : m = 0 := hm
    have hk : ∃ B cp, v = .slice B n cp ∧ n ≤ cp := by
      rcases hown.2 with ⟨rfl, h0⟩ | ⟨g, cap, cur, rfl, _, _, hle, _⟩
      · exact ⟨none, 0, by rw [h0], by omega⟩
      · exact ⟨_, cap, rfl, hle⟩
    obtain ⟨B, cp, ev, hle⟩ := hk
    have hr := run_append_nothing (P := Tryd.prog) w 22 22 o.type 47 i0 Tryd.underlying22 hi B n cp hle (.slice none 0 c) (Go.Src.ofNil w Tryd.underlying22 c)
    unfold Oper.wp execOp
    rw [← ev] at hr
    simp only [ho, resolve, invoke, builtin, Sem.run_bind, Sem.run_pure, Result.andThen_ok, List.map_toArray, List.map_cons, List.map_nil, hs, hx, hr]
    exact h v w (by simpa [rowE] using hown) (grown_refl _ _)
/-- The like for numbers. -/
theorem wpList_append_ints {ops : Array Oper} {rest : List Oper} {o : Oper} {a : Act} {w : World} {Q : Exit → Act → World → Prop} (hw : Region.wanted o (yielded ops a.tmps) = true) (s x : Operand)
    (ho : o.op = .call { callee := .builtin .append, args := #[s, x], argTypes := #[26, 26] }) (base : Nat) (v : Value) (n : Nat) (xs : List Value) (hs : a.eval s = v) (hown : w.ownsRow base 3 1 v n xs)
    (A : Option Addr) (m c : Nat) (D : List Int) (hx : a.eval x = .slice A m c) (hD : NmIn w (.slice A m c) D) (h63 : n + m ≤ 1000) (hbase : base ≤ w.heap.size)
    (h : ∀ v' w', w'.ownsRow base 3 1 v' (n + m) (xs ++ D.map (Value.int .i64)) → w.grownBy w' v.ownBlock → wpList Tryd.prog ops Q rest (a.put o.dst v') w') : wpList Tryd.prog ops Q (o :: rest) a w := by
  obtain ⟨i0, hi, hz0, hz1, hz2⟩ := info_parts infoInt
  obtain ⟨hm, hn⟩ := hD.null
  simp only [wpList, hw, if_true]
  left
  cases A with
  | some ad =>
    obtain ⟨v', w', hr, h2, h3, -⟩ := run_append_own (P := Tryd.prog) w base 26 o.type 3 i0 _ 1 8 Tryd.underlying26 hi hz0 hz1 hz2 rfl (by decide) v n xs hown ad m c (D.map (Value.int .i64)) (by rw [List.length_map, hm, Nat.mul_one]) hD.news.2 (ints_one _) (by unfold maxLen; omega) (by omega) hbase
    unfold Oper.wp execOp
    simp only [ho, resolve, invoke, builtin, Sem.run_bind, Sem.run_pure, Result.andThen_ok, List.map_toArray, List.map_cons, List.map_nil, hs, hx, hr]
    exact h v' w' h2 h3
  | none =>
    obtain rfl := hn rfl
    obtain rfl : m = 0 := hm
    have hk : ∃ B cp, v = .slice B n cp ∧ n ≤ cp := by
      rcases hown.2 with ⟨rfl, h0⟩ | ⟨g, cap, cur, rfl, _, _, hle, _⟩
      · exact ⟨none, 0, by rw [h0], by omega⟩
      · exact ⟨_, cap, rfl, hle⟩
    obtain ⟨B, cp, ev, hle⟩ := hk
    have hr := run_append_nothing (P := Tryd.prog) w 26 26 o.type 3 i0 Tryd.underlying26 hi B n cp hle (.slice none 0 c) (Go.Src.ofNil w Tryd.underlying26 c)
    unfold Oper.wp execOp
    rw [← ev] at hr
    simp only [ho, resolve, invoke, builtin, Sem.run_bind, Sem.run_pure, Result.andThen_ok, List.map_toArray, List.map_cons, List.map_nil, hs, hx, hr]
    exact h v w (by simpa using hown) (grown_refl _ _)
end Go.Proofs.YtjaopjhfjijdaaaDoor
