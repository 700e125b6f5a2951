/- Appending to rows of one's own; the state of an expansion under way. -/
import Derived.Test.YtjaopjhfjijdaaaDoorVa
import Derived.Deep.Upon
import Derived.ArgAppend
namespace Go.Proofs.YtjaopjhfjijdaaaDoor
open Go.RowKit

theorem genH {P : Program} {ops : Array Oper} {Q : Exit → Act → World → Prop} {md : Region.Mode} {S : World → Prop} {fuel : Nat} {listed : Array Bool} {a : Act} {w : World} (R : World → Prop) (h : R w)
    (hK : ∀ X, R X → wpAnyH P md ops Q S fuel listed a X) : wpAnyH P md ops Q S fuel listed a w := hK w h
/-- APPEND TO AN OWNED ROW, NOTHING OR MORE, AS ONE STEP OF A DRAWN REGION. -/
theorem step_append_own {P : Program} {ops : Array Oper} {o : Oper} {a : Act} {w : World} {K : Act → World → Prop} {Q : Exit → Act → World → Prop} {E : Prop} (hgd : o.guard = none) (s x : Operand) (t : TypeId)
    (ho : o.op = .call { callee := .builtin .append, args := #[s, x], argTypes := #[t, t] })
    (base : Nat) (e : TypeId) (i : TypeInfo) (z : Value) (size bytes : Nat) (ht : P.underlying t = some (.slice e)) (hi : P.info? e = some i) (hz : i.zero = some z)
    (hsize : i.size = size) (hby : i.bytes = bytes) (hzs : z.cells.size = size) (hsz : 0 < size)
    (v : Value) (n : Nat) (xs : List Value) (hs : a.eval s = v) (hown : w.ownsRow base e size v n xs)
    (ad : Addr) (m c : Nat) (news : List Value) (hx : a.eval x = .slice (some ad) m c) (hl : news.length = m * size) (hnews : ∀ j u, news[j]? = some u → w.cell? (ad.add j) = some u) (h1 : ∀ u ∈ news, u.oneCell' = true)
    (h63 : n + m ≤ maxLen) (hbytes : (n + m) * bytes ≤ 140737488355328) (hbase : base ≤ w.heap.size)
    (h : ∀ v' w', w'.ownsRow base e size v' (n + m) (xs ++ news) → w.grownBy w' v.ownBlock → K (a.put o.dst v') w') :
    if Region.wanted o (yielded ops a.tmps) = true then Oper.wp P o a w K Q else E := by
  have hw : Region.wanted o (yielded ops a.tmps) = true := by simp [Region.wanted, hgd]
  rw [if_pos hw]
  obtain ⟨v', w', hr, h2, h3, -⟩ := run_append_own (P := P) w base t o.type e i z size bytes ht hi hz hsize hby hzs hsz v n xs hown ad m c news hl hnews h1 h63 hbytes hbase
  unfold Oper.wp execOp
  simp only [ho, resolve, invoke, builtin, Sem.run_bind, Sem.run_pure, Result.andThen_ok, List.map_toArray, List.map_cons, List.map_nil, hs, hx, hr]
  exact h v' w' h2 h3
/-- APPEND TO AN OWNED ROW, NOTHING OR MORE, FOR THE WALK. -/
theorem wpList_append_own' {P : Program} {ops : Array Oper} {rest : List Oper} {o : Oper} {a : Act} {w : World} {Q : Exit → Act → World → Prop} (hgd : o.guard = none) (s x : Operand) (t : TypeId)
    (ho : o.op = .call { callee := .builtin .append, args := #[s, x], argTypes := #[t, t] })
    (base : Nat) (e : TypeId) (i : TypeInfo) (z : Value) (size bytes : Nat) (ht : P.underlying t = some (.slice e)) (hi : P.info? e = some i) (hz : i.zero = some z)
    (hsize : i.size = size) (hby : i.bytes = bytes) (hzs : z.cells.size = size) (hsz : 0 < size)
    (v : Value) (n : Nat) (xs : List Value) (hs : a.eval s = v) (hown : w.ownsRow base e size v n xs)
    (ad : Addr) (m c : Nat) (news : List Value) (hx : a.eval x = .slice (some ad) m c) (hl : news.length = m * size) (hnews : ∀ j u, news[j]? = some u → w.cell? (ad.add j) = some u) (h1 : ∀ u ∈ news, u.oneCell' = true)
    (h63 : n + m ≤ maxLen) (hbytes : (n + m) * bytes ≤ 140737488355328) (hbase : base ≤ w.heap.size)
    (h : ∀ v' w', w'.ownsRow base e size v' (n + m) (xs ++ news) → w.grownBy w' v.ownBlock → wpList P ops Q rest (a.put o.dst v') w') : wpList P ops Q (o :: rest) a w := by
  refine wpList_plain hgd fun _ hK => ?_
  obtain ⟨v', w', hr, h2, h3, -⟩ := run_append_own (P := P) w base t o.type e i z size bytes ht hi hz hsize hby hzs hsz v n xs hown ad m c news hl hnews h1 h63 hbytes hbase
  unfold Oper.wp execOp
  simp only [ho, resolve, invoke, builtin, Sem.run_bind, Sem.run_pure, Result.andThen_ok, List.map_toArray, List.map_cons, List.map_nil, hs, hx, hr]
  exact hK _ _ (h v' w' h2 h3)
/-- APPEND TO A NEW LIST OF NO ELEMENTS, WHATEVER IS APPENDED, FOR THE WALK. -/
theorem wpList_append_fresh {P : Program} {ops : Array Oper} {rest : List Oper} {o : Oper} {a : Act} {w : World} {Q : Exit → Act → World → Prop} (hgd : o.guard = none) (s x : Operand) (t : TypeId)
    (ho : o.op = .call { callee := .builtin .append, args := #[s, x], argTypes := #[t, t] })
    (base : Nat) (e : TypeId) (i : TypeInfo) (z : Value) (size bytes : Nat) (ht : P.underlying t = some (.slice e)) (hi : P.info? e = some i) (hz : i.zero = some z)
    (hsize : i.size = size) (hby : i.bytes = bytes) (hzs : z.cells.size = size) (hsz : 0 < size)
    (g : Nat) (hs : a.eval s = .slice (some ⟨g, 0, none⟩) 0 0) (hown : w.ownsRow base e size (.slice (some ⟨g, 0, none⟩) 0 0) 0 [])
    (A : Option Addr) (m c : Nat) (news : List Value) (hx : a.eval x = .slice A m c) (hl : news.length = m * size) (hnone : A = none → m = 0)
    (hnews : ∀ ad, A = some ad → ∀ (j : Nat) u, news[j]? = some u → w.cell? (ad.add j) = some u) (h1 : ∀ u ∈ news, u.oneCell' = true)
    (h63 : m ≤ maxLen) (hbytes : m * bytes ≤ 140737488355328) (hbase : base ≤ w.heap.size)
    (h : ∀ v' w', w'.ownsRow base e size v' m news → w.grownBy w' (some g) → wpList P ops Q rest (a.put o.dst v') w') : wpList P ops Q (o :: rest) a w := by
  refine wpList_plain hgd fun _ hK => ?_
  cases A with
  | none =>
    obtain rfl := hnone rfl
    obtain rfl : news = [] := List.eq_nil_of_length_eq_zero (by rw [hl, Nat.zero_mul])
    have hr := run_append_nothing (P := P) w t t o.type e i ht hi (some ⟨g, 0, none⟩) 0 0 (Nat.le_refl _) (.slice none 0 c) (Go.Src.ofNil w ht c)
    unfold Oper.wp execOp
    simp only [ho, resolve, invoke, builtin, Sem.run_bind, Sem.run_pure, Result.andThen_ok, List.map_toArray, List.map_cons, List.map_nil, hs, hx, hr]
    exact hK _ _ (h _ _ hown (grown_refl _ _))
  | some ad =>
    obtain ⟨v', w', hr, h2, h3, -⟩ := run_append_own (P := P) w base t o.type e i z size bytes ht hi hz hsize hby hzs hsz _ 0 [] hown ad m c news hl (hnews ad rfl) h1 (by omega) (by rw [Nat.zero_add]; exact hbytes) hbase
    rw [Nat.zero_add, List.nil_append] at h2
    unfold Oper.wp execOp
    simp only [ho, resolve, invoke, builtin, Sem.run_bind, Sem.run_pure, Result.andThen_ok, List.map_toArray, List.map_cons, List.map_nil, hs, hx, hr]
    exact hK _ _ (h v' w' h2 h3)

theorem infoEntry : (Tryd.prog.info? 47).map (fun i => (i.zero, i.size, i.bytes)) = some (some (.agg #[.int .i64 0, .int .i64 0, .int .i64 0, .int .i64 0, .int .i64 0]), 5, 40) := by kernel_rfl
theorem infoInt : (Tryd.prog.info? 3).map (fun i => (i.zero, i.size, i.bytes)) = some (some (.int .i64 0), 1, 8) := by kernel_rfl
theorem infoSeq : (Tryd.prog.info? 58).map (fun i => (i.zero, i.size, i.bytes)) = some (some (.agg #[.int .i64 0, .slice none 0 0]), 2, 32) := by kernel_rfl
theorem zeroE (w : World) : (zeroValue 47).run Tryd.prog w = .ok (.agg #[.int .i64 0, .int .i64 0, .int .i64 0, .int .i64 0, .int .i64 0]) w := by kernel_rfl
theorem zeroS (w : World) : (zeroValue 58).run Tryd.prog w = .ok (.agg #[.int .i64 0, .slice none 0 0]) w := by kernel_rfl
theorem encE_one (e : En) : ∀ u ∈ encE e, u.oneCell' = true := by
  intro u hu
  simp only [encE, List.mem_cons, List.not_mem_nil, or_false] at hu
  rcases hu with rfl | rfl | rfl | rfl | rfl <;> rfl
theorem encE_at {w : World} {g : Nat} {e : En} (h : At5 w g 0 e) : ∀ (j : Nat) (u : Value), (encE e)[j]? = some u → w.cell? ((⟨g, 0, none⟩ : Addr).add j) = some u := by
  obtain ⟨c0, c1, c2, c3, c4⟩ := h
  intro j u hu
  rw [Addr.add_lit, Nat.zero_add]
  match j, hu with
  | 0, hu => simp [encE] at hu; rw [← hu]; exact c0
  | 1, hu => simp [encE] at hu; rw [← hu]; exact c1
  | 2, hu => simp [encE] at hu; rw [← hu]; exact c2
  | 3, hu => simp [encE] at hu; rw [← hu]; exact c3
  | 4, hu => simp [encE] at hu; rw [← hu]; exact c4
  | j + 5, hu => simp [encE] at hu
theorem At5.row {w : World} {g : Nat} {t : TypeId} {e : En} (h : Row w g t #[.int .i64 e.1, .int .i64 e.2.1, .int .i64 e.2.2.1, .int .i64 e.2.2.2.1, .int .i64 e.2.2.2.2]) : At5 w g 0 e := row5 h
/-- In a map of entries without repeats stands what a look-up in the list finds. -/
theorem EnF.find {es : List En} {f : Int → Option Value} (h : EnF es f) (hn : (es.map (·.1)).Nodup) (c : Int) : f c = (fE es c).map enV := by
  cases hf : f c with
  | none =>
    have : fE es c = none := List.find?_eq_none.2 (fun e he => by have := (h c).1 hf e he; simpa using this)
    rw [this]; rfl
  | some v =>
    obtain ⟨e, he, hc, rfl⟩ := (h c).2 v hf
    have hx : fE es c = some e := by
      cases hq : fE es c with
      | none => exact absurd hc (by have := List.find?_eq_none.1 hq e he; simpa using this)
      | some x =>
        have hx1 := List.mem_of_find?_eq_some hq
        have hx2 : x.1 = c := by have := List.find?_some hq; simpa using this
        obtain ⟨i, hi, rfl⟩ := List.getElem_of_mem he
        obtain ⟨j, hj, rfl⟩ := List.getElem_of_mem hx1
        have := (List.getElem_inj (i := i) (j := j) (h₀ := by simpa using hi) (h₁ := by simpa using hj) hn).1 (by simp [hc, hx2])
        subst this; rfl
    rw [hx]; rfl
theorem SqF.find {w : World} {ss : List Sq} {f : Int → Option Value} (h : SqF w ss f) (hn : (ss.map (·.1)).Nodup) (c : Int) : (f c = none ∧ fS ss c = none) ∨ ∃ b u, fS ss c = some b ∧ f c = some (.agg #[.int .i64 c, u]) ∧ NmIn w u b := by
  cases hf : f c with
  | none =>
    have : ss.find? (fun s => s.1 == c) = none := List.find?_eq_none.2 (fun e he => by have := (h c).1 hf e he; simpa using this)
    exact .inl ⟨rfl, by unfold fS; rw [this]; rfl⟩
  | some v =>
    obtain ⟨e, he, hc, u, rfl, hu⟩ := (h c).2 v hf
    refine .inr ⟨e.2, u, ?_, rfl, hu⟩
    have hx : ss.find? (fun s => s.1 == c) = some e := by
      cases hq : ss.find? (fun s => s.1 == c) with
      | none => exact absurd hc (by have := List.find?_eq_none.1 hq e he; simpa using this)
      | some x =>
        have hx1 := List.mem_of_find?_eq_some hq
        have hx2 : x.1 = c := by have := List.find?_some hq; simpa using this
        obtain ⟨i, hi, rfl⟩ := List.getElem_of_mem he
        obtain ⟨j, hj, rfl⟩ := List.getElem_of_mem hx1
        have := (List.getElem_inj (i := i) (j := j) (h₀ := by simpa using hi) (h₁ := by simpa using hj) hn).1 (by simp [hc, hx2])
        subst this; rfl
    unfold fS; rw [hx]; rfl
/-- An expansion under way: its box in block gx, the two maps, so many codes taken, the entries so far. -/
structure Xp (W : World) (gx b1 b2 : Nat) (es : List En) (ss : List Sq) (tk : Nat) (l : List En) (w : World) : Prop where
  below : Below W.heap.size W w
  bx : W.heap.size ≤ gx
  n1 : W.heap.size ≤ b1
  n2 : W.heap.size ≤ b2
  len : l.length ≤ 60
  tkn : tk ≤ 501
  row : ∃ v, Row w gx 73 #[.map (some b1), .map (some b2), .int .i64 (tk : Int), v] ∧ w.ownsRow W.heap.size 47 5 v l.length (rowE l)
  m1 : ∃ n f s, Mp w b1 n f s ∧ EnF es f
  m2 : ∃ n f s, Mp w b2 n f s ∧ SqF W ss f
section
variable {W w w' : World} {gx b1 b2 tk : Nat} {es : List En} {ss : List Sq} {l : List En}
theorem Xp.under (h : Xp W gx b1 b2 es ss tk l w) (hb : Below w.heap.size w w') : Xp W gx b1 b2 es ss tk l w' := by
  obtain ⟨v, r, o⟩ := h.row
  obtain ⟨n, f, s, m, e⟩ := h.m1
  obtain ⟨n', f', s', m', e'⟩ := h.m2
  exact ⟨h.below.trans (hb.mono h.below.size), h.bx, h.n1, h.n2, h.len, h.tkn, ⟨v, r.under hb, own_under o hb⟩, ⟨n, f, s, m.under hb, e⟩, ⟨n', f', s', m'.under hb, e'⟩⟩
theorem Xp.tick (h : Xp W gx b1 b2 es ss tk l w) (ht : tk ≤ 500) {x : Int} (hx : x = (tk : Int) + 1) : Xp W gx b1 b2 es ss (tk + 1) l (w.setCell ⟨gx, 2, none⟩ (.int .i64 x)) := by
  obtain ⟨v, r, o⟩ := h.row
  obtain ⟨n, f, s, m, e⟩ := h.m1
  obtain ⟨n', f', s', m', e'⟩ := h.m2
  have hg : w.grownBy (w.setCell ⟨gx, 2, none⟩ (.int .i64 x)) (some gx) := ⟨rfl, rfl, rfl, by simp [World.setCell], fun i _ hne => Below.heap_setCell w ⟨gx, 2, none⟩ _ i (fun e => hne (by rw [e]))⟩
  refine ⟨h.below.setCell (p := ⟨gx, 2, none⟩) h.bx _, h.bx, h.n1, h.n2, h.len, by omega, ⟨v, ?_, o.kept hg ?_⟩, ⟨n, f, s, m.kept hg (fun e => m.ne r (by injection e)), e⟩, ⟨n', f', s', m'.kept hg (fun e => m'.ne r (by injection e)), e'⟩⟩
  · have e1 : x = ((tk + 1 : Nat) : Int) := by omega
    rw [e1]
    exact r.put 2 _
  · have := own_ne o r (by decide)
    cases hv : v.ownBlock
    · exact .inl rfl
    · exact .inr (fun e => this (by rw [hv, ← e]))
end
end Go.Proofs.YtjaopjhfjijdaaaDoor
