/- Appending to rows of one's own; the state of an expansion under way. The contract of add. -/
import Derived.Test.YtjaopjhfjijdaaaDoorVa
import Derived.Deep.Upon
import Derived.ArgAppend
namespace Go.Proofs.YtjaopjhfjijdaaaDoor
open Go.RowKit

theorem genH {P : Program} {ops : Array Oper} {Q : Exit → Act → World → Prop} {md : Region.Mode} {S : World → Prop} {fuel : Nat} {listed : Array Bool} {a : Act} {w : World} (R : World → Prop) (h : R w)
    (hK : ∀ X, R X → wpAnyH P md ops Q S fuel listed a X) : wpAnyH P md ops Q S fuel listed a w := hK w h
/-- APPEND TO AN OWNED ROW, NOTHING OR MORE, AS ONE STEP OF A DRAWN REGION. -/
theorem step_append_own {P : Program} {ops : Array Oper} {o : Oper} {a : Act} {w : World} {K : Act → World → Prop} {Q : Exit → Act → World → Prop} {E : Prop} (hgd : o.guard = none) (s x : Operand) (t : TypeId)
    (ho : o.op = .call { callee := .builtin .append, args := #[s, x], argTypes := #[t, t] })
    (base : Nat) (e : TypeId) (i : TypeInfo) (z : Value) (size bytes : Nat) (ht : P.underlying t = some (.slice e)) (hi : P.info? e = some i) (hz : i.zero = some z)
    (hsize : i.size = size) (hby : i.bytes = bytes) (hzs : z.cells.size = size) (hsz : 0 < size)
    (v : Value) (n : Nat) (xs : List Value) (hs : a.eval s = v) (hown : w.ownsRow base e size v n xs)
    (ad : Addr) (m c : Nat) (news : List Value) (hx : a.eval x = .slice (some ad) m c) (hl : news.length = m * size) (hnews : ∀ j u, news[j]? = some u → w.cell? (ad.add j) = some u) (h1 : ∀ u ∈ news, u.oneCell' = true)
    (h63 : n + m ≤ maxLen) (hbytes : (n + m) * bytes ≤ 140737488355328) (hbase : base ≤ w.heap.size)
    (h : ∀ v' w', w'.ownsRow base e size v' (n + m) (xs ++ news) → w.grownBy w' v.ownBlock → K (a.put o.dst v') w') :
    if Region.wanted o (yielded ops a.tmps) = true then Oper.wp P o a w K Q else E := by
  have hw : Region.wanted o (yielded ops a.tmps) = true := by simp [Region.wanted, hgd]
  rw [if_pos hw]
  obtain ⟨v', w', hr, h2, h3, -⟩ := run_append_own (P := P) w base t o.type e i z size bytes ht hi hz hsize hby hzs hsz v n xs hown ad m c news hl hnews h1 h63 hbytes hbase
  unfold Oper.wp execOp
  simp only [ho, resolve, invoke, builtin, Sem.run_bind, Sem.run_pure, Result.andThen_ok, List.map_toArray, List.map_cons, List.map_nil, hs, hx, hr]
  exact h v' w' h2 h3
/-- APPEND TO AN OWNED ROW, NOTHING OR MORE, FOR THE WALK. -/
theorem wpList_append_own' {P : Program} {ops : Array Oper} {rest : List Oper} {o : Oper} {a : Act} {w : World} {Q : Exit → Act → World → Prop} (hgd : o.guard = none) (s x : Operand) (t : TypeId)
    (ho : o.op = .call { callee := .builtin .append, args := #[s, x], argTypes := #[t, t] })
    (base : Nat) (e : TypeId) (i : TypeInfo) (z : Value) (size bytes : Nat) (ht : P.underlying t = some (.slice e)) (hi : P.info? e = some i) (hz : i.zero = some z)
    (hsize : i.size = size) (hby : i.bytes = bytes) (hzs : z.cells.size = size) (hsz : 0 < size)
    (v : Value) (n : Nat) (xs : List Value) (hs : a.eval s = v) (hown : w.ownsRow base e size v n xs)
    (ad : Addr) (m c : Nat) (news : List Value) (hx : a.eval x = .slice (some ad) m c) (hl : news.length = m * size) (hnews : ∀ j u, news[j]? = some u → w.cell? (ad.add j) = some u) (h1 : ∀ u ∈ news, u.oneCell' = true)
    (h63 : n + m ≤ maxLen) (hbytes : (n + m) * bytes ≤ 140737488355328) (hbase : base ≤ w.heap.size)
    (h : ∀ v' w', w'.ownsRow base e size v' (n + m) (xs ++ news) → w.grownBy w' v.ownBlock → wpList P ops Q rest (a.put o.dst v') w') : wpList P ops Q (o :: rest) a w := by
  refine wpList_plain hgd fun _ hK => ?_
  obtain ⟨v', w', hr, h2, h3, -⟩ := run_append_own (P := P) w base t o.type e i z size bytes ht hi hz hsize hby hzs hsz v n xs hown ad m c news hl hnews h1 h63 hbytes hbase
  unfold Oper.wp execOp
  simp only [ho, resolve, invoke, builtin, Sem.run_bind, Sem.run_pure, Result.andThen_ok, List.map_toArray, List.map_cons, List.map_nil, hs, hx, hr]
  exact hK _ _ (h v' w' h2 h3)
/-- APPEND TO A NEW LIST OF NO ELEMENTS, WHATEVER IS APPENDED, FOR THE WALK. -/
theorem wpList_append_fresh {P : Program} {ops : Array Oper} {rest : List Oper} {o : Oper} {a : Act} {w : World} {Q : Exit → Act → World → Prop} (hgd : o.guard = none) (s x : Operand) (t : TypeId)
    (ho : o.op = .call { callee := .builtin .append, args := #[s, x], argTypes := #[t, t] })
    (base : Nat) (e : TypeId) (i : TypeInfo) (z : Value) (size bytes : Nat) (ht : P.underlying t = some (.slice e)) (hi : P.info? e = some i) (hz : i.zero = some z)
    (hsize : i.size = size) (hby : i.bytes = bytes) (hzs : z.cells.size = size) (hsz : 0 < size)
    (g : Nat) (hs : a.eval s = .slice (some ⟨g, 0, none⟩) 0 0) (hown : w.ownsRow base e size (.slice (some ⟨g, 0, none⟩) 0 0) 0 [])
    (A : Option Addr) (m c : Nat) (news : List Value) (hx : a.eval x = .slice A m c) (hl : news.length = m * size) (hnone : A = none → m = 0)
    (hnews : ∀ ad, A = some ad → ∀ (j : Nat) u, news[j]? = some u → w.cell? (ad.add j) = some u) (h1 : ∀ u ∈ news, u.oneCell' = true)
    (h63 : m ≤ maxLen) (hbytes : m * bytes ≤ 140737488355328) (hbase : base ≤ w.heap.size)
    (h : ∀ v' w', w'.ownsRow base e size v' m news → w.grownBy w' (some g) → wpList P ops Q rest (a.put o.dst v') w') : wpList P ops Q (o :: rest) a w := by
  refine wpList_plain hgd fun _ hK => ?_
  cases A with
  | none =>
    obtain rfl := hnone rfl
    obtain rfl : news = [] := List.eq_nil_of_length_eq_zero (by rw [hl, Nat.zero_mul])
    have hr := run_append_nothing (P := P) w t t o.type e i ht hi (some ⟨g, 0, none⟩) 0 0 (Nat.le_refl _) (.slice none 0 c) (Go.Src.ofNil w ht c)
    unfold Oper.wp execOp
    simp only [ho, resolve, invoke, builtin, Sem.run_bind, Sem.run_pure, Result.andThen_ok, List.map_toArray, List.map_cons, List.map_nil, hs, hx, hr]
    exact hK _ _ (h _ _ hown (grown_refl _ _))
  | some ad =>
    obtain ⟨v', w', hr, h2, h3, -⟩ := run_append_own (P := P) w base t o.type e i z size bytes ht hi hz hsize hby hzs hsz _ 0 [] hown ad m c news hl (hnews ad rfl) h1 (by omega) (by rw [Nat.zero_add]; exact hbytes) hbase
    rw [Nat.zero_add, List.nil_append] at h2
    unfold Oper.wp execOp
    simp only [ho, resolve, invoke, builtin, Sem.run_bind, Sem.run_pure, Result.andThen_ok, List.map_toArray, List.map_cons, List.map_nil, hs, hx, hr]
    exact hK _ _ (h v' w' h2 h3)

theorem infoEntry : (Tryd.prog.info? 47).map (fun i => (i.zero, i.size, i.bytes)) = some (some (.agg #[.int .i64 0, .int .i64 0, .int .i64 0, .int .i64 0, .int .i64 0]), 5, 40) := by kernel_rfl
theorem infoInt : (Tryd.prog.info? 3).map (fun i => (i.zero, i.size, i.bytes)) = some (some (.int .i64 0), 1, 8) := by kernel_rfl
theorem infoSeq : (Tryd.prog.info? 58).map (fun i => (i.zero, i.size, i.bytes)) = some (some (.agg #[.int .i64 0, .slice none 0 0]), 2, 32) := by kernel_rfl
theorem zeroE (w : World) : (zeroValue 47).run Tryd.prog w = .ok (.agg #[.int .i64 0, .int .i64 0, .int .i64 0, .int .i64 0, .int .i64 0]) w := by kernel_rfl
theorem zeroS (w : World) : (zeroValue 58).run Tryd.prog w = .ok (.agg #[.int .i64 0, .slice none 0 0]) w := by kernel_rfl
theorem encE_one (e : En) : ∀ u ∈ encE e, u.oneCell' = true := by
  intro u hu
  simp only [encE, List.mem_cons, List.not_mem_nil, or_false] at hu
  rcases hu with rfl | rfl | rfl | rfl | rfl <;> rfl
theorem encE_at {w : World} {g : Nat} {e : En} (h : At5 w g 0 e) : ∀ (j : Nat) (u : Value), (encE e)[j]? = some u → w.cell? ((⟨g, 0, none⟩ : Addr).add j) = some u := by
  obtain ⟨c0, c1, c2, c3, c4⟩ := h
  intro j u hu
  rw [Addr.add_lit, Nat.zero_add]
  match j, hu with
  | 0, hu => simp [encE] at hu; rw [← hu]; exact c0
  | 1, hu => simp [encE] at hu; rw [← hu]; exact c1
  | 2, hu => simp [encE] at hu; rw [← hu]; exact c2
  | 3, hu => simp [encE] at hu; rw [← hu]; exact c3
  | 4, hu => simp [encE] at hu; rw [← hu]; exact c4
  | j + 5, hu => simp [encE] at hu
theorem At5.row {w : World} {g : Nat} {t : TypeId} {e : En} (h : Row w g t #[.int .i64 e.1, .int .i64 e.2.1, .int .i64 e.2.2.1, .int .i64 e.2.2.2.1, .int .i64 e.2.2.2.2]) : At5 w g 0 e := row5 h
/-- In a map of entries without repeats stands what a look-up in the list finds. -/
theorem EnF.find {es : List En} {f : Int → Option Value} (h : EnF es f) (hn : (es.map (·.1)).Nodup) (c : Int) : f c = (fE es c).map enV := by
  cases hf : f c with
  | none =>
    have : fE es c = none := List.find?_eq_none.2 (fun e he => by have := (h c).1 hf e he; simpa using this)
    rw [this]; rfl
  | some v =>
    obtain ⟨e, he, hc, rfl⟩ := (h c).2 v hf
    have hx : fE es c = some e := by
      cases hq : fE es c with
      | none => exact absurd hc (by have := List.find?_eq_none.1 hq e he; simpa using this)
      | some x =>
        have hx1 := List.mem_of_find?_eq_some hq
        have hx2 : x.1 = c := by have := List.find?_some hq; simpa using this
        obtain ⟨i, hi, rfl⟩ := List.getElem_of_mem he
        obtain ⟨j, hj, rfl⟩ := List.getElem_of_mem hx1
        have := (List.getElem_inj (i := i) (j := j) (h₀ := by simpa using hi) (h₁ := by simpa using hj) hn).1 (by simp [hc, hx2])
        subst this; rfl
    rw [hx]; rfl
theorem SqF.find {w : World} {ss : List Sq} {f : Int → Option Value} (h : SqF w ss f) (hn : (ss.map (·.1)).Nodup) (c : Int) : (f c = none ∧ fS ss c = none) ∨ ∃ b u, fS ss c = some b ∧ f c = some (.agg #[.int .i64 c, u]) ∧ NmIn w u b := by
  cases hf : f c with
  | none =>
    have : ss.find? (fun s => s.1 == c) = none := List.find?_eq_none.2 (fun e he => by have := (h c).1 hf e he; simpa using this)
    exact .inl ⟨rfl, by unfold fS; rw [this]; rfl⟩
  | some v =>
    obtain ⟨e, he, hc, u, rfl, hu⟩ := (h c).2 v hf
    refine .inr ⟨e.2, u, ?_, rfl, hu⟩
    have hx : ss.find? (fun s => s.1 == c) = some e := by
      cases hq : ss.find? (fun s => s.1 == c) with
      | none => exact absurd hc (by have := List.find?_eq_none.1 hq e he; simpa using this)
      | some x =>
        have hx1 := List.mem_of_find?_eq_some hq
        have hx2 : x.1 = c := by have := List.find?_some hq; simpa using this
        obtain ⟨i, hi, rfl⟩ := List.getElem_of_mem he
        obtain ⟨j, hj, rfl⟩ := List.getElem_of_mem hx1
        have := (List.getElem_inj (i := i) (j := j) (h₀ := by simpa using hi) (h₁ := by simpa using hj) hn).1 (by simp [hc, hx2])
        subst this; rfl
    unfold fS; rw [hx]; rfl
/-- An expansion under way: its box in block gx, the two maps, so many codes taken, the entries so far. -/
structure Xp (W : World) (gx b1 b2 : Nat) (es : List En) (ss : List Sq) (tk : Nat) (l : List En) (w : World) : Prop where
  below : Below W.heap.size W w
  bx : W.heap.size ≤ gx
  n1 : W.heap.size ≤ b1
  n2 : W.heap.size ≤ b2
  len : l.length ≤ 60
  tkn : tk ≤ 501
  row : ∃ v, Row w gx 73 #[.map (some b1), .map (some b2), .int .i64 (tk : Int), v] ∧ w.ownsRow W.heap.size 47 5 v l.length (rowE l)
  m1 : ∃ n f s, Mp w b1 n f s ∧ EnF es f
  m2 : ∃ n f s, Mp w b2 n f s ∧ SqF W ss f
section
variable {W w w' : World} {gx b1 b2 tk : Nat} {es : List En} {ss : List Sq} {l : List En}
theorem Xp.under (h : Xp W gx b1 b2 es ss tk l w) (hb : Below w.heap.size w w') : Xp W gx b1 b2 es ss tk l w' := by
  obtain ⟨v, r, o⟩ := h.row
  obtain ⟨n, f, s, m, e⟩ := h.m1
  obtain ⟨n', f', s', m', e'⟩ := h.m2
  exact ⟨h.below.trans (hb.mono h.below.size), h.bx, h.n1, h.n2, h.len, h.tkn, ⟨v, r.under hb, own_under o hb⟩, ⟨n, f, s, m.under hb, e⟩, ⟨n', f', s', m'.under hb, e'⟩⟩
theorem Xp.tick (h : Xp W gx b1 b2 es ss tk l w) (ht : tk ≤ 500) {x : Int} (hx : x = (tk : Int) + 1) : Xp W gx b1 b2 es ss (tk + 1) l (w.setCell ⟨gx, 2, none⟩ (.int .i64 x)) := by
  obtain ⟨v, r, o⟩ := h.row
  obtain ⟨n, f, s, m, e⟩ := h.m1
  obtain ⟨n', f', s', m', e'⟩ := h.m2
  have hg : w.grownBy (w.setCell ⟨gx, 2, none⟩ (.int .i64 x)) (some gx) := ⟨rfl, rfl, rfl, by simp [World.setCell], fun i _ hne => Below.heap_setCell w ⟨gx, 2, none⟩ _ i (fun e => hne (by rw [e]))⟩
  refine ⟨h.below.setCell (p := ⟨gx, 2, none⟩) h.bx _, h.bx, h.n1, h.n2, h.len, by omega, ⟨v, ?_, o.kept hg ?_⟩, ⟨n, f, s, m.kept hg (fun e => m.ne r (by injection e)), e⟩, ⟨n', f', s', m'.kept hg (fun e => m'.ne r (by injection e)), e'⟩⟩
  · have e1 : x = ((tk + 1 : Nat) : Int) := by omega
    rw [e1]
    exact r.put 2 _
  · have := own_ne o r (by decide)
    cases hv : v.ownBlock
    · exact .inl rfl
    · exact .inr (fun e => this (by rw [hv, ← e]))
end
end Go.Proofs.YtjaopjhfjijdaaaDoor
namespace Go.Proofs.YtjaopjhfjijdaaaDoor
open Go.RowKit

/-- What add leaves. -/
def AddR (W : World) (gx b1 b2 : Nat) (es : List En) (ss : List Sq) (tk : Nat) (l : List En) (c : Int) (e : Ending) (w' : World) : Prop :=
  ∃ r : Int, e = .returned (.int .i64 r) ∧ ((r = 6 ∧ fE es c = none ∧ Below W.heap.size W w') ∨ (r = 2 ∧ ∃ x, fE es c = some x ∧ 60 ≤ l.length ∧ Below W.heap.size W w') ∨ (r = 0 ∧ ∃ x, fE es c = some x ∧ l.length < 60 ∧ Xp W gx b1 b2 es ss tk (l ++ [x]) w'))
theorem At5.far {w : World} {g o x j : Nat} {u : Value} {e : En} (h : At5 w g o e) (hne : x ≠ g) : At5 (w.setCell ⟨x, j, none⟩ u) g o e := by
  obtain ⟨a, b, c, d, f⟩ := h
  have k : ∀ i, (w.setCell ⟨x, j, none⟩ u).cell? ⟨g, i, none⟩ = w.cell? ⟨g, i, none⟩ := fun i => World.cell?_of_block (Below.heap_setCell w ⟨x, j, none⟩ u g (Ne.symm hne))
  unfold At5
  rw [k, k, k, k, k]
  exact ⟨a, b, c, d, f⟩
theorem grown_put {w : World} {g j : Nat} {u : Value} : w.grownBy (w.setCell ⟨g, j, none⟩ u) (some g) := ⟨rfl, rfl, rfl, by simp [World.setCell], fun i _ hne => Below.heap_setCell w ⟨g, j, none⟩ _ i (fun e => hne (by rw [e]))⟩
theorem Xp.app {W w w' : World} {gx b1 b2 tk : Nat} {es : List En} {ss : List Sq} {l : List En} (h : Xp W gx b1 b2 es ss tk l w) (hl : l.length < 60) (x : En) {v v' : Value}
    (hr : Row w gx 73 #[.map (some b1), .map (some b2), .int .i64 (tk : Int), v]) (ho : w.ownsRow W.heap.size 47 5 v l.length (rowE l))
    (ho' : w'.ownsRow W.heap.size 47 5 v' (l.length + 1) (rowE l ++ encE x)) (hg : w.grownBy w' v.ownBlock) :
    Xp W gx b1 b2 es ss tk (l ++ [x]) (w'.setCell ⟨gx, 3, none⟩ v') ∧ Row w' gx 73 #[.map (some b1), .map (some b2), .int .i64 (tk : Int), v] := by
  obtain ⟨n, f, s, m, e⟩ := h.m1
  obtain ⟨n', f', s', m2, e'⟩ := h.m2
  have hne := own_ne ho hr (by decide)
  have r1 := hr.grown hg hne
  have hm := m.kept hg (m.ne_own ho)
  have hm2 := m2.kept hg (m2.ne_own ho)
  have hb := below_own h.below h.below.size ho hg
  have hne' := own_ne ho' r1 (by decide)
  refine ⟨⟨hb.setCell (p := ⟨gx, 3, none⟩) h.bx _, h.bx, h.n1, h.n2, by rw [List.length_append, List.length_singleton]; omega, h.tkn, ⟨v', r1.put 3 _, ?_⟩, ⟨n, f, s, hm.kept grown_put (fun q => hm.ne r1 (by injection q)), e⟩, ⟨n', f', s', hm2.kept grown_put (fun q => hm2.ne r1 (by injection q)), e'⟩⟩, r1⟩
  rw [rowE_snoc, List.length_append, List.length_singleton]
  refine ho'.kept grown_put ?_
  cases hv : v'.ownBlock
  · exact .inl rfl
  · exact .inr (fun q => hne' (by rw [hv, ← q]))
set_option maxRecDepth 100000 in
set_option maxHeartbeats 2000000 in
theorem add_any (W w : World) (gx b1 b2 : Nat) (es : List En) (ss : List Sq) (tk : Nat) (l : List En) (c : Int) (h : Xp W gx b1 b2 es ss tk l w) (hn : (es.map (·.1)).Nodup) (hI : I64 c) :
    Calls Tryd.prog 54 #[.pointer (some ⟨gx, 0, none⟩), .int .i64 c] w (AddR W gx b1 b2 es ss tk l c) := by
  have HX := Lib.hid h
  obtain ⟨v, r, o⟩ := h.row
  obtain ⟨n, f, s, m, e⟩ := h.m1
  have hl := m.run_look Tryd.underlying68 (zeroE w) hI
  have hfe := e.find hn c
  have R := Lib.hid r
  have O := Lib.hid o
  have hlen : l.length ≤ 60 := h.len
  obtain ⟨i0, hi, hz0, hz1, hz2⟩ := info_parts infoEntry
  clear m e h hI
  cases hf : fE es c with
  | none =>
    rw [hf] at hfe
    rw [hfe] at hl
    obtain ⟨p0, -, -, -⟩ := row4 r
    clear hfe r o
    simp only [Option.map_none, Option.getD_none, Option.isSome_none] at hl
    have HF := Lib.hid hf; clear hf
    go_enter Tryd.func54, Tryd.ntmps54
    go_wp2_with fail
    go_ret
    exact ⟨6, rfl, .inl ⟨rfl, HF.out, HX.out.below.alloc HX.out.below.size _⟩⟩
  | some x =>
    obtain ⟨y0, y1, y2, y3, y4⟩ := x
    rw [hf] at hfe
    rw [hfe] at hl
    simp only [Option.map_some, Option.getD_some, Option.isSome_some, enV] at hl
    clear hfe
    have HF := Lib.hid hf; clear hf
    obtain ⟨A, cap, ev, hcap⟩ : ∃ A cap, v = .slice A l.length cap ∧ l.length ≤ cap := by
      rcases o.2 with ⟨rfl, h0⟩ | ⟨g, cap, cur, rfl, _, hh, hle, hmax, _, _⟩
      · exact ⟨none, 0, by rw [h0], by omega⟩
      · exact ⟨_, cap, rfl, hle⟩
    subst ev
    obtain ⟨p0, -, -, p3⟩ := row4 r
    clear r o
    have b1' : Below w.heap.size w (w.alloc (.cells #[.int .i64 y0, .int .i64 y1, .int .i64 y2, .int .i64 y3, .int .i64 y4] 47)) := (Below.refl _ _).alloc (Nat.le_refl _) _
    have r5 := Row.new w #[.int .i64 y0, .int .i64 y1, .int .i64 y2, .int .i64 y3, .int .i64 y4] 47
    go_enter Tryd.func54, Tryd.ntmps54
    go_upto_region 2 with fail
    have X1 := Lib.hid (HX.out.under b1')
    have R1 := Lib.hid (R.out.under b1')
    have O1 := Lib.hid (own_under O.out b1')
    generalize w.alloc (.cells #[.int .i64 y0, .int .i64 y1, .int .i64 y2, .int .i64 y3, .int .i64 y4] 47) = W1 at *
    have NE5 : Hid (some w.heap.size ≠ Value.ownBlock (.slice A l.length cap)) := Lib.hid (fun e => by have := (O.out.lt _ e.symm).2; omega)
    generalize w.heap.size = g5 at r5 NE5 ⊢
    have NG : Hid (gx ≠ g5) := Lib.hid (fun q => by subst q; have a := R1.out; unfold Row at a r5; rw [a] at r5; injection r5 with r5; injection r5 with _ r5; exact absurd r5 (by decide))
    clear HX R O hl p0 p3 b1'
    obtain ⟨-, -, -, p3⟩ := row4 R1.out
    by_cases h60 : 60 ≤ l.length
    · have k0 : ((l.length : Int) == 60) = true := by
        have : (l.length : Int) = 60 := by omega
        simp [this]
      have HL : Hid (60 ≤ l.length) := Lib.hid h60
      clear r5 h60
      go_wp2_with fail
      go_ret
      exact ⟨2, rfl, .inr (.inl ⟨rfl, _, HF.out, HL.out, X1.out.below⟩)⟩
    · have k1 : ¬ (l.length : Int) = 60 := by omega
      have k0 : ((l.length : Int) == 60) = false := by simpa using k1
      go_upto_region 6 with fail
      clear k0 k1
      obtain ⟨q0, q1, q2, q3, q4⟩ := row5 r5
      have f3 := R1.out.thaw 3
      have r5' := r5
      clear r5
      have J0 : Hid (Xp W gx b1 b2 es ss tk l W1 ∧ Row W1 gx 73 #[.map (some b1), .map (some b2), .int .i64 (tk : Int), .slice A l.length cap] ∧ W1.ownsRow W.heap.size 47 5 (.slice A l.length cap) l.length (rowE l) ∧ At5 W1 g5 0 (y0, y1, y2, y3, y4) ∧ g5 < W1.heap.size) := Lib.hid ⟨X1.out, R1.out, O1.out, At5.row (e := (y0, y1, y2, y3, y4)) r5', r5'.lt⟩
      refine wp_region_held_drew (S := (fun w' : World => w'.cell? ⟨g5, 0, none⟩ = some (.int .i64 y0) ∧ w'.cell? ⟨g5, 1, none⟩ = some (.int .i64 y1) ∧ w'.cell? ⟨g5, 2, none⟩ = some (.int .i64 y2) ∧ w'.cell? ⟨g5, 3, none⟩ = some (.int .i64 y3) ∧ w'.cell? ⟨g5, 4, none⟩ = some (.int .i64 y4))) (by kernel_rfl) ⟨q0, q1, q2, q3, q4⟩ (fun hHeld => ?_)
      refine wpAnyH_take (i := 0) (oi := ⟨some 24, _, _, _, _, none⟩) (v := ?_) rfl (by kernel_rfl) (by kernel_rfl) (by kernel_rfl) (fun _ _ _ h => h) (Or.inl ⟨by rfl, ?_⟩) (by assumption) ?_
      case refine_2 => (intro wx hSx; (try dsimp only at hSx); go_simp; first | done | with_reducible rfl)
      ((try simp only [Act.put]); (try simp only [List.setIfInBounds_toArray]); (try simp only [List.set_cons_succ]); (try simp only [List.set_cons_zero]))
      refine wpAnyH_take (i := 1) (oi := ⟨some 25, _, _, _, _, none⟩) (v := ?_) rfl (by kernel_rfl) (by kernel_rfl) (by kernel_rfl) (fun _ _ _ h => h) (Or.inl ⟨by rfl, ?_⟩) (by assumption) ?_
      case refine_2 => (intro wx hSx; (try dsimp only at hSx); go_simp; first | done | with_reducible rfl)
      ((try simp only [Act.put]); (try simp only [List.setIfInBounds_toArray]); (try simp only [List.set_cons_succ]); (try simp only [List.set_cons_zero]))
      refine wpAnyH_take (i := 2) (oi := ⟨some 26, _, _, _, _, none⟩) (v := ?_) rfl (by kernel_rfl) (by kernel_rfl) (by kernel_rfl) (fun _ _ _ h => h) (Or.inl ⟨by rfl, ?_⟩) (by assumption) ?_
      case refine_2 => (intro wx hSx; (try dsimp only at hSx); go_simp; first | done | with_reducible rfl)
      ((try simp only [Act.put]); (try simp only [List.setIfInBounds_toArray]); (try simp only [List.set_cons_succ]); (try simp only [List.set_cons_zero]))
      refine wpAnyH_take (i := 3) (oi := ⟨some 27, _, _, _, _, none⟩) (v := ?_) rfl (by kernel_rfl) (by kernel_rfl) (by kernel_rfl) (fun _ _ _ h => h) (Or.inl ⟨by rfl, ?_⟩) (by assumption) ?_
      case refine_2 => (intro wx hSx; (try dsimp only at hSx); go_simp; first | done | with_reducible rfl)
      ((try simp only [Act.put]); (try simp only [List.setIfInBounds_toArray]); (try simp only [List.set_cons_succ]); (try simp only [List.set_cons_zero]))
      refine wpAnyH_take (i := 5) (oi := ⟨some 29, _, _, _, _, none⟩) (v := ?_) rfl (by kernel_rfl) (by kernel_rfl) (by kernel_rfl) (fun _ _ _ h => h) (Or.inl ⟨by rfl, ?_⟩) (by assumption) ?_
      case refine_2 => (intro wx hSx; (try dsimp only at hSx); go_simp; first | done | with_reducible rfl)
      ((try simp only [Act.put]); (try simp only [List.setIfInBounds_toArray]); (try simp only [List.set_cons_succ]); (try simp only [List.set_cons_zero]))
      refine genH (fun X => Hid (Xp W gx b1 b2 es ss tk l X ∧ Row X gx 73 #[.map (some b1), .map (some b2), .int .i64 (tk : Int), .slice A l.length cap] ∧ X.ownsRow W.heap.size 47 5 (.slice A l.length cap) l.length (rowE l) ∧ At5 X g5 0 (y0, y1, y2, y3, y4) ∧ g5 < X.heap.size)) (Lib.hid ⟨J0.out.1.under ⟨rfl, rfl, rfl, Nat.le_refl _, fun _ _ => rfl⟩, J0.out.2⟩) (fun X2 J2 => ?_)
      clear J0 X1 R1 O1 p3 q0 q1 q2 q3 q4 r5' f3
      refine wpAnyH_ready (rs := [4, 6]) (by kernel_rfl) (by simp) ?_
      refine AllReadyH.cons (o := ⟨some 28, _, _, _, _, none⟩) rfl (fun K hK => ?_) (AllReadyH.cons (o := ⟨some 30, _, _, _, _, none⟩) rfl (fun K hK => ?_) AllReadyH.nil)
      · have P3 := (row4 J2.out.2.1).2.2.2
        go_simp
        refine hK.out _ _ J2.out.2.2.2.1 (fun hHeld2 => ?_)
        clear hK K P3
        ((try simp only [Act.put]); (try simp only [List.setIfInBounds_toArray]); (try simp only [List.set_cons_succ]); (try simp only [List.set_cons_zero]))
        refine wpAnyH_ready (rs := [6]) (by kernel_rfl) (by simp) ?_
        refine AllReadyH.cons (o := ⟨some 30, _, _, _, _, none⟩) rfl (fun K hK => ?_) AllReadyH.nil
        obtain ⟨Q0, Q1, Q2, Q3, Q4⟩ := J2.out.2.2.2.1
        go_simp
        have Ja : Hid ((Xp W gx b1 b2 es ss tk l (X2.alloc (.cells #[.int .i64 y0, .int .i64 y1, .int .i64 y2, .int .i64 y3, .int .i64 y4] 47)) ∧ Row (X2.alloc (.cells #[.int .i64 y0, .int .i64 y1, .int .i64 y2, .int .i64 y3, .int .i64 y4] 47)) gx 73 #[.map (some b1), .map (some b2), .int .i64 (tk : Int), .slice A l.length cap] ∧ (X2.alloc (.cells #[.int .i64 y0, .int .i64 y1, .int .i64 y2, .int .i64 y3, .int .i64 y4] 47)).ownsRow W.heap.size 47 5 (.slice A l.length cap) l.length (rowE l) ∧ At5 (X2.alloc (.cells #[.int .i64 y0, .int .i64 y1, .int .i64 y2, .int .i64 y3, .int .i64 y4] 47)) g5 0 (y0, y1, y2, y3, y4) ∧ g5 < (X2.alloc (.cells #[.int .i64 y0, .int .i64 y1, .int .i64 y2, .int .i64 y3, .int .i64 y4] 47)).heap.size) ∧ At5 (X2.alloc (.cells #[.int .i64 y0, .int .i64 y1, .int .i64 y2, .int .i64 y3, .int .i64 y4] 47)) X2.heap.size 0 (y0, y1, y2, y3, y4)) := Lib.hid ⟨⟨J2.out.1.under ((Below.refl _ _).alloc (Nat.le_refl _) _), J2.out.2.1.alloc _, own_under J2.out.2.2.1 ((Below.refl _ _).alloc (Nat.le_refl _) _), J2.out.2.2.2.1.under J2.out.2.2.2.2 ((Below.refl _ _).alloc (Nat.le_refl _) _), by have := J2.out.2.2.2.2; simp; omega⟩, At5.row (e := (y0, y1, y2, y3, y4)) (Row.new _ _ _)⟩
        refine hK.out _ _ Ja.out.1.2.2.2.1 (fun hHeld2 => ?_)
        clear hK K Q0 Q1 Q2 Q3 Q4
        ((try simp only [Act.put]); (try simp only [List.setIfInBounds_toArray]); (try simp only [List.set_cons_succ]); (try simp only [List.set_cons_zero]))
        generalize X2.heap.size = g6 at *
        refine genH (fun X => Hid ((Xp W gx b1 b2 es ss tk l X ∧ Row X gx 73 #[.map (some b1), .map (some b2), .int .i64 (tk : Int), .slice A l.length cap] ∧ X.ownsRow W.heap.size 47 5 (.slice A l.length cap) l.length (rowE l) ∧ At5 X g5 0 (y0, y1, y2, y3, y4) ∧ g5 < X.heap.size) ∧ At5 X g6 0 (y0, y1, y2, y3, y4))) Ja (fun X3 J3 => ?_)
        clear Ja J2
        refine wpAnyH_ready (rs := [7]) (by kernel_rfl) (by simp) ?_
        refine AllReadyH.cons (o := ⟨some 31, _, _, _, _, none⟩) rfl (fun K hK => ?_) AllReadyH.nil
        refine step_append_own rfl (.tmp 28) (.tmp 30) 22 rfl W.heap.size 47 i0 _ 5 40 Tryd.underlying22 hi hz0 hz1 hz2 rfl (by decide) (.slice A l.length cap) l.length (rowE l) rfl J3.out.1.2.2.1 ⟨g6, 0, none⟩ 1 1 (encE (y0, y1, y2, y3, y4)) rfl rfl (encE_at J3.out.2) (encE_one _) (by unfold maxLen; omega) (by omega) J3.out.1.1.below.size ?_
        intro v' w4 ho' hg
        obtain ⟨A', cap', ev⟩ : ∃ A' cap', v' = .slice A' (l.length + 1) cap' := by
          rcases ho'.2 with ⟨-, h0⟩ | ⟨g, cap, cur, rfl, -⟩
          · omega
          · exact ⟨_, cap, rfl⟩
        subst ev
        have HA := Lib.hid (J3.out.1.1.app (by omega) (y0, y1, y2, y3, y4) J3.out.1.2.1 J3.out.1.2.2.1 ho' hg)
        have A5 : At5 w4 g5 0 (y0, y1, y2, y3, y4) := by
          have hb : some g5 ≠ Value.ownBlock (.slice A l.length cap) := NE5.out
          obtain ⟨a, b, c, d, e⟩ := J3.out.1.2.2.2.1
          exact ⟨hg.cell a hb, hg.cell b hb, hg.cell c hb, hg.cell d hb, hg.cell e hb⟩
        refine hK.out _ _ A5 (fun hHeld3 => ?_)
        clear hK K hg ho'
        ((try simp only [Act.put]); (try simp only [List.setIfInBounds_toArray]); (try simp only [List.set_cons_succ]); (try simp only [List.set_cons_zero]))
        refine wpAnyH_take (i := 8) (oi := ⟨some 32, _, _, _, _, none⟩) (v := ?_) rfl (by kernel_rfl) (by kernel_rfl) (by kernel_rfl) (fun _ _ _ h => h) (Or.inl ⟨by rfl, ?_⟩) (by assumption) ?_
        case refine_2 => (intro wx hSx; (try dsimp only at hSx); go_simp; first | done | with_reducible rfl)
        ((try simp only [Act.put]); (try simp only [List.setIfInBounds_toArray]); (try simp only [List.set_cons_succ]); (try simp only [List.set_cons_zero]))
        refine wpAnyH_take (i := 9) (oi := ⟨some 33, _, _, _, _, none⟩) (v := ?_) rfl (by kernel_rfl) (by kernel_rfl) (by kernel_rfl) (fun _ _ _ h => h) (Or.inl ⟨by rfl, ?_⟩) (by assumption) ?_
        case refine_2 => (intro wx hSx; (try dsimp only at hSx); go_simp; first | done | with_reducible rfl)
        ((try simp only [Act.put]); (try simp only [List.setIfInBounds_toArray]); (try simp only [List.set_cons_succ]); (try simp only [List.set_cons_zero]))
        have F3 := HA.out.2.thaw 3
        have P3 := (row4 HA.out.2).2.2.2
        refine wpAnyH_ready (rs := [10]) (by kernel_rfl) (by simp) ?_
        refine AllReadyH.cons (o := ⟨none, _, _, _, _, none⟩) rfl (fun K hK => ?_) AllReadyH.nil
        go_simp
        refine hK.out _ _ (A5.far NG.out) (fun hHeld4 => ?_)
        clear hK K F3 P3
        ((try simp only [Act.put]); (try simp only [List.setIfInBounds_toArray]); (try simp only [List.set_cons_succ]); (try simp only [List.set_cons_zero]))
        refine wpAnyH_done (by kernel_rfl) ?_ _
        have XF := Lib.hid HA.out.1
        clear HA hHeld hHeld2 hHeld3 hHeld4 A5
        go_wp2_with fail
        go_ret
        exact ⟨0, rfl, .inr (.inr ⟨rfl, _, HF.out, by omega, XF.out⟩)⟩
      · obtain ⟨Q0, Q1, Q2, Q3, Q4⟩ := J2.out.2.2.2.1
        go_simp
        have Jb : Hid ((Xp W gx b1 b2 es ss tk l (X2.alloc (.cells #[.int .i64 y0, .int .i64 y1, .int .i64 y2, .int .i64 y3, .int .i64 y4] 47)) ∧ Row (X2.alloc (.cells #[.int .i64 y0, .int .i64 y1, .int .i64 y2, .int .i64 y3, .int .i64 y4] 47)) gx 73 #[.map (some b1), .map (some b2), .int .i64 (tk : Int), .slice A l.length cap] ∧ (X2.alloc (.cells #[.int .i64 y0, .int .i64 y1, .int .i64 y2, .int .i64 y3, .int .i64 y4] 47)).ownsRow W.heap.size 47 5 (.slice A l.length cap) l.length (rowE l) ∧ At5 (X2.alloc (.cells #[.int .i64 y0, .int .i64 y1, .int .i64 y2, .int .i64 y3, .int .i64 y4] 47)) g5 0 (y0, y1, y2, y3, y4) ∧ g5 < (X2.alloc (.cells #[.int .i64 y0, .int .i64 y1, .int .i64 y2, .int .i64 y3, .int .i64 y4] 47)).heap.size) ∧ At5 (X2.alloc (.cells #[.int .i64 y0, .int .i64 y1, .int .i64 y2, .int .i64 y3, .int .i64 y4] 47)) X2.heap.size 0 (y0, y1, y2, y3, y4)) := Lib.hid ⟨⟨J2.out.1.under ((Below.refl _ _).alloc (Nat.le_refl _) _), J2.out.2.1.alloc _, own_under J2.out.2.2.1 ((Below.refl _ _).alloc (Nat.le_refl _) _), J2.out.2.2.2.1.under J2.out.2.2.2.2 ((Below.refl _ _).alloc (Nat.le_refl _) _), by have := J2.out.2.2.2.2; simp; omega⟩, At5.row (e := (y0, y1, y2, y3, y4)) (Row.new _ _ _)⟩
        refine hK.out _ _ Jb.out.1.2.2.2.1 (fun hHeld2 => ?_)
        clear hK K Q0 Q1 Q2 Q3 Q4
        ((try simp only [Act.put]); (try simp only [List.setIfInBounds_toArray]); (try simp only [List.set_cons_succ]); (try simp only [List.set_cons_zero]))
        generalize X2.heap.size = g6 at *
        refine genH (fun X => Hid ((Xp W gx b1 b2 es ss tk l X ∧ Row X gx 73 #[.map (some b1), .map (some b2), .int .i64 (tk : Int), .slice A l.length cap] ∧ X.ownsRow W.heap.size 47 5 (.slice A l.length cap) l.length (rowE l) ∧ At5 X g5 0 (y0, y1, y2, y3, y4) ∧ g5 < X.heap.size) ∧ At5 X g6 0 (y0, y1, y2, y3, y4))) Jb (fun X3 J3 => ?_)
        clear Jb J2
        refine wpAnyH_ready (rs := [4]) (by kernel_rfl) (by simp) ?_
        refine AllReadyH.cons (o := ⟨some 28, _, _, _, _, none⟩) rfl (fun K hK => ?_) AllReadyH.nil
        have P3 := (row4 J3.out.1.2.1).2.2.2
        go_simp
        refine hK.out _ _ J3.out.1.2.2.2.1 (fun hHeld2 => ?_)
        clear hK K P3
        ((try simp only [Act.put]); (try simp only [List.setIfInBounds_toArray]); (try simp only [List.set_cons_succ]); (try simp only [List.set_cons_zero]))
        refine wpAnyH_ready (rs := [7]) (by kernel_rfl) (by simp) ?_
        refine AllReadyH.cons (o := ⟨some 31, _, _, _, _, none⟩) rfl (fun K hK => ?_) AllReadyH.nil
        refine step_append_own rfl (.tmp 28) (.tmp 30) 22 rfl W.heap.size 47 i0 _ 5 40 Tryd.underlying22 hi hz0 hz1 hz2 rfl (by decide) (.slice A l.length cap) l.length (rowE l) rfl J3.out.1.2.2.1 ⟨g6, 0, none⟩ 1 1 (encE (y0, y1, y2, y3, y4)) rfl rfl (encE_at J3.out.2) (encE_one _) (by unfold maxLen; omega) (by omega) J3.out.1.1.below.size ?_
        intro v' w4 ho' hg
        obtain ⟨A', cap', ev⟩ : ∃ A' cap', v' = .slice A' (l.length + 1) cap' := by
          rcases ho'.2 with ⟨-, h0⟩ | ⟨g, cap, cur, rfl, -⟩
          · omega
          · exact ⟨_, cap, rfl⟩
        subst ev
        have HA := Lib.hid (J3.out.1.1.app (by omega) (y0, y1, y2, y3, y4) J3.out.1.2.1 J3.out.1.2.2.1 ho' hg)
        have A5 : At5 w4 g5 0 (y0, y1, y2, y3, y4) := by
          have hb : some g5 ≠ Value.ownBlock (.slice A l.length cap) := NE5.out
          obtain ⟨a, b, c, d, e⟩ := J3.out.1.2.2.2.1
          exact ⟨hg.cell a hb, hg.cell b hb, hg.cell c hb, hg.cell d hb, hg.cell e hb⟩
        refine hK.out _ _ A5 (fun hHeld3 => ?_)
        clear hK K hg ho'
        ((try simp only [Act.put]); (try simp only [List.setIfInBounds_toArray]); (try simp only [List.set_cons_succ]); (try simp only [List.set_cons_zero]))
        refine wpAnyH_take (i := 8) (oi := ⟨some 32, _, _, _, _, none⟩) (v := ?_) rfl (by kernel_rfl) (by kernel_rfl) (by kernel_rfl) (fun _ _ _ h => h) (Or.inl ⟨by rfl, ?_⟩) (by assumption) ?_
        case refine_2 => (intro wx hSx; (try dsimp only at hSx); go_simp; first | done | with_reducible rfl)
        ((try simp only [Act.put]); (try simp only [List.setIfInBounds_toArray]); (try simp only [List.set_cons_succ]); (try simp only [List.set_cons_zero]))
        refine wpAnyH_take (i := 9) (oi := ⟨some 33, _, _, _, _, none⟩) (v := ?_) rfl (by kernel_rfl) (by kernel_rfl) (by kernel_rfl) (fun _ _ _ h => h) (Or.inl ⟨by rfl, ?_⟩) (by assumption) ?_
        case refine_2 => (intro wx hSx; (try dsimp only at hSx); go_simp; first | done | with_reducible rfl)
        ((try simp only [Act.put]); (try simp only [List.setIfInBounds_toArray]); (try simp only [List.set_cons_succ]); (try simp only [List.set_cons_zero]))
        have F3 := HA.out.2.thaw 3
        have P3 := (row4 HA.out.2).2.2.2
        refine wpAnyH_ready (rs := [10]) (by kernel_rfl) (by simp) ?_
        refine AllReadyH.cons (o := ⟨none, _, _, _, _, none⟩) rfl (fun K hK => ?_) AllReadyH.nil
        go_simp
        refine hK.out _ _ (A5.far NG.out) (fun hHeld4 => ?_)
        clear hK K F3 P3
        ((try simp only [Act.put]); (try simp only [List.setIfInBounds_toArray]); (try simp only [List.set_cons_succ]); (try simp only [List.set_cons_zero]))
        refine wpAnyH_done (by kernel_rfl) ?_ _
        have XF := Lib.hid HA.out.1
        clear HA hHeld hHeld2 hHeld3 hHeld4 A5
        go_wp2_with fail
        go_ret
        exact ⟨0, rfl, .inr (.inr ⟨rfl, _, HF.out, by omega, XF.out⟩)⟩
end Go.Proofs.YtjaopjhfjijdaaaDoor
