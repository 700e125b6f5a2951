/- The program's chain of sightings. -/
import Derived.Test.YtejoabaanclcbaaGreatQas
import Derived.Test.YtejoabaanclcbaaGreatQat
import Derived.Deep.Upon
import Derived.Deep.Cut
import Derived.ArgAppend
import Derived.Deep.Draws
import Derived.Sort.CutIn
namespace Go.Proofs.YtejoabaanclcbaaGreat.Tk
open Go.RowKit
attribute [local go_sem] Oper.semAt_some

theorem genH {P : Program} {ops : Array Oper} {Q : Exit → Act → World → Prop} {md : Region.Mode} {S : World → Prop} {fuel : Nat} {listed : Array Bool} {a : Act} {w : World} (R : World → Prop) (h : R w)
    (hK : ∀ X, R X → wpAnyH P md ops Q S fuel listed a X) : wpAnyH P md ops Q S fuel listed a w := hK w h
/-- APPEND TO AN OWNED ROW, NOTHING OR MORE, AS ONE STEP OF A DRAWN REGION. -/
theorem step_append_own {P : Program} {ops : Array Oper} {o : Oper} {a : Act} {w : World} {K : Act → World → Prop} {Q : Exit → Act → World → Prop} {E : Prop} (hgd : o.guard = none) (s x : Operand) (t : TypeId)
    (ho : o.op = .call { callee := .builtin .append, args := #[s, x], argTypes := #[t, t] })
    (base : Nat) (e : TypeId) (i : TypeInfo) (z : Value) (size bytes : Nat) (ht : P.underlying t = some (.slice e)) (hi : P.info? e = some i) (hz : i.zero = some z)
    (hsize : i.size = size) (hby : i.bytes = bytes) (hzs : z.cells.size = size) (hsz : 0 < size)
    (v : Value) (n : Nat) (xs : List Value) (hs : a.eval s = v) (hown : w.ownsRow base e size v n xs)
    (ad : Addr) (m c : Nat) (news : List Value) (hx : a.eval x = .slice (some ad) m c) (hl : news.length = m * size) (hnews : ∀ j u, news[j]? = some u → w.cell? (ad.add j) = some u) (h1 : ∀ u ∈ news, u.oneCell' = true)
    (h63 : n + m ≤ maxLen) (hbytes : (n + m) * bytes ≤ 140737488355328) (hbase : base ≤ w.heap.size)
    (h : ∀ v' w', w'.ownsRow base e size v' (n + m) (xs ++ news) → w.grownBy w' v.ownBlock → K (a.put o.dst v') w') :
    if Region.wanted o (yielded ops a.tmps) = true then Oper.wp P o a w K Q else E := by
  have hw : Region.wanted o (yielded ops a.tmps) = true := by simp [Region.wanted, hgd]
  rw [if_pos hw]
  obtain ⟨v', w', hr, h2, h3, -⟩ := run_append_own (P := P) w base t o.type e i z size bytes ht hi hz hsize hby hzs hsz v n xs hown ad m c news hl hnews h1 h63 hbytes hbase
  unfold Oper.wp execOp
  simp only [ho, resolve, invoke, builtin, Sem.run_bind, Sem.run_pure, Result.andThen_ok, List.map_toArray, List.map_cons, List.map_nil, hs, hx, hr]
  exact h v' w' h2 h3
theorem forgetIn {F : Fence} {n : Nat} {P : Program} {c : Code} {Q : Exit → Act → World → Prop} {a : Act} {w : World} (R : World → Prop) (h : R w) (hK : ∀ X, R X → c.wpIn F n P Q a X) : c.wpIn F n P Q a w := hK w h
/-- A list of numbers in memory. -/
def ic (l : List Nat) : List Value := l.map (fun x : Nat => Value.int .i64 (x : Int))
def IlB (B : Nat) (W : World) (v : Value) (l : List Nat) : Prop := W.ownsRow B 3 1 v l.length (ic l)
abbrev IlIn (W : World) (v : Value) (l : List Nat) : Prop := IlB 0 W v l
theorem IlB.zero {B : Nat} {W : World} {v : Value} {l : List Nat} (h : IlB B W v l) : IlIn W v l := by
  refine ⟨h.1, ?_⟩
  rcases h.2 with h0 | ⟨g, cap, cur, e, h1, h2⟩
  · exact .inl h0
  · exact .inr ⟨g, cap, cur, e, Nat.zero_le _, h2⟩
theorem IlB.keep {B : Nat} {W W' : World} {v : Value} {l : List Nat} (h : IlB B W v l) (hk : ∀ i, v.ownBlock = some i → W'.heap[i]? = W.heap[i]?) : IlB B W' v l := own_keep h hk
theorem IlB.under {B : Nat} {W W' : World} {v : Value} {l : List Nat} (h : IlB B W v l) (hb : Below W.heap.size W W') : IlB B W' v l := own_under h hb
theorem il_nil {B : Nat} (W : World) : IlB B W (.slice none 0 0) [] := ⟨rfl, .inl ⟨rfl, rfl⟩⟩
theorem il_one {B : Nat} (W : World) (x : Nat) (hB : B ≤ W.heap.size := by exact Nat.zero_le _) : IlB B (W.alloc (.cells #[.int .i64 (x : Int)] 3)) (.slice (some ⟨W.heap.size, 0, none⟩) 1 1) [x] :=
  ⟨rfl, .inr ⟨W.heap.size, 1, #[.int .i64 (x : Int)], rfl, hB, World.alloc_heap_new W _, Nat.le_refl _, by unfold maxLen; omega, rfl, rfl⟩⟩
theorem il_row {B : Nat} {W : World} {v : Value} {l : List Nat} (h : IlB B W v l) {i : Nat} (hi : v.ownBlock = some i) : ∃ cur, W.heap[i]? = some (.cells cur 3 (0, 0)) := by
  rcases h.2 with ⟨rfl, -⟩ | ⟨g, cap, cur, rfl, h1, h2, h3⟩
  · cases hi
  · cases hi
    exact ⟨cur, h2⟩
theorem il_cells {B : Nat} {W : World} {g n c : Nat} {l : List Nat} (h : IlB B W (.slice (some ⟨g, 0, none⟩) n c) l) (j : Nat) (u : Value) (hj : (ic l)[j]? = some u) : W.cell? ((⟨g, 0, none⟩ : Addr).add j) = some u := by
  rcases h.2 with ⟨e, -⟩ | ⟨g', cap, cur, e, h1, h2, h3, h4, h5, h6⟩
  · cases e
  · injection e with e1 e2 e3
    injection e1 with e1
    injection e1 with e1
    subst e1
    rw [Addr.add_lit, Nat.zero_add]
    have h7 : W.cell? ⟨g, j, none⟩ = cur[j]? := by simp [World.cell?, h2]
    have hlt := (List.getElem?_eq_some_iff.1 hj).1
    rw [h7, ← hj, ← h6, List.getElem?_take, Array.getElem?_toList, if_pos (by have e9 : (ic l).length = l.length * 1 := h.1; omega)]
theorem il_some {B : Nat} {W : World} {v : Value} {l : List Nat} (h : IlB B W v l) (hp : 0 < l.length) : ∃ g c, v = .slice (some ⟨g, 0, none⟩) l.length c := by
  rcases h.2 with ⟨e, h0⟩ | ⟨g, cap, cur, e, -⟩
  · omega
  · exact ⟨g, cap, e⟩
theorem ic_one (l : List Nat) : ∀ u ∈ ic l, u.oneCell' = true := by
  intro u hu
  obtain ⟨x, -, rfl⟩ := List.mem_map.1 hu
  rfl
/-- A list of numbers stays when a cell of a block of another type is stored. -/
theorem IlB.set {B : Nat} {W : World} {v : Value} {l : List Nat} (h : IlB B W v l) {g : Nat} {t : TypeId} {cs : Array Value} (hr : Row W g t cs) (ht : t ≠ 3) (j : Nat) (u : Value) : IlB B (W.setCell ⟨g, j, none⟩ u) v l :=
  h.keep fun i hi => Below.heap_setCell W ⟨g, j, none⟩ u i (fun e => by
    obtain ⟨cur, hc⟩ := il_row h hi
    have e' : i = g := e
    rw [e'] at hc
    have := hc.symm.trans hr
    injection this with this
    injection this with _ this
    exact ht this.symm)
/-- The numbers of sightings. -/
def ixs (L : List Sg) (l : List Nat) : List Nat := l.map (fun j => ((L[j]?).map Sg.ix).getD 0)
/-- What is plausible among sightings. -/
noncomputable def pL (h : Int) (L : List Sg) (i j : Nat) : Bool := match L[i]?, L[j]? with
  | some x, some y => pls h x y
  | _, _ => false
theorem pL_at {h : Int} {L : List Sg} {i j : Nat} (hi : i < L.length) (hj : j < L.length) : pL h L i j = pls h L[i] L[j] := by
  unfold pL
  rw [List.getElem?_eq_getElem hi, List.getElem?_eq_getElem hj]
/-- What chain answers. -/
def ChO (h : Int) (L : List Sg) (w : World) (e : Ending) (w' : World) : Prop := ∃ l v, Best L.length (pL h L) l ∧ e = .returned v ∧ IlB w.heap.size w' v (ixs L l) ∧ Below w.heap.size w w'
/-- A list in the place of another. -/
def upd (ll : Nat → List Nat) (i : Nat) (l : List Nat) (j : Nat) : List Nat := if j = i then l else ll j
/-- What is known between the rounds: the lists, and the best of them. -/
structure Cs (w : World) (v : Value) (h : Int) (n : Nat) (ll : Nat → List Nat) (bl : List Nat) (bv : Value) (cs : Array Value) (W : World) : Prop where
  below : Below w.heap.size w W
  r2 : Row W w.heap.size 63 #[v]
  r3 : Row W (w.heap.size + 1) 3 #[.int .i64 h]
  r5 : Row W (w.heap.size + 1 + 1) 23 #[bv]
  rf : Row W (w.heap.size + 1 + 1 + 1) 23 cs
  r6 : Row W (w.heap.size + 1 + 1 + 1 + 1) 78 #[.slice (some ⟨w.heap.size + 1 + 1 + 1, 0, none⟩) n n]
  rB : Row W (w.heap.size + 1 + 1 + 1 + 1 + 1) 63 #[v]
  sz : cs.size = n
  fr : ∀ j, j < n → ∃ u, cs[j]? = some u ∧ IlB w.heap.size W u (ll j)
  best : IlB w.heap.size W bv bl
  len : ∀ j, j < n → (ll j).length ≤ n - j
  bln : bl.length ≤ n
section
variable {w W W' : World} {v : Value} {h : Int} {n : Nat} {ll : Nat → List Nat} {bl : List Nat} {bv : Value} {cs : Array Value}
theorem Cs.under (H : Cs w v h n ll bl bv cs W) (hb : Below W.heap.size W W') : Cs w v h n ll bl bv cs W' :=
  ⟨H.below.trans (hb.mono H.below.size), H.r2.under hb, H.r3.under hb, H.r5.under hb, H.rf.under hb, H.r6.under hb, H.rB.under hb, H.sz,
    fun j h2 => by obtain ⟨u, e, hu⟩ := H.fr j h2; exact ⟨u, e, hu.under hb⟩, H.best.under hb, H.len, H.bln⟩
theorem il_turn {B : Nat} {u : Value} {l : List Nat} {row : Option Nat} (hi : IlB B W u l) (hg : W.grownBy W' row) (ho : ∀ r, row = some r → ∃ o : Obj, W.heap[r]? = some o ∧ o.isCells = false) : IlB B W' u l :=
  hi.keep fun i e => by
    obtain ⟨cur, hc⟩ := il_row hi e
    refine hg.block i (Array.getElem?_eq_some_iff.1 hc).1 (fun e' => ?_)
    obtain ⟨o, h1, h2⟩ := ho i e'.symm
    have := h1.symm.trans hc
    injection this with this
    subst this
    cases h2
theorem Cs.turn (H : Cs w v h n ll bl bv cs W) {row : Option Nat} (hg : W.grownBy W' row) (hw : ∀ r, row = some r → w.heap.size ≤ r) (ho : ∀ r, row = some r → ∃ o : Obj, W.heap[r]? = some o ∧ o.isCells = false) : Cs w v h n ll bl bv cs W' :=
  ⟨H.below.grown hg H.below.size hw, row_turn H.r2 hg ho, row_turn H.r3 hg ho, row_turn H.r5 hg ho, row_turn H.rf hg ho, row_turn H.r6 hg ho, row_turn H.rB hg ho, H.sz,
    fun j h2 => by obtain ⟨u, e, hu⟩ := H.fr j h2; exact ⟨u, e, il_turn hu hg ho⟩, il_turn H.best hg ho, H.len, H.bln⟩
theorem Cs.put (H : Cs w v h n ll bl bv cs W) {i : Nat} (hi : i < n) {u : Value} {l : List Nat} (hu : IlB w.heap.size W u l) (hl : l.length ≤ n - i) :
    Cs w v h n (upd ll i l) bl bv (cs.setIfInBounds i u) (W.setCell ⟨w.heap.size + 1 + 1 + 1, i, none⟩ u) := by
  refine ⟨H.below.setCell (p := ⟨w.heap.size + 1 + 1 + 1, i, none⟩) (by simp only; omega) u, H.r2.far (p := ⟨w.heap.size + 1 + 1 + 1, i, none⟩) (by simp only; omega) u, H.r3.far (p := ⟨w.heap.size + 1 + 1 + 1, i, none⟩) (by simp only; omega) u, H.r5.far (p := ⟨w.heap.size + 1 + 1 + 1, i, none⟩) (by simp only; omega) u, H.rf.put i u, H.r6.far (p := ⟨w.heap.size + 1 + 1 + 1, i, none⟩) (by simp only; omega) u, H.rB.far (p := ⟨w.heap.size + 1 + 1 + 1, i, none⟩) (by simp only; omega) u, by simpa using H.sz, fun j hj => ?_, H.best.set H.rf (by decide) i u, fun j hj => ?_, H.bln⟩
  · by_cases hji : j = i
    · subst hji
      exact ⟨u, by rw [Array.getElem?_setIfInBounds, if_pos rfl, if_pos (by rw [H.sz]; exact hj)], by unfold upd; rw [if_pos rfl]; exact hu.set H.rf (by decide) j u⟩
    · obtain ⟨u', e, hu'⟩ := H.fr j hj
      exact ⟨u', by rw [Array.getElem?_setIfInBounds, if_neg (fun e => hji e.symm)]; exact e, by unfold upd; rw [if_neg hji]; exact hu'.set H.rf (by decide) i u⟩
  · unfold upd
    by_cases hji : j = i
    · subst hji
      rw [if_pos rfl]; exact hl
    · rw [if_neg hji]; exact H.len j hj
theorem Cs.putBest (H : Cs w v h n ll bl bv cs W) {u : Value} {l : List Nat} (hu : IlB w.heap.size W u l) (hl : l.length ≤ n) :
    Cs w v h n ll l u cs (W.setCell ⟨w.heap.size + 1 + 1, 0, none⟩ u) := by
  refine ⟨H.below.setCell (p := ⟨w.heap.size + 1 + 1, 0, none⟩) (by simp only; omega) u, H.r2.far (p := ⟨w.heap.size + 1 + 1, 0, none⟩) (by simp only; omega) u, H.r3.far (p := ⟨w.heap.size + 1 + 1, 0, none⟩) (by simp only; omega) u, H.r5.put 0 u, H.rf.far (p := ⟨w.heap.size + 1 + 1, 0, none⟩) (by simp only; omega) u, H.r6.far (p := ⟨w.heap.size + 1 + 1, 0, none⟩) (by simp only; omega) u, H.rB.far (p := ⟨w.heap.size + 1 + 1, 0, none⟩) (by simp only; omega) u, H.sz, fun j hj => ?_, hu.set H.r5 (by decide) 0 u, H.len, hl⟩
  obtain ⟨u', e, hu'⟩ := H.fr j hj
  exact ⟨u', e, hu'.set H.r5 (by decide) 0 u⟩
end
theorem keepsFrom_below {B : Nat} {W W' : World} (h : Below W.heap.size W W') : KeepsFrom B W W' := ⟨h.size, fun k _ _ hk _ => (h.block k (Array.getElem?_eq_some_iff.1 hk).1).trans hk⟩
/-- What is known inside a round. -/
structure Bd (w W : World) (N : Nat) (v : Value) (h : Int) (n : Nat) (ll : Nat → List Nat) (bl : List Nat) (bv : Value) (cs : Array Value) (g8 : Nat) (c8 : Array Value) (Y : World) : Prop where
  cs : Cs w v h n ll bl bv cs Y
  r8 : Row Y g8 74 c8
  lo : w.heap.size + 1 + 1 + 1 + 1 + 1 + 1 ≤ g8
  kf : KeepsFrom N W Y
  kq : Kq (bkP (w.heap.size + 1 + 1 + 1 + 1 + 1) w.heap.size v) W Y
section
variable {w W Y Y' : World} {N : Nat} {v : Value} {h : Int} {n : Nat} {ll : Nat → List Nat} {bl : List Nat} {bv : Value} {cs : Array Value} {g8 : Nat} {c8 : Array Value}
theorem Bd.under (H : Bd w W N v h n ll bl bv cs g8 c8 Y) (hb : Below Y.heap.size Y Y') : Bd w W N v h n ll bl bv cs g8 c8 Y' :=
  ⟨H.cs.under hb, H.r8.under hb, H.lo, H.kf.trans (keepsFrom_below hb), H.kq.tr (fun i hi => hb.block i (by
    rcases hi with rfl | hi
    · exact H.cs.rB.lt
    · exact Nat.lt_of_lt_of_le hi.1 H.cs.below.size))⟩
theorem kq_set (x : Nat) (hx : x ≠ w.heap.size + 1 + 1 + 1 + 1 + 1) (hx2 : w.heap.size ≤ x) (j : Nat) (u : Value) : Kq (bkP (w.heap.size + 1 + 1 + 1 + 1 + 1) w.heap.size v) Y (Y.setCell ⟨x, j, none⟩ u) := fun i hi =>
  Below.heap_setCell Y ⟨x, j, none⟩ u i (by
    rcases hi with rfl | hi
    · exact fun e => hx e.symm
    · intro e
      have e' : i = x := e
      omega)
theorem Bd.put (H : Bd w W N v h n ll bl bv cs g8 c8 Y) {i : Nat} (hi : i < n) {u : Value} {l : List Nat} (hu : IlB w.heap.size Y u l) (hl : l.length ≤ n - i) :
    Bd w W N v h n (upd ll i l) bl bv (cs.setIfInBounds i u) g8 c8 (Y.setCell ⟨w.heap.size + 1 + 1 + 1, i, none⟩ u) :=
  ⟨H.cs.put hi hu hl, H.r8.far (p := ⟨w.heap.size + 1 + 1 + 1, i, none⟩) (by have := H.lo; simp only; omega) u, H.lo, H.kf.trans ((KeepsOthers.setCell _ _ _).from _), H.kq.tr (kq_set _ (by omega) (by omega) i u)⟩
theorem Bd.putBest (H : Bd w W N v h n ll bl bv cs g8 c8 Y) {u : Value} {l : List Nat} (hu : IlB w.heap.size Y u l) (hl : l.length ≤ n) :
    Bd w W N v h n ll l u cs g8 c8 (Y.setCell ⟨w.heap.size + 1 + 1, 0, none⟩ u) :=
  ⟨H.cs.putBest hu hl, H.r8.far (p := ⟨w.heap.size + 1 + 1, 0, none⟩) (by have := H.lo; simp only; omega) u, H.lo, H.kf.trans ((KeepsOthers.setCell _ _ _).from _), H.kq.tr (kq_set _ (by omega) (by omega) 0 u)⟩
/-- A list that was appended to is stored. -/
theorem Bd.grow (H : Bd w W N v h n ll bl bv cs g8 c8 Y) {gw i : Nat} {cw : Array Value} (hr : Row Y gw 3 cw) (hg : Y.grownBy Y' (some gw)) (h6 : w.heap.size + 1 + 1 + 1 + 1 + 1 + 1 ≤ gw) (h8 : gw ≠ g8) (hfr : ∀ j, j < n → j ≠ i → ∀ u, cs[j]? = some u → u.ownBlock ≠ some gw) (hbv : bv.ownBlock ≠ some gw)
    (hi : i < n) {u : Value} {l : List Nat} (hu : IlB w.heap.size Y' u l) (hl : l.length ≤ n - i) : Bd w W N v h n (upd ll i l) bl bv (cs.setIfInBounds i u) g8 c8 (Y'.setCell ⟨w.heap.size + 1 + 1 + 1, i, none⟩ u) := by
  have far : ∀ {x : Nat} {t : TypeId} {c : Array Value}, x ≠ gw → Row Y x t c → Row Y' x t c := fun hx hr => hr.grown hg (fun e => hx (by injection e))
  have hcs := H.cs
  have rf' := far (x := w.heap.size + 1 + 1 + 1) (by omega) hcs.rf
  have il : ∀ {u' : Value} {l' : List Nat}, u'.ownBlock ≠ some gw → IlB w.heap.size Y u' l' → IlB w.heap.size Y' u' l' := fun hne hil => hil.keep fun b hb => hg.block b (own_lt hil hb).2 (fun e => hne (by rw [hb]; exact e))
  have mid : Cs w v h n (upd ll i l) bl bv (cs.setIfInBounds i u) (Y'.setCell ⟨w.heap.size + 1 + 1 + 1, i, none⟩ u) := by
    refine ⟨(hcs.below.grown hg hcs.below.size (fun k e => by injection e with e; omega)).setCell (p := ⟨w.heap.size + 1 + 1 + 1, i, none⟩) (by simp only; omega) u, (far (by omega) hcs.r2).far (p := ⟨w.heap.size + 1 + 1 + 1, i, none⟩) (by simp only; omega) u, (far (by omega) hcs.r3).far (p := ⟨w.heap.size + 1 + 1 + 1, i, none⟩) (by simp only; omega) u, (far (by omega) hcs.r5).far (p := ⟨w.heap.size + 1 + 1 + 1, i, none⟩) (by simp only; omega) u, rf'.put i u, (far (by omega) hcs.r6).far (p := ⟨w.heap.size + 1 + 1 + 1, i, none⟩) (by simp only; omega) u, (far (by omega) hcs.rB).far (p := ⟨w.heap.size + 1 + 1 + 1, i, none⟩) (by simp only; omega) u, by simpa using hcs.sz, fun j hj => ?_, (il hbv hcs.best).set rf' (by decide) i u, fun j hj => ?_, hcs.bln⟩
    · by_cases hji : j = i
      · subst hji
        exact ⟨u, by rw [Array.getElem?_setIfInBounds, if_pos rfl, if_pos (by rw [hcs.sz]; exact hj)], by unfold upd; rw [if_pos rfl]; exact hu.set rf' (by decide) j u⟩
      · obtain ⟨u', e, hu'⟩ := hcs.fr j hj
        exact ⟨u', by rw [Array.getElem?_setIfInBounds, if_neg (fun e => hji e.symm)]; exact e, by unfold upd; rw [if_neg hji]; exact (il (hfr j hj hji u' e) hu').set rf' (by decide) i u⟩
    · unfold upd
      by_cases hji : j = i
      · subst hji
        rw [if_pos rfl]; exact hl
      · rw [if_neg hji]; exact hcs.len j hj
  refine ⟨mid, (far (fun e => h8 e.symm) H.r8).far (p := ⟨w.heap.size + 1 + 1 + 1, i, none⟩) (by have := H.lo; simp only; omega) u, H.lo, (H.kf.trans ⟨hg.size, fun k o _ hk ho => ?_⟩).trans ((KeepsOthers.setCell _ _ _).from _), (H.kq.tr (fun b hb => hg.block b ?_ ?_)).tr (kq_set _ (by omega) (by omega) i u)⟩
  · by_cases hkg : k = gw
    · subst hkg
      have := hk.symm.trans hr
      injection this with this
      subst this
      cases ho
    · exact (hg.block k (Array.getElem?_eq_some_iff.1 hk).1 (fun e => hkg (by injection e))).trans hk
  · rcases hb with rfl | hb
    · exact hcs.rB.lt
    · exact Nat.lt_of_lt_of_le hb.1 hcs.below.size
  · intro e
    injection e with e
    rcases hb with rfl | hb
    · omega
    · have := hb.1; omega
theorem upd_ne {i j : Nat} {l : List Nat} (hj : j ≠ i) : upd ll i l j = ll j := by unfold upd; rw [if_neg hj]
theorem upd_eq {i : Nat} {l : List Nat} : upd ll i l i = l := by unfold upd; rw [if_pos rfl]
theorem upd_upd {i : Nat} {l l' : List Nat} : upd (upd ll i l) i l' = upd ll i l' := by
  funext j
  unfold upd
  by_cases h : j = i
  · rw [if_pos h, if_pos h]
  · rw [if_neg h, if_neg h, if_neg h]
end
theorem pre_split {n : Nat} {pre : List (Fin n)} {x : Fin n} (hlen : pre.length < n) (h : (pre ++ [x]).map (·.1) = downTo n (n - (pre ++ [x]).length)) : pre.map (·.1) = downTo n (n - pre.length) ∧ n - pre.length = x.1 + 1 ∧ n - (pre ++ [x]).length = x.1 := by
  have e : n - (pre ++ [x]).length = n - pre.length - 1 := by simp; omega
  rw [e, downTo_step (show n - pre.length - 1 < n by omega), show n - pre.length - 1 + 1 = n - pre.length by omega, List.map_append] at h
  obtain ⟨h1, h2⟩ := List.append_inj' h rfl
  injection h2 with h2
  simp only at h2
  exact ⟨h1, by omega, by rw [e]; omega⟩
/-- What a round does with the lists. -/
def StepR (n : Nat) (P : Nat → Nat → Bool) (x : Nat → Nat) (i : Nat) (ll : Nat → List Nat) (bl : List Nat) (l : List Nat) : Prop :=
  (l = [x i] ∧ ∀ j, i < j → j < n → P i j = true → ¬ (0 < (ll j).length ∧ (ll j).length ≤ bl.length)) ∨
  ∃ j, (i < j ∧ j < n ∧ P i j = true ∧ 0 < (ll j).length ∧ (ll j).length ≤ bl.length) ∧ (∀ k, i < k → k < n → P i k = true → (ll k).length ≤ bl.length → (ll k).length ≤ (ll j).length) ∧ (∀ k, i < k → k < j → P i k = true → (ll k).length ≠ (ll j).length) ∧ l = x i :: ll j
/-- The lists are the best chains from k on. -/
def Cor (n : Nat) (P : Nat → Nat → Bool) (x : Nat → Nat) (k : Nat) (ll : Nat → List Nat) (bl : List Nat) : Prop :=
  (∀ j, k ≤ j → j < n → ll j = (chn n P j).map x) ∧ ((k = n ∧ bl = []) ∨ ∃ s, Bs n P k s ∧ bl = (chn n P s).map x)
theorem cor_step {n : Nat} {P : Nat → Nat → Bool} {x : Nat → Nat} {i : Nat} {ll : Nat → List Nat} {bl l : List Nat} (hi : i < n) (hC : Cor n P x (i + 1) ll bl) (hS : StepR n P x i ll bl l) :
    Cor n P x i (upd ll i l) (if bl.length ≤ l.length then l else bl) := by
  obtain ⟨h1, h2⟩ := hC
  have hlen : ∀ j, i < j → j < n → (ll j).length = ln n P j := fun j hj1 hj2 => by rw [h1 j hj1 hj2, List.length_map]; unfold chn; exact chf_len n P _ _
  have hbl : ∀ j, i < j → j < n → ln n P j ≤ bl.length := fun j hj1 hj2 => by
    rcases h2 with ⟨e, -⟩ | ⟨s, hs, rfl⟩
    · omega
    · rw [List.length_map]; unfold chn; rw [chf_len]; exact hs.2.1 j hj1 hj2
  have hll : l = (chn n P i).map x := by
    rcases hS with ⟨rfl, hno⟩ | ⟨j, ⟨j1, j2, j3, j4, j5⟩, hmx, hlt, rfl⟩
    · have : ln n P i = 1 := by
        rcases (ln_mx (P := P) hi).2.1 with e | ⟨k, k1, k2, k3, -⟩
        · exact e
        · exact absurd ⟨by rw [hlen k k1 k2]; exact ln_pos k2, by rw [hlen k k1 k2]; exact hbl k k1 k2⟩ (hno k k1 k2 k3)
      rw [chn_one this]; rfl
    · have e : ln n P j + 1 = ln n P i := by
        refine ln_is hi (fun _ _ _ => rfl) ⟨fun k k1 k2 k3 => ?_, .inr ⟨j, j1, j2, j3, rfl⟩, by omega⟩
        have := hmx k k1 k2 k3 (by rw [hlen k k1 k2]; exact hbl k k1 k2)
        rw [hlen k k1 k2, hlen j j1 j2] at this
        omega
      rw [chn_cons j1 j2 j3 e (fun k k1 k2 ⟨k3, k4⟩ => hlt k k1 k2 k3 (by rw [hlen k k1 (by omega), hlen j j1 j2]; omega)), List.map_cons, h1 j j1 j2]
  have hli : l.length = ln n P i := by rw [hll, List.length_map]; unfold chn; exact chf_len n P _ _
  refine ⟨fun j hj1 hj2 => ?_, ?_⟩
  · unfold upd
    by_cases hji : j = i
    · subst hji; rw [if_pos rfl]; exact hll
    · rw [if_neg hji]; exact h1 j (by omega) hj2
  · rcases h2 with ⟨e, rfl⟩ | ⟨s, hs, rfl⟩
    · rw [if_pos (show ([] : List Nat).length ≤ l.length from Nat.zero_le _)]
      have hin : i = n - 1 := by omega
      exact .inr ⟨i, by rw [hin]; exact bs_last (by omega), hll⟩
    · have hsl : ((chn n P s).map x).length = ln n P s := by rw [List.length_map]; unfold chn; exact chf_len n P _ _
      by_cases hle : ln n P s ≤ ln n P i
      · rw [if_pos (by rw [hsl, hli]; exact hle)]
        exact .inr ⟨i, (bs_step hs).1 hle, hll⟩
      · rw [if_neg (by rw [hsl, hli]; exact hle)]
        exact .inr ⟨s, (bs_step hs).2 hle, rfl⟩
set_option maxRecDepth 100000 in
set_option maxHeartbeats 8000000 in
theorem chain_any (v : Value) (L : List Sg) (h : Int) (w : World) (hL : SgIn w v L) (hl : L.length ≤ 100000) (hG : ∀ x ∈ L, Gd x) (hh : 0 ≤ h ∧ h ≤ 1000) :
    Calls Tryz.prog 36 #[v, .int .i64 h] w (ChO h L w) := by
  have hLL := hL
  obtain ⟨A, cap, hv, hc1, hc2, hat⟩ := hL
  subst hv
  have HL := Lib.hid hLL
  have HGD := Lib.hid hG
  clear hLL hat hG
  have hmk := run_make_row' (P := Tryz.prog) 78 23 (.slice none 0 0) 24 Tryz.underlying78 infoList rfl .i64 .i64 L.length (by omega) (by omega)
  refine (callsIn_wide (n := 3)).1 ?_
  refine callsIn_of_wp_marks Tryz.func36 rfl trivial ?_ rfl
  simp only [Tryz.ntmps36, List.size_toArray, List.length_cons, List.length_nil, Nat.reduceAdd, Nat.reduceSub, Array.replicate_succ, Array.replicate_zero, List.push_toArray, List.append_toArray, List.nil_append, List.cons_append]
  gi_wp2_with (refine ⟨trivial, ?_⟩; gi_at_call 53; refine (backward_any _ _ _ _ _).mono ?_; rintro e w' ⟨rfl, rfl⟩)
  have hW : Cs w (.slice A L.length cap) h L.length (fun _ => []) [] (.slice none 0 0) (madeCells #[.slice none 0 0] L.length) ((((((w.alloc (.cells #[.slice A L.length cap] 63)).alloc (.cells #[.int .i64 h] 3)).alloc (.cells #[.slice none 0 0] 23)).alloc (.cells (madeCells #[.slice none 0 0] L.length) 23)).alloc (.cells #[.slice (some ⟨w.heap.size + 1 + 1 + 1, 0, none⟩) L.length L.length] 78)).alloc (.cells #[.slice A L.length cap] 63)) :=
    ⟨((((((Below.refl w.heap.size w).alloc (Nat.le_refl _) _).alloc (by simp) _).alloc (by simp; omega) _).alloc (by simp; omega) _).alloc (by simp; omega) _).alloc (by simp; omega) _,
      (((((Row.new _ _ _).alloc _).alloc _).alloc _).alloc _).alloc _, ((((Row.newAt (by simp)).alloc _).alloc _).alloc _).alloc _, (((Row.newAt (by simp)).alloc _).alloc _).alloc _, ((Row.newAt (by simp)).alloc _).alloc _, (Row.newAt (by simp)).alloc _, Row.newAt (by simp),
      size_madeCells _ _, fun j hj => ⟨.slice none 0 0, by simp [madeCells, hj, Nat.mod_one], il_nil _⟩, il_nil _, fun j hj => Nat.zero_le _, Nat.zero_le _⟩
  have hsz : w.heap.size + 1 + 1 + 1 + 1 + 1 + 1 = (((((((w.alloc (.cells #[.slice A L.length cap] 63)).alloc (.cells #[.int .i64 h] 3)).alloc (.cells #[.slice none 0 0] 23)).alloc (.cells (madeCells #[.slice none 0 0] L.length) 23)).alloc (.cells #[.slice (some ⟨w.heap.size + 1 + 1 + 1, 0, none⟩) L.length L.length] 78)).alloc (.cells #[.slice A L.length cap] 63))).heap.size := by simp
  clear hmk
  generalize ((((((w.alloc (.cells #[.slice A L.length cap] 63)).alloc (.cells #[.int .i64 h] 3)).alloc (.cells #[.slice none 0 0] 23)).alloc (.cells (madeCells #[.slice none 0 0] L.length) 23)).alloc (.cells #[.slice (some ⟨w.heap.size + 1 + 1 + 1, 0, none⟩) L.length L.length] 78)).alloc (.cells #[.slice A L.length cap] 63)) = W6 at *
  have HW := Lib.hid hW
  have hL6 := Lib.hid (HL.out.under hW.below)
  have HLB := Lib.hid (show 0 < L.length → ∀ i, (Value.slice A L.length cap).ownBlock = some i → i < w.heap.size from fun h0 i hi => by
    obtain ⟨A', cap', e, -, -, h4⟩ := HL.out
    injection e with e1 e2 e3
    subst e1
    obtain ⟨g, e, hg, -⟩ := h4 0 h0
    subst e
    cases hi
    exact hg)
  refine wpIn_rangeFunc_ownH rfl (by omega) (gf := 71) (lb := #[.pointer (some ⟨w.heap.size + 1 + 1 + 1 + 1 + 1, 0, none⟩)]) rfl trivial (enters_of Tryz.func71 (by kernel_rfl) rfl)
    (back_stops (3 - 1) (by omega) (w.heap.size + 1 + 1 + 1 + 1 + 1) w.heap.size (.slice A L.length cap) L W6 HLB.out HW.out.rB.lt ((HW.out.rB.cell 0).trans rfl) hL6.out hl) (fun h k => h.tr k)
    (fun W l o o' hl' ho hoc _ i hi => World.putObj_heap_other (by
      rintro rfl
      rcases hi with rfl | hi
      · omega
      · have := hi.1; omega)) (Below.refl _ _) (fun _ => rfl)
    (fun pre W => ∃ ll bl bv cs, Cs w (.slice A L.length cap) h L.length ll bl bv cs W ∧ (pre.map (·.1) = downTo L.length (L.length - pre.length) → Cor L.length (pL h L) (fun j => ((L[j]?).map Sg.ix).getD 0) (L.length - pre.length) ll bl))
    (fun _ _ _ => False)
    (fun s W W' row hs hg hr => by
      obtain ⟨ll, bl, bv, cs, h1, h2⟩ := hs
      exact ⟨ll, bl, bv, cs, h1.turn hg (fun r e => by have := (hr r e).1; omega) (fun r e => (hr r e).2), h2⟩)
    (fun _ _ _ _ _ hs _ _ => hs)
    ⟨_, _, _, _, hW, fun _ => ⟨fun j h1 h2 => by simp at h1; omega, .inl ⟨by simp, rfl⟩⟩⟩
    (BoxAx (w.heap.size + 1 + 1 + 1 + 1 + 1 + 1) 74 (fun x : Fin L.length => #[.string L[x].nm, .int .i64 L[x].t, .int .i64 (L[x].nd : Nat), .int .i64 (L[x].ix : Int)]) ?acts) (boxAx_own _)
    ?assign ?body ?done ?stop
  case assign =>
    rintro l pre x W K ⟨ll, bl, bv, cs, h1, h2⟩ hK
    have hb : Below W.heap.size W (W.alloc (.cells #[.string L[x].nm, .int .i64 L[x].t, .int .i64 (L[x].nd : Nat), .int .i64 (L[x].ix : Nat)] 74)) := (Below.refl _ _).alloc (Nat.le_refl _) _
    have HC := Lib.hid (h1.under hb)
    have HR := Lib.hid (Row.new W #[.string L[x].nm, .int .i64 L[x].t, .int .i64 (L[x].nd : Nat), .int .i64 (L[x].ix : Nat)] 74)
    have HKF := Lib.hid (show KeepsFrom W6.heap.size W (W.alloc (.cells #[.string L[x].nm, .int .i64 L[x].t, .int .i64 (L[x].nd : Nat), .int .i64 (L[x].ix : Nat)] 74)) from (KeepsOthers.alloc _ _).from _)
    have HKQ := Lib.hid (show Kq (bkP (w.heap.size + 1 + 1 + 1 + 1 + 1) w.heap.size (.slice A L.length cap)) W (W.alloc (.cells #[.string L[x].nm, .int .i64 L[x].t, .int .i64 (L[x].nd : Nat), .int .i64 (L[x].ix : Nat)] 74)) from fun i hi => hb.block i (by
      rcases hi with rfl | hi
      · exact h1.rB.lt
      · exact Nat.lt_of_lt_of_le hi.1 h1.below.size))
    have hlt := h1.rB.lt
    gi_wp2
    generalize hg8 : W.heap.size = g8 at HR ⊢
    refine hK _ _ HKF.out HKQ.out ⟨ll, bl, bv, cs, HC.out, h2⟩ ?_
    unfold BoxAx
    refine ⟨g8, ?_, HR.out, by omega⟩
    exact rfl
  case body =>
    rintro l pre x a' W hlB - ⟨ll, bl, bv, cs, h1, h2⟩ ⟨g8, rfl, r8, hg8⟩ hlen
    obtain ⟨i, hi⟩ := x
    have hGi := Lib.hid (HGD.out L[i] (List.getElem_mem hi))
    simp only [Fin.getElem_fin] at r8 ⊢
    have HX := Lib.hid (show L[i] = L[i] from rfl)
    generalize hsx : L[i] = sx at r8 hGi
    obtain ⟨sn, st, sd, si⟩ := sx
    simp only at r8
    have HSX := Lib.hid hsx
    clear hsx HX
    have HC0 := Lib.hid h1
    have HR0 := Lib.hid r8
    obtain ⟨e0, e1, e2, e3⟩ := row4 r8
    have c6 := (h1.r6.cell 0).trans rfl
    have ff := h1.rf.thaw i
    obtain ⟨u0, hu0, -⟩ := h1.fr i hi
    have cf := (h1.rf.cell i).trans hu0
    have i0 : (0 : Int) ≤ (i : Int) := by omega
    have i1 : (i : Int) < (L.length : Int) := by omega
    have hltf := h1.rf.lt
    clear r8 h1 hu0
    gi_wp2
    refine wpIn_scope ?_
    gi_wp2
    refine wpIn_label ?_
    have HXI := Lib.hid (show (fun j => ((L[j]?).map Sg.ix).getD 0) i = si from by simp only; rw [List.getElem?_eq_getElem hi, HSX.out]; rfl)
    have HST := Lib.hid (show ∀ l', StepR L.length (pL h L) (fun j => ((L[j]?).map Sg.ix).getD 0) i ll bl l' → ((pre ++ [(⟨i, hi⟩ : Fin L.length)]).map (·.1) = downTo L.length (L.length - (pre ++ [(⟨i, hi⟩ : Fin L.length)]).length) → Cor L.length (pL h L) (fun j => ((L[j]?).map Sg.ix).getD 0) (L.length - (pre ++ [(⟨i, hi⟩ : Fin L.length)]).length) (upd ll i l') (if bl.length ≤ l'.length then l' else bl)) from fun l' hS hp => by
      obtain ⟨a1, a2, a3⟩ := pre_split hlen hp
      rw [a3]
      exact cor_step hi (by have h9 := h2 a1; rw [a2] at h9; exact h9) hS)
    have HB0 := Lib.hid (show Bd w W W6.heap.size (.slice A L.length cap) h L.length ll bl bv cs g8 #[.string sn, .int .i64 st, .int .i64 (sd : Nat), .int .i64 (si : Nat)] W from ⟨HC0.out, HR0.out, hg8, KeepsFrom.refl _ _, fun _ _ => rfl⟩)
    have HBS := Lib.hid (show w.heap.size ≤ W.heap.size from HB0.out.cs.below.size)
    have HB1 := Lib.hid ((HB0.out.under ((Below.refl _ _).alloc (Nat.le_refl _) (.cells #[.int .i64 (si : Nat)] 3))).put hi (il_one W si HBS.out) (by show 1 ≤ L.length - i; omega))
    rw [World.setCell_alloc_past _ _ _ _ hltf] at HB1
    have HOLD := Lib.hid (show ((∀ k, k < L.length → k ≠ i → ∀ u, (cs.setIfInBounds i (.slice (some ⟨W.heap.size, 0, none⟩) 1 1))[k]? = some u → u.ownBlock ≠ some W.heap.size) ∧ bv.ownBlock ≠ some W.heap.size) ∧ (cs.setIfInBounds i (.slice (some ⟨W.heap.size, 0, none⟩) 1 1))[i]? = some (.slice (some ⟨W.heap.size, 0, none⟩) 1 1) ∧ w.heap.size + 1 + 1 + 1 + 1 + 1 + 1 ≤ W.heap.size ∧ W.heap.size ≠ g8 from by
      refine ⟨⟨fun k hk hki u hu hb => ?_, fun hb => ?_⟩, ?_, ?_, ?_⟩
      · rw [Array.getElem?_setIfInBounds, if_neg (fun e => hki e.symm)] at hu
        obtain ⟨u', e', hu'⟩ := HC0.out.fr k hk
        rw [hu] at e'
        injection e' with e'
        subst e'
        have := (own_lt hu' hb).2
        omega
      · have := (own_lt HC0.out.best hb).2
        omega
      · rw [Array.getElem?_setIfInBounds, if_pos rfl, if_pos (by rw [HC0.out.sz]; exact hi)]
      · have := HC0.out.rB.lt; omega
      · have := HR0.out.lt; omega)
    clear HC0 HR0
    gi_upto_region 7 with fail
    refine forgetIn (fun Y => Hid (Bd w W W6.heap.size (.slice A L.length cap) h L.length (upd ll i [si]) bl bv (cs.setIfInBounds i (.slice (some ⟨W.heap.size, 0, none⟩) 1 1)) g8 #[.string sn, .int .i64 st, .int .i64 (sd : Nat), .int .i64 (si : Nat)] Y)) HB1 ?_
    clear HB1 HB0 e0 e1 e2 e3 c6 ff cf hltf
    generalize cs.setIfInBounds i (.slice (some ⟨W.heap.size, 0, none⟩) 1 1) = cs1 at *
    generalize W.heap.size = gw at HOLD
    intro Y HB
    obtain ⟨Ab, cb, hbv⟩ := own_form HB.out.cs.best
    subst hbv
    have c5 := (HB.out.cs.r5.cell 0).trans rfl
    have b0 : (0 : Int) ≤ (bl.length : Int) := by omega
    gi_wp2
    clear c5
    gi_loopw [9] (fun t wr => ∃ m : Nat, t = .int .i64 m ∧ Hid ((m ≤ bl.length ∧ ∀ j, i < j → j < L.length → pL h L i j = true → (ll j).length ≤ bl.length → (ll j).length ≤ m) ∧ Bd w W W6.heap.size (.slice A L.length cap) h L.length (upd ll i [si]) bl (.slice Ab bl.length cb) cs1 g8 #[.string sn, .int .i64 st, .int .i64 (sd : Nat), .int .i64 (si : Nat)] wr)) (fun t _ => (intOf t).toNat)
    case atStart => exact ⟨bl.length, rfl, Lib.hid ⟨⟨Nat.le_refl _, fun j _ _ _ hj => hj⟩, HB.out⟩⟩
    case round =>
      clear HB
      obtain ⟨m, rfl, HM⟩ := hrel
      rcases Nat.eq_zero_or_pos m with hm | hm
      · subst hm
        have hz : ¬ (0 : Int) < ((0 : Nat) : Int) := by omega
        have HE := Lib.hid HM.out.2
        have HNF := Lib.hid (show ∀ j, i < j → j < L.length → pL h L i j = true → ¬ (0 < (ll j).length ∧ (ll j).length ≤ bl.length) from fun j j1 j2 j3 j4 => by have := HM.out.1.2 j j1 j2 j3 j4.2; omega)
        clear HM
        gi_upto_region 15 with fail
        obtain ⟨ui, hui, hil⟩ := HE.out.cs.fr i hi
        rw [upd_eq] at hil
        obtain ⟨Au, cu, hue⟩ := own_form hil
        subst hue
        have HIL := Lib.hid hil
        have HLP := Lib.hid (show ([si]).length ≤ L.length from by show 1 ≤ _; omega)
        have HSR := Lib.hid (HST.out ([si]) (.inl ⟨congrArg (fun z => [z]) HXI.out.symm, HNF.out⟩))
        clear hil
        have HN := Lib.hid (show ([si]).length = ([si]).length from rfl)
        generalize hnl : ([si]).length = nl at hui HIL HN HLP
        have HNL := Lib.hid hnl
        clear hnl
        have c6 := (HE.out.cs.r6.cell 0).trans rfl
        have c5 := (HE.out.cs.r5.cell 0).trans rfl
        have cfi := (HE.out.cs.rf.cell i).trans hui
        refine region_round (S := fun w' : World => w'.cell? ⟨w.heap.size + 1 + 1 + 1 + 1, 0, none⟩ = some (.slice (some ⟨w.heap.size + 1 + 1 + 1, 0, none⟩) L.length L.length) ∧ w'.cell? ⟨w.heap.size + 1 + 1 + 1, i, none⟩ = some (.slice Au nl cu) ∧ w'.cell? ⟨w.heap.size + 1 + 1, 0, none⟩ = some (.slice Ab bl.length cb)) (by kernel_rfl) (by kernel_rfl) (by rintro ⟨_, _, h⟩; exact h) ⟨c6, cfi, c5⟩ (fun hHeld => ?_)
        clear c5 c6 cfi
        refine tk 0 (oi := ⟨some 66, _, _, _, _, none⟩) rfl ?_
        try go_frame
        refine tk 1 (oi := ⟨some 67, _, _, _, _, none⟩) rfl ?_
        try go_frame
        refine tk 2 (oi := ⟨some 68, _, _, _, _, none⟩) rfl ?_
        try go_frame
        refine tk 3 (oi := ⟨some 69, _, _, _, _, none⟩) rfl ?_
        try go_frame
        refine tk 4 (oi := ⟨some 70, _, _, _, _, none⟩) rfl ?_
        try go_frame
        refine tk 5 (oi := ⟨some 71, _, _, _, _, none⟩) rfl ?_
        try go_frame
        refine tk 6 (oi := ⟨some 72, _, _, _, _, none⟩) rfl ?_
        try go_frame
        refine tk 7 (oi := ⟨some 73, _, _, _, _, none⟩) rfl ?_
        try go_frame
        refine wpAnyH_done (by kernel_rfl) ?_ _
        have HD := Lib.hid (show ∀ W : World, Below W.heap.size W W.drew from fun _ => ⟨rfl, rfl, rfl, Nat.le_refl _, fun _ _ => rfl⟩)
        have HE2 := Lib.hid (HE.out.under (HD.out _))
        have HIL2 := Lib.hid (HIL.out.under (HD.out _))
        clear HE HIL hHeld HD
        by_cases hge : bl.length ≤ nl
        · have hge' : (bl.length : Int) ≤ (nl : Int) := by omega
          have c6 := (HE2.out.cs.r6.cell 0).trans rfl
          have c5 := (HE2.out.cs.r5.cell 0).trans rfl
          have f5 := HE2.out.cs.r5.thaw 0
          have cfi := (HE2.out.cs.rf.cell i).trans hui
          have HF := Lib.hid (HE2.out.putBest HIL2.out (by have := HLP.out; have := HNL.out; omega))
          clear hui HE2 HIL2
          gi_wp2
          exact ⟨HF.out.kf, HF.out.kq, _, _, _, _, HF.out.cs, fun hp => by have h9 := HSR.out hp; rwa [if_pos (by rw [HNL.out]; exact hge)] at h9⟩
        · have hge' : ¬ (bl.length : Int) ≤ (nl : Int) := by omega
          gi_wp2
          exact ⟨HE2.out.kf, HE2.out.kq, _, _, _, _, HE2.out.cs, fun hp => by have h9 := HSR.out hp; rwa [if_neg (by rw [HNL.out]; exact hge)] at h9⟩
      · have hz : (0 : Int) < (m : Int) := by omega
        have wi : IntKind.i64.wrap ((i : Int) + 1) = (i : Int) + 1 := IntWalk.i64_in _ (by omega)
        gi_wp2
        gi_loopw [10] (fun t wr => ∃ j : Nat, t = .int .i64 j ∧ Hid ((i < j ∧ j ≤ L.length ∧ ∀ k, i < k → k < j → pL h L i k = true → (ll k).length ≠ m) ∧ Bd w W W6.heap.size (.slice A L.length cap) h L.length (upd ll i [si]) bl (.slice Ab bl.length cb) cs1 g8 #[.string sn, .int .i64 st, .int .i64 (sd : Nat), .int .i64 (si : Nat)] wr)) (fun t _ => L.length - (intOf t).toNat)
        case atStart => exact ⟨i + 1, by go_num, Lib.hid ⟨⟨by omega, by omega, fun k k1 k2 => by omega⟩, HM.out.2⟩⟩
        case round =>
          obtain ⟨j, rfl, HJ⟩ := hrel
          by_cases hjn : j < L.length
          · have hij := HJ.out.1.1
            obtain ⟨uj, huj, hilj⟩ := HJ.out.2.cs.fr j hjn
            rw [upd_ne (by omega)] at hilj
            obtain ⟨Aj, cj, hue⟩ := own_form hilj
            subst hue
            obtain ⟨A', cap', eA0, -, -, hat'⟩ := HL.out
            obtain ⟨g, eA', hgl, q0, q1, q2, q3⟩ := hat' j hjn
            have eA := Lib.hid (show A = some ⟨g, 0, none⟩ by injection eA0 with e1; rw [e1, eA'])
            clear eA0 eA' hat'
            have HPJ := Lib.hid (show pL h L i j = pls h L[i] L[j] from pL_at hi hjn)
            rw [HSX.out] at HPJ
            have HGj := Lib.hid (HGD.out L[j] (List.getElem_mem hjn))
            generalize hsj : L[j] = sj at q0 q1 q2 q3 HPJ HGj
            obtain ⟨tn, tt, td, ti⟩ := sj
            simp only at q0 q1 q2 q3
            clear hsj
            have j0 : (0 : Int) ≤ (j : Int) := by omega
            have j1 : (j : Int) < (L.length : Int) := by omega
            have wj : IntKind.i64.wrap ((j : Int) + 1) = (j : Int) + 1 := IntWalk.i64_in _ (by omega)
            have HQ := Lib.hid HJ.out.2
            have c2 := (HQ.out.cs.r2.cell 0).trans rfl
            gi_upto_region 13 with fail
            clear c2
            have hS0 := Lib.hid (show (wr.drew.cell? ⟨w.heap.size + 1 + 1 + 1 + 1, 0, none⟩ = some (.slice (some ⟨w.heap.size + 1 + 1 + 1, 0, none⟩) L.length L.length) ∧ wr.drew.cell? ⟨w.heap.size + 1 + 1 + 1, j, none⟩ = some (.slice Aj (ll j).length cj)) ∧ (wr.drew.cell? ⟨g8, 0, none⟩ = some (.string sn) ∧ wr.drew.cell? ⟨g8, 1, none⟩ = some (.int .i64 st) ∧ wr.drew.cell? ⟨g8, 2, none⟩ = some (.int .i64 (sd : Nat)) ∧ wr.drew.cell? ⟨g8, 3, none⟩ = some (.int .i64 (si : Nat))) ∧ (wr.drew.cell? ⟨w.heap.size, 0, none⟩ = some (.slice (some ⟨g, 0, none⟩) L.length cap) ∧ wr.drew.cell? ⟨w.heap.size + 1, 0, none⟩ = some (.int .i64 h)) ∧ wr.drew.cell? ⟨g, j * 4, none⟩ = some (.string tn) ∧ wr.drew.cell? ⟨g, j * 4 + 1, none⟩ = some (.int .i64 tt) ∧ wr.drew.cell? ⟨g, j * 4 + 2, none⟩ = some (.int .i64 (td : Nat)) ∧ wr.drew.cell? ⟨g, j * 4 + 3, none⟩ = some (.int .i64 (ti : Nat)) from ⟨⟨(HQ.out.cs.r6.cell 0).trans rfl, (HQ.out.cs.rf.cell j).trans huj⟩, row4 HQ.out.r8, ⟨(HQ.out.cs.r2.cell 0).trans (by rw [eA.out]; rfl), (HQ.out.cs.r3.cell 0).trans rfl⟩, (HQ.out.cs.below.cell (p := ⟨g, j * 4, none⟩) hgl).trans q0, (HQ.out.cs.below.cell (p := ⟨g, j * 4 + 1, none⟩) hgl).trans q1, (HQ.out.cs.below.cell (p := ⟨g, j * 4 + 2, none⟩) hgl).trans q2, (HQ.out.cs.below.cell (p := ⟨g, j * 4 + 3, none⟩) hgl).trans q3⟩)
            refine region_round (S := fun w' : World => (w'.cell? ⟨w.heap.size + 1 + 1 + 1 + 1, 0, none⟩ = some (.slice (some ⟨w.heap.size + 1 + 1 + 1, 0, none⟩) L.length L.length) ∧ w'.cell? ⟨w.heap.size + 1 + 1 + 1, j, none⟩ = some (.slice Aj (ll j).length cj)) ∧ (w'.cell? ⟨g8, 0, none⟩ = some (.string sn) ∧ w'.cell? ⟨g8, 1, none⟩ = some (.int .i64 st) ∧ w'.cell? ⟨g8, 2, none⟩ = some (.int .i64 (sd : Nat)) ∧ w'.cell? ⟨g8, 3, none⟩ = some (.int .i64 (si : Nat))) ∧ (w'.cell? ⟨w.heap.size, 0, none⟩ = some (.slice (some ⟨g, 0, none⟩) L.length cap) ∧ w'.cell? ⟨w.heap.size + 1, 0, none⟩ = some (.int .i64 h)) ∧ w'.cell? ⟨g, j * 4, none⟩ = some (.string tn) ∧ w'.cell? ⟨g, j * 4 + 1, none⟩ = some (.int .i64 tt) ∧ w'.cell? ⟨g, j * 4 + 2, none⟩ = some (.int .i64 (td : Nat)) ∧ w'.cell? ⟨g, j * 4 + 3, none⟩ = some (.int .i64 (ti : Nat))) (by kernel_rfl) (by kernel_rfl) (by rintro ⟨_, _, h⟩; exact h) hS0.out (fun hHeld => ?_)
            clear hS0
            have HD := Lib.hid (show ∀ W : World, Below W.heap.size W W.drew from fun _ => ⟨rfl, rfl, rfl, Nat.le_refl _, fun _ _ => rfl⟩)
            by_cases hlm : (ll j).length = m
            · have HLM := Lib.hid hlm
              have hd1 : decide (((ll j).length : Int) = (m : Int)) = true := decide_eq_true (by omega)
              have hd2 : decide ((ll j).length = m) = true := decide_eq_true hlm
              have hd3 : (((ll j).length : Int) == (m : Int)) = true := by rw [beq_iff_eq]; omega
              clear hlm
              refine tk 0 (oi := ⟨some 38, _, _, _, _, none⟩) rfl ?_
              try go_frame
              refine tk 1 (oi := ⟨some 39, _, _, _, _, none⟩) rfl ?_
              try go_frame
              refine tk 2 (oi := ⟨some 40, _, _, _, _, none⟩) rfl ?_
              try go_frame
              refine tk 3 (oi := ⟨some 41, _, _, _, _, none⟩) rfl ?_
              try go_frame
              refine tk 4 (oi := ⟨some 42, _, _, _, _, none⟩) rfl ?_
              try go_frame
              refine tk 5 (oi := ⟨some 43, _, _, _, _, none⟩) rfl ?_
              try go_frame
              refine tk 6 (oi := ⟨some 44, _, _, _, _, none⟩) rfl ?_
              try go_frame
              refine tk 7 (oi := ⟨some 45, _, _, _, _, none⟩) rfl ?_
              try go_frame
              refine tk 8 (oi := ⟨some 46, _, _, _, _, some _⟩) rfl ?_
              try go_frame
              refine tk 9 (oi := ⟨some 47, _, _, _, _, some _⟩) rfl ?_
              try go_frame
              refine tk 10 (oi := ⟨some 48, _, _, _, _, some _⟩) rfl ?_
              try go_frame
              refine tk 11 (oi := ⟨some 49, _, _, _, _, some _⟩) rfl ?_
              try go_frame
              refine tk 12 (oi := ⟨some 50, _, _, _, _, some _⟩) rfl ?_
              try go_frame
              refine tk 13 (oi := ⟨some 51, _, _, _, _, some _⟩) rfl ?_
              try go_frame
              clear hd1 hd2 hd3
              refine wpAnyH_ready (rs := [14]) (by kernel_rfl) (by simp) ?_
              refine AllReadyH.cons (o := ⟨some 52, _, _, _, _, some _⟩) rfl (fun K hK => ?_) AllReadyH.nil
              go_simp
              refine (plausible_any sn st sd si tn tt td ti h _ hGi.out HGj.out hh).mono ?_
              rintro e w3 ⟨rfl, hb3⟩
              have HQ2 := Lib.hid ((HQ.out.under (HD.out _)).under hb3)
              have hilj2 := Lib.hid ((hilj.under (HD.out _)).under hb3)
              clear hb3 HQ hilj hHeld
              go_wp2 
              refine hK.out _ _ (⟨⟨(HQ2.out.cs.r6.cell 0).trans rfl, (HQ2.out.cs.rf.cell j).trans huj⟩, row4 HQ2.out.r8, ⟨(HQ2.out.cs.r2.cell 0).trans (by rw [eA.out]; rfl), (HQ2.out.cs.r3.cell 0).trans rfl⟩, (HQ2.out.cs.below.cell (p := ⟨g, j * 4, none⟩) hgl).trans q0, (HQ2.out.cs.below.cell (p := ⟨g, j * 4 + 1, none⟩) hgl).trans q1, (HQ2.out.cs.below.cell (p := ⟨g, j * 4 + 2, none⟩) hgl).trans q2, (HQ2.out.cs.below.cell (p := ⟨g, j * 4 + 3, none⟩) hgl).trans q3⟩) (fun hHeld => ?_)
              clear hK K
              try go_frame
              have HPJ2 := HPJ
              generalize pls h ⟨sn, st, sd, si⟩ ⟨tn, tt, td, ti⟩ = pb at HPJ2 ⊢
              clear HPJ
              refine tk 15 (oi := ⟨some 53, _, _, _, _, none⟩) rfl ?_
              try go_frame
              refine wpAnyH_done (by kernel_rfl) ?_ _
              clear hHeld
              cases pb
              · have HJ2 := Lib.hid (show i < j + 1 ∧ j + 1 ≤ L.length ∧ ∀ k, i < k → k < j + 1 → pL h L i k = true → (ll k).length ≠ m from ⟨by omega, by omega, fun k k1 k2 k3 => by
                  rcases (by omega : k < j ∨ k = j) with h | rfl
                  · exact HJ.out.1.2.2 k k1 h k3
                  · rw [HPJ2.out] at k3; cases k3⟩)
                clear HJ huj hilj2 HPJ2
                gi_wp2
                go_roundw
                case rel => exact ⟨j + 1, by go_num, Lib.hid ⟨HJ2.out, HQ2.out⟩⟩
                case measure => simp [intOf]; omega
              · have hpos : 0 < (ll j).length := by have := HLM.out; omega
                have HLJ := Lib.hid (show (ll j).length ≤ L.length - j from by have h9 := HQ2.out.cs.len j hjn; rwa [upd_ne (by omega)] at h9)
                have HSF := Lib.hid (show StepR L.length (pL h L) (fun j => ((L[j]?).map Sg.ix).getD 0) i ll bl (si :: ll j) from .inr ⟨j, ⟨hij, hjn, HPJ2.out, hpos, by have := HM.out.1.1; have := HLM.out; omega⟩, fun k k1 k2 k3 k4 => by have := HM.out.1.2 k k1 k2 k3 k4; have := HLM.out; omega, fun k k1 k2 k3 => by have := HJ.out.1.2.2 k k1 k2 k3; have := HLM.out; omega, congrArg (fun z => z :: ll j) HXI.out.symm⟩)
                obtain ⟨gj, cj', hue⟩ := il_some hilj2.out hpos
                injection hue with hAj hn' hcj
                subst hAj
                obtain ⟨i0', hi', hz0, hz1, hz2⟩ := info_parts infoInt0
                clear hn' hcj HM HJ HPJ2 HGj q0 q1 q2 q3
                gi_upto_region 14 with fail
                have c6 := (HQ2.out.cs.r6.cell 0).trans rfl
                have cj0 := (HQ2.out.cs.rf.cell j).trans huj
                refine region_round (S := fun w' : World => w'.cell? ⟨w.heap.size + 1 + 1 + 1 + 1, 0, none⟩ = some (.slice (some ⟨w.heap.size + 1 + 1 + 1, 0, none⟩) L.length L.length) ∧ w'.cell? ⟨w.heap.size + 1 + 1 + 1, j, none⟩ = some (.slice (some ⟨gj, 0, none⟩) (ll j).length cj)) (by kernel_rfl) (by kernel_rfl) (by rintro ⟨_, _, h⟩; exact h) ⟨c6, cj0⟩ (fun hHeld => ?_)
                clear c6 cj0
                have HQ3 := Lib.hid (HQ2.out.under (HD.out _))
                have HIJ := Lib.hid (hilj2.out.under (HD.out _))
                clear HQ2 hilj2
                refine genH (fun X => Bd w W W6.heap.size (.slice A L.length cap) h L.length (upd ll i [si]) bl (.slice Ab bl.length cb) cs1 g8 #[.string sn, .int .i64 st, .int .i64 (sd : Nat), .int .i64 (si : Nat)] X ∧ IlB w.heap.size X (.slice (some ⟨gj, 0, none⟩) (ll j).length cj) (ll j)) ⟨HQ3.out, HIJ.out⟩ ?_
                clear HQ3 HIJ hHeld
                rintro X ⟨hQ3, hIJ⟩
                have HQ3 := Lib.hid hQ3
                have HIJ := Lib.hid hIJ
                clear hQ3 hIJ
                have hS0 := Lib.hid (show ∀ Z, Cs w (.slice A L.length cap) h L.length (upd ll i [si]) bl (.slice Ab bl.length cb) cs1 Z → Z.cell? ⟨w.heap.size + 1 + 1 + 1 + 1, 0, none⟩ = some (.slice (some ⟨w.heap.size + 1 + 1 + 1, 0, none⟩) L.length L.length) ∧ Z.cell? ⟨w.heap.size + 1 + 1 + 1, j, none⟩ = some (.slice (some ⟨gj, 0, none⟩) (ll j).length cj) from fun Z hZ => ⟨(hZ.r6.cell 0).trans rfl, (hZ.rf.cell j).trans huj⟩)
                have hHeld := hS0.out X HQ3.out.cs
                refine tk 0 (oi := ⟨some 54, _, _, _, _, none⟩) rfl ?_
                try go_frame
                refine tk 1 (oi := ⟨some 55, _, _, _, _, none⟩) rfl ?_
                try go_frame
                refine tk 2 (oi := ⟨some 56, _, _, _, _, none⟩) rfl ?_
                try go_frame
                refine tk 3 (oi := ⟨some 57, _, _, _, _, none⟩) rfl ?_
                try go_frame
                refine tk 4 (oi := ⟨some 58, _, _, _, _, none⟩) rfl ?_
                try go_frame
                refine tk 6 (oi := ⟨some 60, _, _, _, _, none⟩) rfl ?_
                try go_frame
                refine tk 7 (oi := ⟨some 61, _, _, _, _, none⟩) rfl ?_
                try go_frame
                refine tk 8 (oi := ⟨some 62, _, _, _, _, none⟩) rfl ?_
                try go_frame
                refine tk 9 (oi := ⟨some 63, _, _, _, _, none⟩) rfl ?_
                try go_frame
                refine wpAnyH_ready (rs := [5]) (by kernel_rfl) (by simp) ?_
                refine AllReadyH.cons (o := ⟨some 59, _, _, _, _, none⟩) rfl (fun K hK => ?_) AllReadyH.nil
                have cfi := (HQ3.out.cs.rf.cell i).trans HOLD.out.2.1
                go_simp
                refine hK.out _ _ hHeld (fun _ => ?_)
                clear hK K cfi
                try go_frame
                refine wpAnyH_ready (rs := [10]) (by kernel_rfl) (by simp) ?_
                refine AllReadyH.cons (o := ⟨some 64, _, _, _, _, none⟩) rfl (fun K hK => ?_) AllReadyH.nil
                obtain ⟨uo, huo, hilo⟩ := HQ3.out.cs.fr i hi
                obtain rfl : uo = .slice (some ⟨gw, 0, none⟩) 1 1 := by rw [HOLD.out.2.1] at huo; injection huo with huo; exact huo.symm
                rw [upd_eq] at hilo
                obtain ⟨cw, hcw⟩ := il_row hilo rfl
                refine step_append_own rfl (.tmp 59) (.tmp 63) 23 rfl w.heap.size 3 i0' (.int .i64 0) 1 8 Tryz.underlying23 hi' hz0 hz1 hz2 rfl (by decide) (.slice (some ⟨gw, 0, none⟩) 1 1) 1 (ic [si]) rfl hilo ⟨gj, 0, none⟩ (ll j).length cj (ic (ll j)) rfl (by simp [ic]) (il_cells HIJ.out) (ic_one _) (by have := HLJ.out; unfold maxLen; omega) (by have := HLJ.out; omega) HQ3.out.cs.below.size ?_
                intro v' Y' hown' hgr'
                have hvl : IlB w.heap.size Y' v' (si :: ll j) := by
                  have e9 : (si :: ll j).length = 1 + (ll j).length := by rw [List.length_cons]; omega
                  unfold IlB
                  rw [e9]
                  exact hown'
                have HE0 := Lib.hid (HQ3.out.grow hcw hgr' HOLD.out.2.2.1 HOLD.out.2.2.2 HOLD.out.1.1 HOLD.out.1.2 hi hvl (by have := HLJ.out; rw [List.length_cons]; omega))
                have hrr : ∀ {x : Nat} {t : TypeId} {c : Array Value}, x ≠ gw → Row X x t c → Row Y' x t c := fun hx hr => hr.grown hgr' (fun e => hx (by injection e))
                have R6 := hrr (by have := HOLD.out.2.2.1; omega) HQ3.out.cs.r6
                have RF := hrr (by have := HOLD.out.2.2.1; omega) HQ3.out.cs.rf
                have hS1 := Lib.hid (show Y'.cell? ⟨w.heap.size + 1 + 1 + 1 + 1, 0, none⟩ = some (.slice (some ⟨w.heap.size + 1 + 1 + 1, 0, none⟩) L.length L.length) ∧ Y'.cell? ⟨w.heap.size + 1 + 1 + 1, j, none⟩ = some (.slice (some ⟨gj, 0, none⟩) (ll j).length cj) from ⟨(R6.cell 0).trans rfl, (RF.cell j).trans huj⟩)
                have cfz := RF.thaw i
                have cfi := (RF.cell i).trans HOLD.out.2.1
                obtain ⟨Av, cv, hve⟩ := own_form hvl
                subst hve
                clear hown' hgr' hvl hcw hilo huo HQ3 HIJ hrr R6 RF
                refine hK.out _ _ hS1.out (fun _ => ?_)
                clear hK K hHeld
                try go_frame
                have hHeld := hS1.out
                refine tk 11 (oi := ⟨some 65, _, _, _, _, none⟩) rfl ?_
                try go_frame
                refine wpAnyH_ready (rs := [12]) (by kernel_rfl) (by simp) ?_
                refine AllReadyH.cons (o := ⟨none, _, _, _, _, none⟩) rfl (fun K hK => ?_) AllReadyH.nil
                go_simp
                have cj2 : (cs1.setIfInBounds i (.slice Av (si :: ll j).length cv))[j]? = some (.slice (some ⟨gj, 0, none⟩) (ll j).length cj) := by rw [Array.getElem?_setIfInBounds, if_neg (by omega)]; exact huj
                refine hK.out _ _ ⟨(HE0.out.cs.r6.cell 0).trans rfl, (HE0.out.cs.rf.cell j).trans cj2⟩ (fun _ => ?_)
                clear hK K hHeld cfz cfi cj2 hS1 hS0
                try go_frame
                refine wpAnyH_done (by kernel_rfl) ?_ _
                gi_upto_region 15 with fail
                refine forgetIn (fun Z => Hid (Bd w W W6.heap.size (.slice A L.length cap) h L.length (upd ll i (si :: ll j)) bl (.slice Ab bl.length cb) (cs1.setIfInBounds i (.slice Av (si :: ll j).length cv)) g8 #[.string sn, .int .i64 st, .int .i64 (sd : Nat), .int .i64 (si : Nat)] Z)) (Lib.hid (by have h9 := HE0.out; rwa [upd_upd] at h9)) ?_
                clear HE0
                generalize cs1.setIfInBounds i (.slice Av (si :: ll j).length cv) = cs2 at *
                intro Z HE
                obtain ⟨ui, hui, hil⟩ := HE.out.cs.fr i hi
                rw [upd_eq] at hil
                obtain ⟨Au, cu, hue⟩ := own_form hil
                subst hue
                have HIL := Lib.hid hil
                have HLP := Lib.hid (show (si :: ll j).length ≤ L.length from by have := HLJ.out; show (ll j).length + 1 ≤ _; omega)
                have HSR := Lib.hid (HST.out (si :: ll j) HSF.out)
                clear hil
                have HN := Lib.hid (show (si :: ll j).length = (si :: ll j).length from rfl)
                generalize hnl : (si :: ll j).length = nl at hui HIL HN HLP
                have HNL := Lib.hid hnl
                clear hnl
                have c6 := (HE.out.cs.r6.cell 0).trans rfl
                have c5 := (HE.out.cs.r5.cell 0).trans rfl
                have cfi := (HE.out.cs.rf.cell i).trans hui
                refine region_round (S := fun w' : World => w'.cell? ⟨w.heap.size + 1 + 1 + 1 + 1, 0, none⟩ = some (.slice (some ⟨w.heap.size + 1 + 1 + 1, 0, none⟩) L.length L.length) ∧ w'.cell? ⟨w.heap.size + 1 + 1 + 1, i, none⟩ = some (.slice Au nl cu) ∧ w'.cell? ⟨w.heap.size + 1 + 1, 0, none⟩ = some (.slice Ab bl.length cb)) (by kernel_rfl) (by kernel_rfl) (by rintro ⟨_, _, h⟩; exact h) ⟨c6, cfi, c5⟩ (fun hHeld => ?_)
                clear c5 c6 cfi
                refine tk 0 (oi := ⟨some 66, _, _, _, _, none⟩) rfl ?_
                try go_frame
                refine tk 1 (oi := ⟨some 67, _, _, _, _, none⟩) rfl ?_
                try go_frame
                refine tk 2 (oi := ⟨some 68, _, _, _, _, none⟩) rfl ?_
                try go_frame
                refine tk 3 (oi := ⟨some 69, _, _, _, _, none⟩) rfl ?_
                try go_frame
                refine tk 4 (oi := ⟨some 70, _, _, _, _, none⟩) rfl ?_
                try go_frame
                refine tk 5 (oi := ⟨some 71, _, _, _, _, none⟩) rfl ?_
                try go_frame
                refine tk 6 (oi := ⟨some 72, _, _, _, _, none⟩) rfl ?_
                try go_frame
                refine tk 7 (oi := ⟨some 73, _, _, _, _, none⟩) rfl ?_
                try go_frame
                refine wpAnyH_done (by kernel_rfl) ?_ _
                have HD := Lib.hid (show ∀ W : World, Below W.heap.size W W.drew from fun _ => ⟨rfl, rfl, rfl, Nat.le_refl _, fun _ _ => rfl⟩)
                have HE2 := Lib.hid (HE.out.under (HD.out _))
                have HIL2 := Lib.hid (HIL.out.under (HD.out _))
                clear HE HIL hHeld HD
                by_cases hge : bl.length ≤ nl
                · have hge' : (bl.length : Int) ≤ (nl : Int) := by omega
                  have c6 := (HE2.out.cs.r6.cell 0).trans rfl
                  have c5 := (HE2.out.cs.r5.cell 0).trans rfl
                  have f5 := HE2.out.cs.r5.thaw 0
                  have cfi := (HE2.out.cs.rf.cell i).trans hui
                  have HF := Lib.hid (HE2.out.putBest HIL2.out (by have := HLP.out; have := HNL.out; omega))
                  clear hui HE2 HIL2
                  gi_wp2
                  exact ⟨HF.out.kf, HF.out.kq, _, _, _, _, HF.out.cs, fun hp => by have h9 := HSR.out hp; rwa [if_pos (by rw [HNL.out]; exact hge)] at h9⟩
                · have hge' : ¬ (bl.length : Int) ≤ (nl : Int) := by omega
                  gi_wp2
                  exact ⟨HE2.out.kf, HE2.out.kq, _, _, _, _, HE2.out.cs, fun hp => by have h9 := HSR.out hp; rwa [if_neg (by rw [HNL.out]; exact hge)] at h9⟩
            · have hlm1 : ¬ ((ll j).length : Int) = (m : Int) := by omega
              have hlm2 : (((ll j).length : Int) == (m : Int)) = false := beq_eq_false_iff_ne.2 hlm1
              refine tk 0 (oi := ⟨some 38, _, _, _, _, none⟩) rfl ?_
              try go_frame
              refine tk 1 (oi := ⟨some 39, _, _, _, _, none⟩) rfl ?_
              try go_frame
              refine tk 2 (oi := ⟨some 40, _, _, _, _, none⟩) rfl ?_
              try go_frame
              refine tk 3 (oi := ⟨some 41, _, _, _, _, none⟩) rfl ?_
              try go_frame
              refine tk 4 (oi := ⟨some 42, _, _, _, _, none⟩) rfl ?_
              try go_frame
              refine tk 5 (oi := ⟨some 43, _, _, _, _, none⟩) rfl ?_
              try go_frame
              refine tk 6 (oi := ⟨some 44, _, _, _, _, none⟩) rfl ?_
              try go_frame
              refine tk 7 (oi := ⟨some 45, _, _, _, _, none⟩) rfl ?_
              try go_frame
              refine sk 8 (oi := ⟨some 46, _, _, _, _, some _⟩) rfl ?_
              try go_frame
              refine sk 9 (oi := ⟨some 47, _, _, _, _, some _⟩) rfl ?_
              try go_frame
              refine sk 10 (oi := ⟨some 48, _, _, _, _, some _⟩) rfl ?_
              try go_frame
              refine sk 11 (oi := ⟨some 49, _, _, _, _, some _⟩) rfl ?_
              try go_frame
              refine sk 12 (oi := ⟨some 50, _, _, _, _, some _⟩) rfl ?_
              try go_frame
              refine sk 13 (oi := ⟨some 51, _, _, _, _, some _⟩) rfl ?_
              try go_frame
              refine sk 14 (oi := ⟨some 52, _, _, _, _, some _⟩) rfl ?_
              try go_frame
              refine tk 15 (oi := ⟨some 53, _, _, _, _, none⟩) rfl ?_
              try go_frame
              refine wpAnyH_done (by kernel_rfl) ?_ _
              have HQ2 := Lib.hid (HQ.out.under (HD.out _))
              have HJ2 := Lib.hid (show i < j + 1 ∧ j + 1 ≤ L.length ∧ ∀ k, i < k → k < j + 1 → pL h L i k = true → (ll k).length ≠ m from ⟨by omega, by omega, fun k k1 k2 k3 => by
                rcases (by omega : k < j ∨ k = j) with h | rfl
                · exact HJ.out.1.2.2 k k1 h k3
                · exact hlm⟩)
              clear HQ HJ hHeld hilj huj
              gi_wp2
              go_roundw
              case rel => exact ⟨j + 1, by go_num, Lib.hid ⟨HJ2.out, HQ2.out⟩⟩
              case measure => simp [intOf]; omega
          · have jn : ¬ (j : Int) < (L.length : Int) := by omega
            have c2 := (HJ.out.2.cs.r2.cell 0).trans rfl
            have HM2 := Lib.hid (show m - 1 ≤ bl.length ∧ ∀ j, i < j → j < L.length → pL h L i j = true → (ll j).length ≤ bl.length → (ll j).length ≤ m - 1 from ⟨by have := HM.out.1.1; omega, fun k k1 k2 k3 k4 => by
              have h1 := HM.out.1.2 k k1 k2 k3 k4
              have h2 := HJ.out.1.2.2 k k1 (by omega) k3
              omega⟩)
            have HQ2 := Lib.hid HJ.out.2
            have wm : IntKind.i64.wrap ((m : Int) - 1) = (m : Int) - 1 := IntWalk.i64_in _ (by have := HM.out.1.1; have := HJ.out.2.cs.bln; omega)
            clear HJ HM
            gi_wp2
            go_roundw
            case rel => exact ⟨m - 1, by rw [show ((m - 1 : Nat) : Int) = (m : Int) - 1 by omega], Lib.hid ⟨HM2.out, HQ2.out⟩⟩
            case measure => simp [intOf]; omega
  case done =>
    rintro D ys W hD hys ⟨ll, bl, bv, cs, h1, h2⟩ hDD
    have hlen : ys.length = L.length := by
      have h9 := congrArg List.length hys
      rwa [List.length_map, downTo_len, Nat.sub_zero] at h9
    have hcor := Lib.hid (h2 (by rw [hys, hlen, Nat.sub_self]))
    have c5 := (h1.r5.cell 0).trans rfl
    have HC := Lib.hid h1
    have HD := Lib.hid hDD
    have HYS := Lib.hid (And.intro hlen hD)
    clear h1 h2 hys hlen hDD
    gi_wp2
    have HT := Lib.hid (HC.out.turn (grownBy_putObj' W D (.deferred none)) (fun r e => by have := HYS.out.2; injection e with e; omega) (fun r e => by cases e; exact ⟨_, HD.out, rfl⟩))
    have hBest : ∃ l, Best L.length (pL h L) l ∧ bl = ixs L l := by
      have h9 := hcor.out
      rw [HYS.out.1, Nat.sub_self] at h9
      rcases h9.2 with ⟨e, rfl⟩ | ⟨s, hs, rfl⟩
      · exact ⟨[], .inl ⟨e.symm, rfl⟩, rfl⟩
      · exact ⟨_, .inr ⟨s, hs, rfl⟩, rfl⟩
    obtain ⟨lb, hb1, rfl⟩ := hBest
    refine ⟨by simp, .inl ⟨_, _, rfl, run_takeDeferred HD.out, ?_⟩⟩
    exact ⟨bv, by simp [results, Tryz.results36, go_sem], ⟨lb, bv, hb1, rfl, HT.out.best, HT.out.below⟩⟩
  case stop =>
    rintro D c pre W _ _ hf _
    exact hf.elim
end Go.Proofs.YtejoabaanclcbaaGreat.Tk

