/- What the later laws share: a drawn choice, lists of reports changed and joined, suspects of two names. -/
import Derived.Test.YtejoabaanclcbaaGreatTkFb
namespace Go.Proofs.YtejoabaanclcbaaGreat.Tk
open Go.RowKit Go.Maps

set_option maxHeartbeats 400000 in
theorem pick_any (p : Int → Prop) (W : World) (b : Nat) (w : World) (g n c : Nat) (h : Src W b w) (n1 : 1 ≤ n) (n2 : n ≤ 1000) (hgb : g ≠ b) (hgl : g < w.heap.size)
    (hp : ∀ i, i < n → ∃ x, w.cell? ⟨g, i, none⟩ = some (.int .i64 x) ∧ p x) :
    Calls Tryz.prog 12 #[.pointer (some ⟨b, 0, none⟩), .slice (some ⟨g, 0, none⟩) n c] w (Reads p W b w) := by
  have HP := Lib.hid hp; clear hp
  go_enter Tryz.func12, Tryz.ntmps12
  go_wp2_with fail
  refine (n_any W b _ _ h (by omega) (by omega)).mono ?_
  rintro e w1 ⟨x, ⟨x1, x2⟩, rfl, hs, hg⟩
  obtain ⟨k, rfl⟩ := Int.eq_ofNat_of_zero_le x1
  obtain ⟨v, hv, hpv⟩ := HP.out k (by omega)
  have hc : w1.cell? ⟨g, k, none⟩ = some (.int .i64 v) := (World.cell?_of_block (hg.block g hgl (by simpa using hgb))).trans hv
  clear hv
  go_wp2_with fail
  go_ret
  exact ⟨v, hpv, rfl, hs, hg⟩
/-- APPEND TO AN OWNED ROW, NOTHING OR MORE, A LIST OR NONE, FOR THE WALK. -/
theorem wpList_append_any {P : Program} {ops : Array Oper} {rest : List Oper} {o : Oper} {a : Act} {w : World} {Q : Exit → Act → World → Prop} (hgd : o.guard = none) (s x : Operand) (t : TypeId)
    (ho : o.op = .call { callee := .builtin .append, args := #[s, x], argTypes := #[t, t] })
    (base : Nat) (e : TypeId) (i : TypeInfo) (z : Value) (size bytes : Nat) (ht : P.underlying t = some (.slice e)) (hi : P.info? e = some i) (hz : i.zero = some z)
    (hsize : i.size = size) (hby : i.bytes = bytes) (hzs : z.cells.size = size) (hsz : 0 < size)
    (v : Value) (n : Nat) (xs : List Value) (hs : a.eval s = v) (hown : w.ownsRow base e size v n xs)
    (m : Nat) (news : List Value) (v2 : Value) (b2 : Nat) (hx : a.eval x = v2) (hown2 : w.ownsRow b2 e size v2 m news) (h1 : ∀ u ∈ news, u.oneCell' = true)
    (h63 : n + m ≤ maxLen) (hbytes : (n + m) * bytes ≤ 140737488355328) (hbase : base ≤ w.heap.size)
    (h : ∀ v' w', w'.ownsRow base e size v' (n + m) (xs ++ news) → w.grownBy w' v.ownBlock → wpList P ops Q rest (a.put o.dst v') w') : wpList P ops Q (o :: rest) a w := by
  refine wpList_plain hgd fun _ hK => ?_
  have hlen := hown2.1
  rcases hown2.2 with ⟨rfl, rfl⟩ | ⟨g, cap, cur, rfl, k1, k2, k3, k4, k5, k6⟩
  · obtain rfl : news = [] := List.eq_nil_of_length_eq_zero (by rw [hlen, Nat.zero_mul])
    obtain ⟨A, c, rfl⟩ := own_form hown
    have hc : n ≤ c := by
      rcases hown.2 with ⟨e1, e2⟩ | ⟨g, cap, cur, e1, -, -, k3, -⟩
      · injection e1 with _ _ e3; omega
      · injection e1 with _ _ e3; omega
    have hr := run_append_nothing (P := P) w t t o.type e i ht hi A n c hc (.slice none 0 0) (Go.Src.ofNil w ht 0)
    unfold Oper.wp execOp
    simp only [ho, resolve, invoke, builtin, Sem.run_bind, Sem.run_pure, Result.andThen_ok, List.map_toArray, List.map_cons, List.map_nil, hs, hx, hr]
    exact hK _ _ (h _ _ (by simpa using hown) (grown_refl _ _))
  · obtain ⟨v', w', hr, h2, h3, -⟩ := run_append_own (P := P) w base t o.type e i z size bytes ht hi hz hsize hby hzs hsz v n xs hown ⟨g, 0, none⟩ m cap news hlen (fun j u hu => by
      have hj := (List.getElem?_eq_some_iff.1 hu).1
      rw [Addr.add_lit, Nat.zero_add]
      have e1 : w.cell? ⟨g, j, none⟩ = cur[j]? := by simp [World.cell?, k2]
      rw [e1, ← hu, ← k6, List.getElem?_take, if_pos (by omega), Array.getElem?_toList]) h1 h63 hbytes hbase
    unfold Oper.wp execOp
    simp only [ho, resolve, invoke, builtin, Sem.run_bind, Sem.run_pure, Result.andThen_ok, List.map_toArray, List.map_cons, List.map_nil, hs, hx, hr]
    exact hK _ _ (h v' w' h2 h3)
theorem rqc_set : ∀ (R : List Rq) (i : Nat) (h : i < R.length) (j : Nat) (u : Value) (r : Rq), rqCells r = (rqCells R[i]).set j u → j < 8 → (rqc R).set (i * 8 + j) u = rqc (R.set i r)
  | x :: l, 0, h, j, u, r, hr, hj => by
    show (rqCells x ++ rqc l).set (0 * 8 + j) u = rqCells r ++ rqc l
    rw [Nat.zero_mul, Nat.zero_add, List.set_append_left _ _ (by exact hj), hr]
    rfl
  | x :: l, i + 1, h, j, u, r, hr, hj => by
    have := rqc_set l i (by simpa using h) j u r (by simpa using hr) hj
    show (rqCells x ++ rqc l).set ((i + 1) * 8 + j) u = rqCells x ++ rqc (l.set i r)
    rw [List.set_append_right _ _ (by show 8 ≤ _; omega), show (i + 1) * 8 + j - (rqCells x).length = i * 8 + j by show (i + 1) * 8 + j - 8 = _; omega, this]
section
variable {w Y Y' : World} {R : List Rq} {u : Value}
theorem Lw.start2 {w1 : World} {n : Nat} {one : Bool} {e : Ending} (hs : Src w w.heap.size w1) (h : RpO w w.heap.size w1 n one e Y) : ∃ (R : List Rq) (u : Value) (m : Int), (RF one R m ∧ m ≤ 14000000 + 400 * R.length) ∧ R.length ≤ n ∧ e = .returned u ∧ Lw w R u Y ∧ w1.grownBy Y (some w.heap.size) ∧ ∀ j, u.ownBlock = some j → w1.heap.size ≤ j := by
  obtain ⟨R, u, m, h1, h2, h3, ⟨h4, h5⟩, base, h6, h7⟩ := h
  exact ⟨R, u, m, h1, h2, h3, ⟨h4, base, by have := src_at hs; omega, h7⟩, h5, fun j hj => Nat.le_trans h6 (own_lt h7 hj).1⟩
theorem Lw.lt (h : Lw w R u Y) {j : Nat} (hj : u.ownBlock = some j) : w.heap.size < j ∧ j < Y.heap.size := by
  obtain ⟨base, h1, h2⟩ := h.own
  have := own_lt h2 hj
  omega
/-- A cell of a report is stored. -/
theorem Lw.put {g cap : Nat} (h : Lw w R (.slice (some ⟨g, 0, none⟩) R.length cap) Y) (i : Nat) (hi : i < R.length) (j : Nat) (x : Value) (r : Rq) (hr : rqCells r = (rqCells R[i]).set j x) (hj : j < 8) :
    Lw w (R.set i r) (.slice (some ⟨g, 0, none⟩) R.length cap) (Y.setCell ⟨g, i * 8 + j, none⟩ x) ∧ Y.grownBy (Y.setCell ⟨g, i * 8 + j, none⟩ x) (some g) := by
  obtain ⟨base, h1, h2⟩ := h.own
  obtain ⟨k1, k2⟩ := h2.stored (i * 8 + j) x
  rw [rqc_set R i hi j x r hr hj] at k1
  have hb : base ≤ g := (own_lt h2 rfl).1
  refine ⟨⟨src_set h.src g _ _ (by omega) (by omega), base, h1, ?_⟩, k2⟩
  rw [List.length_set]
  exact k1
/-- Another list's cells are stored. -/
theorem Lw.far (h : Lw w R u Y) {g : Nat} (j : Nat) (x : Value) (hg : w.heap.size < g) (hne : ∀ i, u.ownBlock = some i → i ≠ g) : Lw w R u (Y.setCell ⟨g, j, none⟩ x) := by
  obtain ⟨base, h1, h2⟩ := h.own
  exact ⟨src_set h.src g _ _ (by omega) (by omega), base, h1, own_keep h2 fun i hi => Below.heap_setCell Y ⟨g, j, none⟩ x i (hne i hi)⟩
theorem Lw.thaw {g n cap : Nat} (h : Lw w R (.slice (some ⟨g, 0, none⟩) n cap) Y) (j : Nat) : Y.frozen? ⟨g, j, none⟩ = false := by
  obtain ⟨base, h1, h2⟩ := h.own
  rcases h2.2 with ⟨e1, -⟩ | ⟨g', cap', cur, e1, k1, k2, -⟩
  · cases e1
  · injection e1 with e1
    injection e1 with e1
    injection e1 with e1
    subst e1
    simp [World.frozen?, k2]
end
theorem sgl_of {p : Int → Bool} : ∀ (R : List Rq) (i : Nat) (x : Sg), x ∈ sgl p i R → ∃ (j : Nat) (h : j < R.length), x = ⟨R[j].nm, R[j].t, nod R[j].F R[j].A R[j].B R[j].C, i + j⟩
  | [], i, x, h => by cases h
  | r :: R, i, x, h => by
    have go : x ∈ sgl p (i + 1) R → ∃ (j : Nat) (h : j < (r :: R).length), x = ⟨(r :: R)[j].nm, (r :: R)[j].t, nod (r :: R)[j].F (r :: R)[j].A (r :: R)[j].B (r :: R)[j].C, i + j⟩ := fun h => by
      obtain ⟨j, hj, e⟩ := sgl_of R (i + 1) x h
      refine ⟨j + 1, by simpa using hj, ?_⟩
      rw [e]
      simp only [List.getElem_cons_succ]
      rw [show i + 1 + j = i + (j + 1) by omega]
    simp only [sgl] at h
    split at h
    · rcases List.mem_cons.1 h with rfl | h
      · exact ⟨0, by simp, rfl⟩
      · exact go h
    · exact go h
theorem susL_lt {h : Int} {R : List Rq} {l : List Nat} (hs : SusL h (sgl sea 0 R) l) : ∀ i ∈ l, i < R.length := fun i hi => by
  obtain ⟨A, a1, -, -, -, a5⟩ := hs
  obtain ⟨x, hx, rfl, -⟩ := (a5 i).1 hi
  obtain ⟨j, hj, rfl⟩ := sgl_of R 0 x (a1.mem_iff.1 hx)
  simpa using hj
theorem susL_pw {h : Int} {L : List Sg} {l : List Nat} (hs : SusL h L l) : l.Pairwise (fun x y => x < y) := by
  obtain ⟨A, a1, a2, a3, a4, a5⟩ := hs
  exact a4
end Go.Proofs.YtejoabaanclcbaaGreat.Tk

