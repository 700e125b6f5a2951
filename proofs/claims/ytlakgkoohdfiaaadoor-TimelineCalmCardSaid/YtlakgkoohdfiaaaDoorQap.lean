/- Texts of this proof. -/
import Derived.Test.YtlakgkoohdfiaaaDoorTmS
import Derived.Great.Walk
import Derived.Test.YtlakgkoohdfiaaaDoorQak
import Derived.Deep.Upon
import Derived.ArgAppend
import Derived.Test.YtlakgkoohdfiaaaDoorQao
import Derived.Test.YtlakgkoohdfiaaaDoorQal
import Derived.Test.YtlakgkoohdfiaaaDoorQaa
namespace Go.Proofs.YtlakgkoohdfiaaaDoor.Tm
open Go.RowKit Go.Great

def cl : Array Value := #[.int .i64 0, .int .i64 0, .int .i64 8000, .int .i64 11000, .int .i64 1800, .int .i64 3300, .int .i64 1800, .int .i64 3300, .int .i64 (-1000), .int .i64 1000, .int .i64 (-1000), .int .i64 1000, .int .i64 900, .int .i64 1700, .int .i64 2000, .int .i64 3200, .int .i64 2400, .int .i64 3400, .int .i64 2000, .int .i64 3000, .int .i64 4400, .int .i64 6200, .int .i64 2000, .int .i64 2900]
theorem cl_at {c : Nat} (h1 : 1 ≤ c) (h2 : c ≤ 11) : cl[c * 2]? = some (.int .i64 (El.Elt.lo c)) ∧ cl[c * 2 + 1]? = some (.int .i64 (El.Elt.hi c)) := by
  rcases (by omega : c = 1 ∨ c = 2 ∨ c = 3 ∨ c = 4 ∨ c = 5 ∨ c = 6 ∨ c = 7 ∨ c = 8 ∨ c = 9 ∨ c = 10 ∨ c = 11) with rfl | rfl | rfl | rfl | rfl | rfl | rfl | rfl | rfl | rfl | rfl <;> exact ⟨rfl, rfl⟩
/-- What clamp leaves. -/
def ClO (c : Int) (w : World) (e : Ending) (w' : World) : Prop := ∃ x, e = .returned (.int .i64 x) ∧ El.Elt.Val c x ∧ Below w.heap.size w w'
set_option maxRecDepth 100000 in
set_option maxHeartbeats 2000000 in
theorem clamp_any (c : Nat) (v : Int) (w : World) (h1 : 1 ≤ c) (h2 : c ≤ 11) :
    Calls Tryd.prog 77 #[.int .i64 (c : Int), .int .i64 v] w (ClO (c : Int) w) := by
  obtain ⟨q0, q1⟩ := cl_at h1 h2
  obtain ⟨⟨f1, f2, f3, -⟩, -⟩ := El.Elt.facts (c := (c : Int)) (by unfold El.Elt.Ex; omega)
  have HF : Hid (∀ x, El.Elt.lo (c : Int) ≤ x → x ≤ El.Elt.hi (c : Int) → El.Elt.Val (c : Int) x) := Lib.hid (fun x h3 h4 => ⟨by unfold El.Elt.Ex; omega, h3, h4⟩)
  generalize El.Elt.lo (c : Int) = lo at *
  generalize El.Elt.hi (c : Int) = hi at *
  have rr := Row.new w cl 159
  have c0 := (rr.cell (c * 2)).trans q0
  have c1 := (rr.cell (c * 2 + 1)).trans q1
  have k0 : (0 : Int) ≤ (c : Int) := by omega
  have k1 : (c : Int) < 12 := by omega
  clear q0 q1 rr
  go_enter Tryd.func77, Tryd.ntmps77
  go_upto_region 2 with (refine wpList_buildSliceTo rfl 160 159 12 #[(0, .tmp 6), (1, .tmp 7), (2, .tmp 8), (3, .tmp 9), (4, .tmp 10), (5, .tmp 11), (6, .tmp 12), (7, .tmp 13), (8, .tmp 14), (9, .tmp 15), (10, .tmp 16), (11, .tmp 17)] rfl _ rfl (some 18) rfl Tryd.underlying160 cl (by kernel_rfl) ?_; go_frame)
  have b2 := ((Below.refl w.heap.size w).alloc (Nat.le_refl _) (.cells cl 159)).alloc (by simp) (.cells #[.int .i64 lo, .int .i64 hi] 159)
  refine forget (fun Y => Hid (Below w.heap.size w Y ∧ Row Y (w.heap.size + 1) 159 #[.int .i64 lo, .int .i64 hi])) (Lib.hid ⟨b2, Row.newAt (by simp)⟩) ?_
  clear b2 c0 c1
  generalize w.heap.size + 1 = gr at *
  rintro Y HY
  obtain ⟨r0, r1⟩ := row2 HY.out.2
  have HB := Lib.hid HY.out.1
  clear HY
  have HCs : Hid (v < lo ∨ hi < v ∨ (lo ≤ v ∧ v ≤ hi)) := Lib.hid (by omega)
  go_wp2_with fail
  go_ret
  refine ⟨_, rfl, HF.out _ ?_ ?_, HB.out⟩
  · repeat' split
    all_goals omega
  · repeat' split
    all_goals omega
end Go.Proofs.YtlakgkoohdfiaaaDoor.Tm

namespace Go.Proofs.YtlakgkoohdfiaaaDoor.El
open Go.RowKit
theorem rdc_app (A B : List Elt.R) : rdc (A ++ B) = rdc A ++ rdc B := by simp [rdc]
theorem rdc_len : ∀ (L : List Elt.R), (rdc L).length = L.length * 2
  | [] => rfl
  | x :: r => by
    have e : rdc (x :: r) = .int .i64 x.1 :: .int .i64 x.2 :: rdc r := rfl
    rw [e, List.length_cons, List.length_cons, rdc_len r, List.length_cons]; omega
theorem rdc_one (L : List Elt.R) : ∀ u ∈ rdc L, u.oneCell' = true := by
  intro u hu
  obtain ⟨x, -, hx⟩ := List.mem_flatMap.1 hu
  unfold encR at hx
  rcases List.mem_cons.1 hx with rfl | hx
  · rfl
  · obtain rfl := List.mem_singleton.1 hx
    rfl
/-- Where a list's cells lie. -/
def CellsAt (w : World) (g off : Nat) (L : List Elt.R) : Prop := g < w.heap.size ∧ ∀ (j : Nat) (u : Value), (rdc L)[j]? = some u → w.cell? ⟨g, off + j, none⟩ = some u
theorem CellsAt.under {w w' : World} {g off : Nat} {L : List Elt.R} (h : CellsAt w g off L) (hb : Below w.heap.size w w') : CellsAt w' g off L :=
  ⟨Nat.lt_of_lt_of_le h.1 hb.size, fun j u hu => (hb.cell (p := ⟨g, off + j, none⟩) h.1).trans (h.2 j u hu)⟩
theorem CellsAt.of {w : World} {g off : Nat} {L : List Elt.R} (hg : g < w.heap.size) (h : ∀ i (h : i < L.length), w.cell? ⟨g, off + i * 2, none⟩ = some (.int .i64 (L[i]).1) ∧ w.cell? ⟨g, off + i * 2 + 1, none⟩ = some (.int .i64 (L[i]).2)) : CellsAt w g off L := by
  refine ⟨hg, fun j u hu => ?_⟩
  have hj := (List.getElem?_eq_some_iff.1 hu).1
  rw [rdc_len] at hj
  have hi : j / 2 < L.length := by omega
  obtain ⟨c0, c1⟩ := h (j / 2) hi
  obtain ⟨r0, r1⟩ := rdc_at L (j / 2) hi
  rcases (by omega : j = j / 2 * 2 ∨ j = j / 2 * 2 + 1) with e | e
  · rw [e] at hu ⊢
    rw [r0] at hu
    injection hu with hu
    rw [c0, hu]
  · rw [e] at hu ⊢
    rw [r1] at hu
    injection hu with hu
    rw [← Nat.add_assoc, c1, hu]
theorem CellsAt.take {w : World} {g off : Nat} {L : List Elt.R} (h : CellsAt w g off L) (k : Nat) : CellsAt w g off (L.take k) := by
  refine ⟨h.1, fun j u hu => h.2 j u ?_⟩
  have e := rdc_app (L.take k) (L.drop k)
  rw [List.take_append_drop] at e
  rw [e, List.getElem?_append_left (List.getElem?_eq_some_iff.1 hu).1]
  exact hu
theorem CellsAt.drop {w : World} {g off : Nat} {L : List Elt.R} (h : CellsAt w g off L) (k : Nat) (hk : k ≤ L.length) : CellsAt w g (off + k * 2) (L.drop k) := by
  refine ⟨h.1, fun j u hu => ?_⟩
  have e := rdc_app (L.take k) (L.drop k)
  rw [List.take_append_drop] at e
  have hl : (rdc (L.take k)).length = k * 2 := by rw [rdc_len, List.length_take]; omega
  rw [Nat.add_assoc]
  refine h.2 _ u ?_
  rw [e, List.getElem?_append_right (by omega), hl, Nat.add_sub_cancel_left]
  exact hu
theorem CellsAt.adds {w : World} {g off : Nat} {L : List Elt.R} (h : CellsAt w g off L) : ∀ (j : Nat) (u : Value), (rdc L)[j]? = some u → w.cell? ((⟨g, off, none⟩ : Addr).add j) = some u := fun j u hu => by
  rw [Addr.add_lit]
  exact h.2 j u hu
theorem CellsAt.kept {w w' : World} {g off : Nat} {L : List Elt.R} {r : Option Nat} (h : CellsAt w g off L) (hg : w.grownBy w' r) (hr : r ≠ some g) : CellsAt w' g off L := by
  have hb := hg.block g h.1 (Ne.symm hr)
  refine ⟨Nat.lt_of_lt_of_le h.1 hg.size, fun j u hu => ?_⟩
  rw [← h.2 j u hu]
  unfold World.cell?
  rw [show (⟨g, off + j, none⟩ : Addr).block = g from rfl, hb]
theorem CellsAt.new (w : World) (x : Elt.R) : CellsAt (w.alloc (.cells #[.int .i64 x.1, .int .i64 x.2] 81)) w.heap.size 0 [x] := by
  have r := Row.new w #[.int .i64 x.1, .int .i64 x.2] 81
  obtain ⟨c0, c1⟩ := row2 r
  refine CellsAt.of r.lt (fun i hi => ?_)
  have hi' : i < 1 := hi
  obtain rfl : i = 0 := by omega
  exact ⟨c0, c1⟩
/-- The cells behind the k-th, wherever the slice of nothing points to. -/
theorem CellsAt.rest {w : World} {g off cap k : Nat} {M : List Elt.R} (h : CellsAt w g off M) (hc : M.length ≤ cap) (hk : k < M.length) : ∀ (j : Nat) (u : Value), (rdc (M.drop (k + 1)))[j]? = some u → w.cell? ((if cap = k + 1 then (⟨g, off, none⟩ : Addr) else ⟨g, off + (k + 1) * 2, none⟩).add j) = some u := by
  intro j u hu
  by_cases hq : cap = k + 1
  · have : M.drop (k + 1) = [] := List.drop_eq_nil_of_le (by omega)
    rw [this] at hu
    simp [rdc] at hu
  · rw [if_neg hq]
    exact (h.drop (k + 1) (by omega)).adds j u hu
theorem genH {P : Program} {ops : Array Oper} {Q : Exit → Act → World → Prop} {md : Region.Mode} {S : World → Prop} {fuel : Nat} {listed : Array Bool} {a : Act} {w : World} (R : World → Prop) (h : R w)
    (hK : ∀ X, R X → wpAnyH P md ops Q S fuel listed a X) : wpAnyH P md ops Q S fuel listed a w := hK w h
/-- APPEND TO AN OWNED ROW, NOTHING OR MORE, AS ONE STEP OF A DRAWN REGION. -/
theorem step_append_own {P : Program} {ops : Array Oper} {o : Oper} {a : Act} {w : World} {K : Act → World → Prop} {Q : Exit → Act → World → Prop} {E : Prop} (hgd : o.guard = none) (s x : Operand) (t : TypeId)
    (ho : o.op = .call { callee := .builtin .append, args := #[s, x], argTypes := #[t, t] })
    (base : Nat) (e : TypeId) (i : TypeInfo) (z : Value) (size bytes : Nat) (ht : P.underlying t = some (.slice e)) (hi : P.info? e = some i) (hz : i.zero = some z)
    (hsize : i.size = size) (hby : i.bytes = bytes) (hzs : z.cells.size = size) (hsz : 0 < size)
    (v : Value) (n : Nat) (xs : List Value) (hs : a.eval s = v) (hown : w.ownsRow base e size v n xs)
    (ad : Addr) (m c : Nat) (news : List Value) (hx : a.eval x = .slice (some ad) m c) (hl : news.length = m * size) (hnews : ∀ j u, news[j]? = some u → w.cell? (ad.add j) = some u) (h1 : ∀ u ∈ news, u.oneCell' = true)
    (h63 : n + m ≤ maxLen) (hbytes : (n + m) * bytes ≤ 140737488355328) (hbase : base ≤ w.heap.size)
    (h : ∀ v' w', w'.ownsRow base e size v' (n + m) (xs ++ news) → w.grownBy w' v.ownBlock → K (a.put o.dst v') w') :
    if Region.wanted o (yielded ops a.tmps) = true then Oper.wp P o a w K Q else E := by
  have hw : Region.wanted o (yielded ops a.tmps) = true := by simp [Region.wanted, hgd]
  rw [if_pos hw]
  obtain ⟨v', w', hr, h2, h3, -⟩ := run_append_own (P := P) w base t o.type e i z size bytes ht hi hz hsize hby hzs hsz v n xs hown ad m c news hl hnews h1 h63 hbytes hbase
  unfold Oper.wp execOp
  simp only [ho, resolve, invoke, builtin, Sem.run_bind, Sem.run_pure, Result.andThen_ok, List.map_toArray, List.map_cons, List.map_nil, hs, hx, hr]
  exact h v' w' h2 h3
/-- APPEND TO AN OWNED ROW, NOTHING OR MORE, FOR THE WALK. -/
theorem wpList_append_own' {P : Program} {ops : Array Oper} {rest : List Oper} {o : Oper} {a : Act} {w : World} {Q : Exit → Act → World → Prop} (hgd : o.guard = none) (s x : Operand) (t : TypeId)
    (ho : o.op = .call { callee := .builtin .append, args := #[s, x], argTypes := #[t, t] })
    (base : Nat) (e : TypeId) (i : TypeInfo) (z : Value) (size bytes : Nat) (ht : P.underlying t = some (.slice e)) (hi : P.info? e = some i) (hz : i.zero = some z)
    (hsize : i.size = size) (hby : i.bytes = bytes) (hzs : z.cells.size = size) (hsz : 0 < size)
    (v : Value) (n : Nat) (xs : List Value) (hs : a.eval s = v) (hown : w.ownsRow base e size v n xs)
    (ad : Addr) (m c : Nat) (news : List Value) (hx : a.eval x = .slice (some ad) m c) (hl : news.length = m * size) (hnews : ∀ j u, news[j]? = some u → w.cell? (ad.add j) = some u) (h1 : ∀ u ∈ news, u.oneCell' = true)
    (h63 : n + m ≤ maxLen) (hbytes : (n + m) * bytes ≤ 140737488355328) (hbase : base ≤ w.heap.size)
    (h : ∀ v' w', w'.ownsRow base e size v' (n + m) (xs ++ news) → w.grownBy w' v.ownBlock → wpList P ops Q rest (a.put o.dst v') w') : wpList P ops Q (o :: rest) a w := by
  refine wpList_plain hgd fun _ hK => ?_
  obtain ⟨v', w', hr, h2, h3, -⟩ := run_append_own (P := P) w base t o.type e i z size bytes ht hi hz hsize hby hzs hsz v n xs hown ad m c news hl hnews h1 h63 hbytes hbase
  unfold Oper.wp execOp
  simp only [ho, resolve, invoke, builtin, Sem.run_bind, Sem.run_pure, Result.andThen_ok, List.map_toArray, List.map_cons, List.map_nil, hs, hx, hr]
  exact hK _ _ (h v' w' h2 h3)
/-- APPEND TO A NEW LIST OF NO ELEMENTS, WHATEVER IS APPENDED, FOR THE WALK. -/
theorem wpList_append_fresh {P : Program} {ops : Array Oper} {rest : List Oper} {o : Oper} {a : Act} {w : World} {Q : Exit → Act → World → Prop} (hgd : o.guard = none) (s x : Operand) (t : TypeId)
    (ho : o.op = .call { callee := .builtin .append, args := #[s, x], argTypes := #[t, t] })
    (base : Nat) (e : TypeId) (i : TypeInfo) (z : Value) (size bytes : Nat) (ht : P.underlying t = some (.slice e)) (hi : P.info? e = some i) (hz : i.zero = some z)
    (hsize : i.size = size) (hby : i.bytes = bytes) (hzs : z.cells.size = size) (hsz : 0 < size)
    (g : Nat) (hs : a.eval s = .slice (some ⟨g, 0, none⟩) 0 0) (hown : w.ownsRow base e size (.slice (some ⟨g, 0, none⟩) 0 0) 0 [])
    (A : Option Addr) (m c : Nat) (news : List Value) (hx : a.eval x = .slice A m c) (hl : news.length = m * size) (hnone : A = none → m = 0)
    (hnews : ∀ ad, A = some ad → ∀ (j : Nat) u, news[j]? = some u → w.cell? (ad.add j) = some u) (h1 : ∀ u ∈ news, u.oneCell' = true)
    (h63 : m ≤ maxLen) (hbytes : m * bytes ≤ 140737488355328) (hbase : base ≤ w.heap.size)
    (h : ∀ v' w', w'.ownsRow base e size v' m news → w.grownBy w' (some g) → wpList P ops Q rest (a.put o.dst v') w') : wpList P ops Q (o :: rest) a w := by
  refine wpList_plain hgd fun _ hK => ?_
  cases A with
  | none =>
    obtain rfl := hnone rfl
    obtain rfl : news = [] := List.eq_nil_of_length_eq_zero (by rw [hl, Nat.zero_mul])
    have hr := run_append_nothing (P := P) w t t o.type e i ht hi (some ⟨g, 0, none⟩) 0 0 (Nat.le_refl _) (.slice none 0 c) (Go.Src.ofNil w ht c)
    unfold Oper.wp execOp
    simp only [ho, resolve, invoke, builtin, Sem.run_bind, Sem.run_pure, Result.andThen_ok, List.map_toArray, List.map_cons, List.map_nil, hs, hx, hr]
    exact hK _ _ (h _ _ hown (grown_refl _ _))
  | some ad =>
    obtain ⟨v', w', hr, h2, h3, -⟩ := run_append_own (P := P) w base t o.type e i z size bytes ht hi hz hsize hby hzs hsz _ 0 [] hown ad m c news hl (hnews ad rfl) h1 (by omega) (by rw [Nat.zero_add]; exact hbytes) hbase
    rw [Nat.zero_add, List.nil_append] at h2
    unfold Oper.wp execOp
    simp only [ho, resolve, invoke, builtin, Sem.run_bind, Sem.run_pure, Result.andThen_ok, List.map_toArray, List.map_cons, List.map_nil, hs, hx, hr]
    exact hK _ _ (h v' w' h2 h3)
theorem rdc_set : ∀ (M : List Elt.R) (j : Nat) (x : Int), j < M.length * 2 → ∃ N : List Elt.R, N.length = M.length ∧ (rdc M).set j (.int .i64 x) = rdc N
  | [], j, x, h => by simp at h
  | (a, b) :: r, 0, x, _ => ⟨(x, b) :: r, rfl, rfl⟩
  | (a, b) :: r, 1, x, _ => ⟨(a, x) :: r, rfl, rfl⟩
  | (a, b) :: r, j + 2, x, h => by
    obtain ⟨N, h1, h2⟩ := rdc_set r j x (by simp at h; omega)
    refine ⟨(a, b) :: N, by simp [h1], ?_⟩
    show Value.int .i64 a :: Value.int .i64 b :: (rdc r).set j (.int .i64 x) = _
    rw [h2]
    rfl
theorem Gl.put {W w0 w : World} {b g n cap : Nat} {M : List Elt.R} (h : Gl W b w0 M (.slice (some ⟨g, 0, none⟩) n cap) w) (hn : n = M.length) (hW : W.heap.size ≤ w0.heap.size) (j : Nat) (hj : j < M.length * 2) (x : Int) :
    ∃ N : List Elt.R, N.length = M.length ∧ Gl W b w0 N (.slice (some ⟨g, 0, none⟩) n cap) (w.setCell ⟨g, j, none⟩ (.int .i64 x)) := by
  subst hn
  obtain ⟨N, h1, h2⟩ := rdc_set M j x hj
  obtain ⟨hown, hg⟩ := h.own.stored j (.int .i64 x)
  obtain ⟨cs, hr⟩ := src_row h.src
  have hlo : w0.heap.size ≤ g := (h.own.lt g rfl).1
  refine ⟨N, h1, src_kept h.src hg (fun e => own_ne h.own hr (by decide) (by rw [← e]; rfl)) (fun i e => by injection e with e; omega), ?_, ?_⟩
  · exact ⟨hg.os.trans h.gro.os, hg.tape.trans h.gro.tape, hg.output.trans h.gro.output, Nat.le_trans h.gro.size hg.size, fun i hi hne => (hg.block i (Nat.lt_of_lt_of_le hi h.gro.size) (fun e => by injection e with e; omega)).trans (h.gro.block i hi hne)⟩
  · rw [← h2, h1]
    exact hown
theorem Gl.app {W w0 w w' : World} {b m : Nat} {M N : List Elt.R} {u v : Value} (h : Gl W b w0 M u w) (hW : W.heap.size ≤ w0.heap.size) (hm : N.length = m)
    (hown : w'.ownsRow w0.heap.size 81 2 v (M.length + m) (rdc M ++ rdc N)) (hg : w.grownBy w' u.ownBlock) : Gl W b w0 (M ++ N) v w' := by
  obtain ⟨cs, hr⟩ := src_row h.src
  have hlo : ∀ i, u.ownBlock = some i → w0.heap.size ≤ i := fun i e => (h.own.lt i e).1
  refine ⟨src_kept h.src hg (fun e => own_ne h.own hr (by decide) e.symm) (fun i e => Nat.le_trans hW (hlo i e)), ?_, by rw [rdc_app, List.length_append, hm]; exact hown⟩
  exact ⟨hg.os.trans h.gro.os, hg.tape.trans h.gro.tape, hg.output.trans h.gro.output, Nat.le_trans h.gro.size hg.size, fun i hi hne => (hg.block i (Nat.lt_of_lt_of_le hi h.gro.size) (fun e => by have := hlo i e.symm; omega)).trans (h.gro.block i hi hne)⟩
end Go.Proofs.YtlakgkoohdfiaaaDoor.El

namespace Go.Proofs.YtlakgkoohdfiaaaDoor.Tm
open Go.RowKit

def nmA : ByteArray := ⟨#[65, 76, 80, 72, 65]⟩
def nmB : ByteArray := ⟨#[66, 82, 65, 86, 79]⟩
/-- A report of a series. -/
def Sd1 (r : Rp) : Prop := r.k = 1 ∧ (r.nm = nmA ∨ r.nm = nmB) ∧ (r.F = 0 ∧ r.A = 0 ∧ r.B = 0 ∧ r.C = 0) ∧ El.Elt.vld r.L = 0
/-- A series up to a minute. -/
structure Ser (lo m : Int) (R : List Rp) : Prop where
  all : ∀ r ∈ R, Sd1 r
  bd : ∀ r ∈ R, lo < r.t ∧ r.t ≤ m
  asc : R.Pairwise fun a b => a.t < b.t
theorem Ser.nil (lo m : Int) : Ser lo m [] := ⟨fun _ h => (by cases h), fun _ h => (by cases h), List.Pairwise.nil⟩
theorem Ser.snoc {lo m m' : Int} {R : List Rp} {r : Rp} (h : Ser lo m R) (hr : Sd1 r) (ht : r.t = m') (hm : m < m') (hl : lo ≤ m) : Ser lo m' (R ++ [r]) := by
  refine ⟨fun q hq => ?_, fun q hq => ?_, List.pairwise_append.2 ⟨h.asc, List.pairwise_singleton _ _, fun a ha b hb => ?_⟩⟩
  · rcases List.mem_append.1 hq with q1 | q1
    · exact h.all q q1
    · rw [List.mem_singleton.1 q1]; exact hr
  · rcases List.mem_append.1 hq with q1 | q1
    · have := h.bd q q1; omega
    · rw [List.mem_singleton.1 q1, ht]; omega
  · rw [List.mem_singleton.1 hb, ht]
    have := (h.bd a ha).2
    omega
/-- The readings of a report while they are drawn: valid, ascending, all less than c. -/
structure Rdg (c : Nat) (L : List El.Elt.R) : Prop where
  val : ∀ x ∈ L, El.Elt.Val x.1 x.2 ∧ x.1 < (c : Int)
  asc : L.Pairwise fun a b => a.1 < b.1
theorem Rdg.nil (c : Nat) : Rdg c [] := ⟨fun _ h => (by cases h), List.Pairwise.nil⟩
theorem Rdg.more {c : Nat} {L : List El.Elt.R} (h : Rdg c L) : Rdg (c + 1) L := ⟨fun x hx => ⟨(h.val x hx).1, by have := (h.val x hx).2; omega⟩, h.asc⟩
theorem Rdg.snoc {c : Nat} {L : List El.Elt.R} (h : Rdg c L) {v : Int} (hv : El.Elt.Val (c : Int) v) : Rdg (c + 1) (L ++ [((c : Int), v)]) := by
  refine ⟨fun x hx => ?_, List.pairwise_append.2 ⟨h.asc, List.pairwise_singleton _ _, fun a ha b hb => ?_⟩⟩
  · rcases List.mem_append.1 hx with q | q
    · exact ⟨(h.val x q).1, by have := (h.val x q).2; omega⟩
    · rw [List.mem_singleton.1 q]; exact ⟨hv, by show (c : Int) < ((c + 1 : Nat) : Int); omega⟩
  · rw [List.mem_singleton.1 hb]; exact (h.val a ha).2
theorem vld_of {L : List El.Elt.R} (hv : ∀ x ∈ L, El.Elt.Val x.1 x.2) (ha : L.Pairwise fun a b => a.1 < b.1) : El.Elt.vld L = 0 :=
  (El.Elt.vld_good hv).1 fun j h => List.pairwise_iff_getElem.1 ha j (j + 1) (by omega) h (by omega)
theorem Rdg.len {c : Nat} {L : List El.Elt.R} (h : Rdg c L) : L.length ≤ 11 := le11 (vld_of (fun x hx => (h.val x hx).1) h.asc)
/-- What is known between the reports. -/
structure Sr (W : World) (b : Nat) (w : World) (gv : Nat) (lo m : Int) (R : List Rp) (v : Value) (Y : World) : Prop where
  src : Src W b Y
  gro : w.grownBy Y (some b)
  own : Y.ownsRow w.heap.size 38 8 v R.length (rpc R)
  rds : ∀ r ∈ R, Y.ownsRow w.heap.size 81 2 r.u r.L.length (El.rdc r.L)
  vb : ∃ cs : Array Value, Row Y gv 65 cs ∧ cs.size = 12 ∧ ∀ j : Nat, j < 12 → ∃ x, cs[j]? = some (.int .i64 x)
  ser : Ser lo m R
  hv : w.heap.size ≤ gv
  bw : b < w.heap.size
  hW : W.heap.size ≤ w.heap.size
section
variable {W w Y Y' w9 : World} {b gv : Nat} {lo m : Int} {R : List Rp} {v : Value}
theorem Sr.step (h : Sr W b w gv lo m R v Y) (hs : Src W b Y') (hg : Y.grownBy Y' (some b)) : Sr W b w gv lo m R v Y' := by
  have hb := h.bw
  have hv := h.hv
  obtain ⟨cs, h1, h2⟩ := h.vb
  exact ⟨hs, grown_tr h.gro hg, own_heap h.own (fun i hi => hg.block i (row_size h.own hi) (fun e => by injection e with e; have := row_base h.own hi; omega)),
    fun r hr => own_heap (h.rds r hr) (fun i hi => hg.block i (row_size (h.rds r hr) hi) (fun e => by injection e with e; have := row_base (h.rds r hr) hi; omega)),
    ⟨cs, h1.grown hg (fun e => by injection e with e; omega), h2⟩, h.ser, h.hv, h.bw, h.hW⟩
theorem Sr.under (h : Sr W b w gv lo m R v Y) (hb : Below Y.heap.size Y Y') : Sr W b w gv lo m R v Y' := h.step (h.src.under hb) (grown_below hb)
theorem Sr.ins (h : Sr W b w gv lo m R v Y) : RpsIn Y v R := RpsIn.own h.own (fun r hr => El.RdIn.own (h.rds r hr))
/-- A cell of another block is written. -/
theorem Sr.set (h : Sr W b w gv lo m R v Y) {g : Nat} {t : TypeId} {cs : Array Value} (j : Nat) (x : Value) (hr : Row Y g t cs) (hg : w.heap.size ≤ g) (hv : g ≠ gv) (h1 : t ≠ 81) (h2 : v.ownBlock ≠ some g) : Sr W b w gv lo m R v (Y.setCell ⟨g, j, none⟩ x) := by
  have hb := h.bw
  have key : ∀ i, i ≠ g → (Y.setCell ⟨g, j, none⟩ x).heap[i]? = Y.heap[i]? := fun i hi => Below.heap_setCell Y ⟨g, j, none⟩ x i hi
  obtain ⟨ds, d1, d2⟩ := h.vb
  exact ⟨Pl.src_set h.src g j x (Nat.le_trans h.hW hg) (by omega), Pl.grown_set h.gro g j x hg rfl, own_heap h.own (fun i hi => key i (fun e => h2 (by rw [← e]; exact hi))),
    fun r hr' => own_heap (h.rds r hr') (fun i hi => key i (fun e => row_not (h.rds r hr') hr h1 (e ▸ hi))), ⟨ds, d1.far (p := ⟨g, j, none⟩) hv _, d2⟩, h.ser, h.hv, h.bw, h.hW⟩
/-- A value of the row of values is written. -/
theorem Sr.val (h : Sr W b w gv lo m R v Y) (j : Nat) (x : Int) : Sr W b w gv lo m R v (Y.setCell ⟨gv, j, none⟩ (.int .i64 x)) := by
  have hb := h.bw
  have hv := h.hv
  obtain ⟨ds, d1, d2, d3⟩ := h.vb
  have key : ∀ i, i ≠ gv → (Y.setCell ⟨gv, j, none⟩ (.int .i64 x)).heap[i]? = Y.heap[i]? := fun i hi => Below.heap_setCell Y ⟨gv, j, none⟩ (.int .i64 x) i hi
  refine ⟨Pl.src_set h.src gv j _ (Nat.le_trans h.hW h.hv) (by omega), Pl.grown_set h.gro gv j _ h.hv rfl, own_heap h.own (fun i hi => key i (fun e => row_not h.own d1 (by decide) (e ▸ hi))),
    fun r hr' => own_heap (h.rds r hr') (fun i hi => key i (fun e => row_not (h.rds r hr') d1 (by decide) (e ▸ hi))), ⟨_, d1.put j _, by rw [Array.size_setIfInBounds]; exact d2, fun i hi => ?_⟩, h.ser, h.hv, h.bw, h.hW⟩
  rw [Array.getElem?_setIfInBounds]
  by_cases e : j = i
  · subst e; rw [if_pos rfl, if_pos (by omega)]; exact ⟨x, rfl⟩
  · rw [if_neg e]; exact d3 i hi
/-- A row of readings that is not of these reports grows. -/
theorem Sr.rdg (h : Sr W b w gv lo m R v Y) {gt n : Nat} {u : Value} {xs : List Value} (hu : Y.ownsRow gt 81 2 u n xs) (hw : w.heap.size ≤ gt) (hold : ∀ r ∈ R, ∀ i, r.u.ownBlock = some i → i < gt) (hg : Y.grownBy Y' u.ownBlock) : Sr W b w gv lo m R v Y' := by
  have hb := h.bw
  obtain ⟨ds, d1, d2⟩ := h.vb
  obtain ⟨cs, hrow⟩ := El.src_row h.src
  have hnb : u.ownBlock ≠ some b := fun e => by have := row_base hu e; omega
  refine ⟨El.src_kept h.src hg hnb (fun i e => Nat.le_trans (Nat.le_trans h.hW hw) (row_base hu e)), ?_, own_heap h.own (fun i hi => hg.block i (row_size h.own hi) (fun e => ?_)), fun r hr => own_heap (h.rds r hr) (fun i hi => hg.block i (row_size (h.rds r hr) hi) (fun e => ?_)), ⟨ds, d1.grown hg (fun e => row_not hu d1 (by decide) e.symm), d2⟩, h.ser, h.hv, h.bw, h.hW⟩
  · have h1 := h.gro.size
    refine ⟨hg.os.trans h.gro.os, hg.tape.trans h.gro.tape, hg.output.trans h.gro.output, Nat.le_trans h1 hg.size, fun i hi hne => ?_⟩
    exact (hg.block i (by omega) (fun e => by have := row_base hu e.symm; omega)).trans (h.gro.block i hi hne)
  · obtain ⟨c1, q1, -⟩ := row_own hu e.symm
    obtain ⟨c2, q2, -⟩ := row_own h.own hi
    rw [q1] at q2; injection q2 with q2; injection q2 with _ q2; exact absurd q2 (by decide)
  · have h1 := row_base hu e.symm
    have h2 := hold r hr i hi
    omega
/-- A report is appended. -/
theorem Sr.app (h : Sr W b w gv lo m R v Y) {r : Rp} {v' : Value} {m' : Int} (hu : Y.ownsRow w.heap.size 81 2 r.u r.L.length (El.rdc r.L)) (hs : Ser lo m' (R ++ [r]))
    (ho : w9.ownsRow w.heap.size 38 8 v' (R.length + 1) (rpc R ++ rpCells r)) (hg : Y.grownBy w9 v.ownBlock) : Sr W b w gv lo m' (R ++ [r]) v' w9 := by
  have hb := h.bw
  obtain ⟨ds, d1, d2⟩ := h.vb
  have hnb : v.ownBlock ≠ some b := fun e => by have := row_base h.own e; omega
  have key : ∀ {r0 : Rp}, Y.ownsRow w.heap.size 81 2 r0.u r0.L.length (El.rdc r0.L) → w9.ownsRow w.heap.size 81 2 r0.u r0.L.length (El.rdc r0.L) := fun {r0} hq =>
    own_heap hq (fun i hi => hg.block i (row_size hq hi) (fun e => by
      obtain ⟨c1, h1, -⟩ := row_own h.own e.symm
      obtain ⟨c2, h2, -⟩ := row_own hq hi
      rw [h1] at h2; injection h2 with h2; injection h2 with _ h2; exact absurd h2 (by decide)))
  refine ⟨El.src_kept h.src hg hnb (fun i e => Nat.le_trans h.hW (row_base h.own e)), ?_, by rw [rpc_app, List.length_append]; exact ho, fun r' hr' => ?_, ⟨ds, d1.grown hg (fun e => row_not h.own d1 (by decide) e.symm), d2⟩, hs, h.hv, h.bw, h.hW⟩
  · have h1 := h.gro.size
    refine ⟨hg.os.trans h.gro.os, hg.tape.trans h.gro.tape, hg.output.trans h.gro.output, Nat.le_trans h1 hg.size, fun i hi hne => ?_⟩
    exact (hg.block i (by omega) (fun e => by have := row_base h.own e.symm; omega)).trans (h.gro.block i hi hne)
  · rcases List.mem_append.1 hr' with q | q
    · exact key (h.rds r' q)
    · rw [List.mem_singleton.1 q]; exact key hu
end
/-- What is known while a report's readings are drawn. -/
structure Si (W : World) (b : Nat) (w : World) (gv gt : Nat) (lo m : Int) (R : List Rp) (v : Value) (nm : ByteArray) (t : Int) (u : Value) (L : List El.Elt.R) (Y : World) : Prop where
  sr : Sr W b w gv lo m R v Y
  rb : Row Y gt 38 (repC 1 nm t 0 0 0 0 u)
  rd : Y.ownsRow gt 81 2 u L.length (El.rdc L)
  old : ∀ r ∈ R, ∀ i, r.u.ownBlock = some i → i < gt
  ht : w.heap.size ≤ gt
  ne : gt ≠ gv
  no : v.ownBlock ≠ some gt
section
variable {W w Y Y' : World} {b gv gt : Nat} {lo m t : Int} {R : List Rp} {v u u' : Value} {nm : ByteArray} {L L' : List El.Elt.R}
theorem Si.step (h : Si W b w gv gt lo m R v nm t u L Y) (hs : Src W b Y') (hg : Y.grownBy Y' (some b)) : Si W b w gv gt lo m R v nm t u L Y' := by
  have hb := h.sr.bw
  have ht := h.ht
  exact ⟨h.sr.step hs hg, h.rb.grown hg (fun e => by injection e with e; omega), own_heap h.rd (fun i hi => hg.block i (row_size h.rd hi) (fun e => by injection e with e; have := row_base h.rd hi; omega)), h.old, h.ht, h.ne, h.no⟩
theorem Si.under (h : Si W b w gv gt lo m R v nm t u L Y) (hb : Below Y.heap.size Y Y') : Si W b w gv gt lo m R v nm t u L Y' := h.step (h.sr.src.under hb) (grown_below hb)
theorem Si.val (h : Si W b w gv gt lo m R v nm t u L Y) (j : Nat) (x : Int) : Si W b w gv gt lo m R v nm t u L (Y.setCell ⟨gv, j, none⟩ (.int .i64 x)) := by
  obtain ⟨ds, d1, -⟩ := h.sr.vb
  exact ⟨h.sr.val j x, h.rb.far (p := ⟨gv, j, none⟩) (Ne.symm h.ne) _, own_heap h.rd (fun i hi => Below.heap_setCell Y ⟨gv, j, none⟩ _ i (fun e => row_not h.rd d1 (by decide) (hi.trans (congrArg some e)))), h.old, h.ht, h.ne, h.no⟩
/-- The readings grow, and are laid into the report. -/
theorem Si.app (h : Si W b w gv gt lo m R v nm t u L Y) (hg : Y.grownBy Y' u.ownBlock) (ho : Y'.ownsRow gt 81 2 u' L'.length (El.rdc L')) : Si W b w gv gt lo m R v nm t u' L' (Y'.setCell ⟨gt, 7, none⟩ u') ∧ Row Y' gt 38 (repC 1 nm t 0 0 0 0 u) := by
  have hS := h.sr.rdg h.rd h.ht h.old hg
  have hR : Row Y' gt 38 (repC 1 nm t 0 0 0 0 u) := h.rb.grown hg (fun e => row_not h.rd h.rb (by decide) e.symm)
  exact ⟨⟨hS.set 7 u' hR h.ht h.ne (by decide) h.no, hR.put 7 u', own_heap ho (fun i hi => Below.heap_setCell Y' ⟨gt, 7, none⟩ _ i (fun e => row_not ho hR (by decide) (hi.trans (congrArg some e)))), h.old, h.ht, h.ne, h.no⟩, hR⟩
end
/-- What Series leaves. -/
def SrO (W : World) (b : Nat) (w : World) (n : Int) (lo : Int) (e : Ending) (w' : World) : Prop := ∃ (R : List Rp) (v : Value) (m : Int) (gv : Nat), e = .returned v ∧ (R.length : Int) ≤ n ∧ m ≤ lo + 90 * n ∧ Sr W b w gv lo m R v w'
end Go.Proofs.YtlakgkoohdfiaaaDoor.Tm
