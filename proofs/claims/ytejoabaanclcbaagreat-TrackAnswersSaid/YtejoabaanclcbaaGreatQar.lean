/- Texts of this proof. -/
import Derived.Test.YtejoabaanclcbaaGreatQap
import Derived.Test.YtejoabaanclcbaaGreatRAr
import Derived.Test.YtejoabaanclcbaaGreatQaq
import Derived.Test.YtejoabaanclcbaaGreatTkY
namespace Go.Proofs.YtejoabaanclcbaaGreat.Tk
open Go.RowKit

theorem row8 {w : World} {b : Nat} {t : TypeId} {x0 x1 x2 x3 x4 x5 x6 x7 : Value} (h : Row w b t #[x0, x1, x2, x3, x4, x5, x6, x7]) :
    w.cell? ⟨b, 0, none⟩ = some x0 ∧ w.cell? ⟨b, 1, none⟩ = some x1 ∧ w.cell? ⟨b, 2, none⟩ = some x2 ∧ w.cell? ⟨b, 3, none⟩ = some x3 ∧ w.cell? ⟨b, 4, none⟩ = some x4 ∧ w.cell? ⟨b, 5, none⟩ = some x5 ∧ w.cell? ⟨b, 6, none⟩ = some x6 ∧ w.cell? ⟨b, 7, none⟩ = some x7 :=
  ⟨(h.cell 0).trans rfl, (h.cell 1).trans rfl, (h.cell 2).trans rfl, (h.cell 3).trans rfl, (h.cell 4).trans rfl, (h.cell 5).trans rfl, (h.cell 6).trans rfl, (h.cell 7).trans rfl⟩
theorem set4_row {w : World} {g : Nat} {t : TypeId} {y0 y1 y2 y3 : Value} (u0 u1 u2 u3 : Value) (h : Row w g t #[y0, y1, y2, y3]) :
    Row ((((w.setCell ⟨g, 0, none⟩ u0).setCell ⟨g, 1, none⟩ u1).setCell ⟨g, 2, none⟩ u2).setCell ⟨g, 3, none⟩ u3) g t #[u0, u1, u2, u3] := by
  have h0 : Row (w.setCell ⟨g, 0, none⟩ u0) g t #[u0, y1, y2, y3] := h.put 0 _
  have h1 : Row ((w.setCell ⟨g, 0, none⟩ u0).setCell ⟨g, 1, none⟩ u1) g t #[u0, u1, y2, y3] := h0.put 1 _
  have h2 : Row (((w.setCell ⟨g, 0, none⟩ u0).setCell ⟨g, 1, none⟩ u1).setCell ⟨g, 2, none⟩ u2) g t #[u0, u1, u2, y3] := h1.put 2 _
  exact h2.put 3 _
theorem set4_below {w0 w : World} {B g : Nat} {u0 u1 u2 u3 : Value} (h : Below B w0 w) (hg : B ≤ g) :
    Below B w0 ((((w.setCell ⟨g, 0, none⟩ u0).setCell ⟨g, 1, none⟩ u1).setCell ⟨g, 2, none⟩ u2).setCell ⟨g, 3, none⟩ u3) :=
  (((h.setCell (p := ⟨g, 0, none⟩) hg _).setCell (p := ⟨g, 1, none⟩) hg _).setCell (p := ⟨g, 2, none⟩) hg _).setCell (p := ⟨g, 3, none⟩) hg _
theorem row2 {w : World} {b : Nat} {t : TypeId} {x y : Value} (h : Row w b t #[x, y]) : w.cell? ⟨b, 0, none⟩ = some x ∧ w.cell? ⟨b, 1, none⟩ = some y :=
  ⟨(h.cell 0).trans rfl, (h.cell 1).trans rfl⟩
/-- A report. Its readings are a slice that nobody looks at. -/
structure Rq where
  k : Int
  nm : ByteArray
  t : Int
  F : Int
  A : Int
  B : Int
  C : Int
  ua : Option Addr
  un : Nat
  uc : Nat
abbrev rqC (k : Int) (nm : ByteArray) (t F A B C : Int) (ua : Option Addr) (un uc : Nat) : Array Value := #[.int .i64 k, .string nm, .int .i64 t, .int .i64 F, .int .i64 A, .int .i64 B, .int .i64 C, .slice ua un uc]
abbrev rqV (k : Int) (nm : ByteArray) (t F A B C : Int) (ua : Option Addr) (un uc : Nat) : Value := .agg #[.int .i64 k, .string nm, .int .i64 t, .int .i64 F, .int .i64 A, .int .i64 B, .int .i64 C, .slice ua un uc]
def rqCells (r : Rq) : List Value := [.int .i64 r.k, .string r.nm, .int .i64 r.t, .int .i64 r.F, .int .i64 r.A, .int .i64 r.B, .int .i64 r.C, .slice r.ua r.un r.uc]
def rqc (R : List Rq) : List Value := R.flatMap rqCells
theorem rqc_one (R : List Rq) : ∀ u ∈ rqc R, u.oneCell' = true := by
  intro u hu
  obtain ⟨r, hm, hr⟩ := List.mem_flatMap.1 hu
  simp only [rqCells, List.mem_cons, List.not_mem_nil, or_false] at hr
  rcases hr with rfl | rfl | rfl | rfl | rfl | rfl | rfl | rfl <;> rfl
theorem rqc_at : ∀ (R : List Rq) (i : Nat) (h : i < R.length), ∀ j : Nat, j < 8 → (rqc R)[i * 8 + j]? = (rqCells R[i])[j]?
  | x :: r, 0, _, j, hj => by
    show (rqCells x ++ rqc r)[0 * 8 + j]? = _
    rw [Nat.zero_mul, Nat.zero_add, List.getElem?_append_left (by exact hj)]
    rfl
  | x :: r, i + 1, h, j, hj => by
    have := rqc_at r i (by simpa using h) j hj
    show (rqCells x ++ rqc r)[(i + 1) * 8 + j]? = _
    rw [List.getElem?_append_right (by show 8 ≤ _; omega), show (i + 1) * 8 + j - (rqCells x).length = i * 8 + j by show (i + 1) * 8 + j - 8 = _; omega]
    exact this
/-- The cells of a report in a row of reports. -/
def At8 (V : World) (g o : Nat) (r : Rq) : Prop :=
  V.cell? ⟨g, o, none⟩ = some (.int .i64 r.k) ∧ V.cell? ⟨g, o + 1, none⟩ = some (.string r.nm) ∧ V.cell? ⟨g, o + 2, none⟩ = some (.int .i64 r.t) ∧ V.cell? ⟨g, o + 3, none⟩ = some (.int .i64 r.F) ∧ V.cell? ⟨g, o + 4, none⟩ = some (.int .i64 r.A) ∧ V.cell? ⟨g, o + 5, none⟩ = some (.int .i64 r.B) ∧ V.cell? ⟨g, o + 6, none⟩ = some (.int .i64 r.C) ∧ V.cell? ⟨g, o + 7, none⟩ = some (.slice r.ua r.un r.uc)
theorem At8.under {V w : World} {g o : Nat} {r : Rq} (h : At8 V g o r) (hg : g < V.heap.size) (hb : Below V.heap.size V w) : At8 w g o r := by
  obtain ⟨h0, h1, h2, h3, h4, h5, h6, h7⟩ := h
  exact ⟨(hb.cell (p := ⟨g, o, none⟩) hg).trans h0, (hb.cell (p := ⟨g, o + 1, none⟩) hg).trans h1, (hb.cell (p := ⟨g, o + 2, none⟩) hg).trans h2, (hb.cell (p := ⟨g, o + 3, none⟩) hg).trans h3, (hb.cell (p := ⟨g, o + 4, none⟩) hg).trans h4, (hb.cell (p := ⟨g, o + 5, none⟩) hg).trans h5, (hb.cell (p := ⟨g, o + 6, none⟩) hg).trans h6, (hb.cell (p := ⟨g, o + 7, none⟩) hg).trans h7⟩
/-- A list of reports in memory. -/
def RqIn (W : World) (v : Value) (R : List Rq) : Prop := ∃ A cap, v = .slice A R.length cap ∧ R.length ≤ cap ∧ cap ≤ 9223372036854775807 ∧ ∀ i (h : i < R.length), ∃ g off, A = some ⟨g, off, none⟩ ∧ g < W.heap.size ∧ At8 W g (off + i * 8) R[i]
theorem RqIn.under {W W' : World} {v : Value} {R : List Rq} (h : RqIn W v R) (hb : Below W.heap.size W W') : RqIn W' v R := by
  obtain ⟨A, cap, h1, h2, h3, h4⟩ := h
  refine ⟨A, cap, h1, h2, h3, fun i hi => ?_⟩
  obtain ⟨g, off, e, hg, h8⟩ := h4 i hi
  exact ⟨g, off, e, Nat.lt_of_lt_of_le hg hb.size, h8.under hg hb⟩
theorem RqIn.own {W : World} {base : Nat} {v : Value} {R : List Rq} (h : W.ownsRow base 35 8 v R.length (rqc R)) : RqIn W v R := by
  rcases h.2 with ⟨rfl, h0⟩ | ⟨g, cap, cur, rfl, hb, hg, hc, hm, hs, hx⟩
  · exact ⟨none, 0, by rw [h0], by omega, by omega, fun i hi => by omega⟩
  · refine ⟨some ⟨g, 0, none⟩, cap, rfl, hc, by unfold maxLen at hm; omega, fun i hi => ⟨g, 0, rfl, (Array.getElem?_eq_some_iff.1 hg).1, ?_⟩⟩
    have k : ∀ j < 8, W.cell? ⟨g, 0 + i * 8 + j, none⟩ = (rqCells R[i])[j]? := fun j hj => by
      have h1 : W.cell? ⟨g, 0 + i * 8 + j, none⟩ = cur[0 + i * 8 + j]? := by simp [World.cell?, hg]
      rw [h1, ← rqc_at R i hi j hj, ← hx, Nat.zero_add, ← Array.getElem?_toList, List.getElem?_take, if_pos (by omega)]
    exact ⟨k 0 (by omega), k 1 (by omega), k 2 (by omega), k 3 (by omega), k 4 (by omega), k 5 (by omega), k 6 (by omega), k 7 (by omega)⟩
/-- The node of a place. -/
def nod (F A B C : Int) : Nat := (best (Lat.loc 8 F.toNat A B C)).1
theorem frq8 : Lat.frq 8 := ⟨by omega, by omega⟩
theorem nod_lt {F A B C : Int} (h : vb F A B C = true) : nod F A B C < 642 := by
  rcases ok_or 8 F A B C with h' | ⟨m, f, hm, rfl, -, hv⟩
  · rcases h' with h' | h'
    · omega
    · rw [h] at h'; cases h'
  · obtain ⟨-, -, -, -, -, hb⟩ := near_facts frq8 hv rfl
    exact (Lat.loc_in frq8 hv _ hb).1
/-- grid.Nearest at any place. -/
theorem nearest8_any (F A B C : Int) (w : World) : Calls Tryz.prog 52 #[.int .i64 8, .agg #[.int .i64 F, .int .i64 A, .int .i64 B, .int .i64 C]] w fun e w' => (vb F A B C = true ∧ e = .returned (.tuple #[.int .i64 (nod F A B C : Nat), .int .i64 0]) ∨ vb F A B C = false ∧ e = .returned (.tuple #[.int .i64 0, .int .i64 1])) ∧ Below w.heap.size w w' := by
  cases h : vb F A B C
  · exact (nearest_bad 8 F A B C w (.inr h)).mono fun e w' ⟨h1, h2⟩ => ⟨.inr ⟨rfl, h1⟩, h2⟩
  · rcases ok_or 8 F A B C with h' | ⟨m, f, hm, rfl, -, hv⟩
    · rcases h' with h' | h'
      · omega
      · rw [h] at h'; cases h'
    · exact (nearest_yes 8 f A B C w frq8 hv).mono fun e w' ⟨h1, h2⟩ => ⟨.inl ⟨rfl, h1⟩, h2⟩
theorem refNearest8_any (F A B C : Int) (w : World) : Calls Tryz.prog 25 #[.int .i64 8, .agg #[.int .i64 F, .int .i64 A, .int .i64 B, .int .i64 C]] w fun e w' => (vb F A B C = true ∧ e = .returned (.tuple #[.int .i64 (nod F A B C : Nat), .int .i64 0]) ∨ vb F A B C = false ∧ e = .returned (.tuple #[.int .i64 0, .int .i64 1])) ∧ Below w.heap.size w w' := by
  cases h : vb F A B C
  · exact (refNearest_bad 8 F A B C w (.inr h)).mono fun e w' ⟨h1, h2⟩ => ⟨.inr ⟨rfl, h1⟩, h2⟩
  · rcases ok_or 8 F A B C with h' | ⟨m, f, hm, rfl, -, hv⟩
    · rcases h' with h' | h'
      · omega
      · rw [h] at h'; cases h'
    · exact (refNearest_yes 8 f A B C w frq8 hv).mono fun e w' ⟨h1, h2⟩ => ⟨.inl ⟨rfl, h1⟩, h2⟩
theorem far_ex (a : Nat) : ∃ D : Nat → Nat, a < 642 → Lat.Far 8 a D := by
  by_cases h : a < 642
  · obtain ⟨D, hD⟩ := Lat.far_some frq8 (a := a) h
    exact ⟨D, fun _ => hD⟩
  · exact ⟨fun _ => 0, fun h' => absurd h' h⟩
/-- The hops between two nodes. -/
noncomputable def hp (a : Nat) : Nat → Nat := Classical.choose (far_ex a)
theorem hp_far {a : Nat} (h : a < 642) : Lat.Far 8 a (hp a) := Classical.choose_spec (far_ex a) h
theorem hp_le {a b : Nat} (ha : a < 642) (hb : b < 642) : hp a b ≤ 64 := Lat.dist_bound frq8 ha hb (hp_far ha b hb)
theorem hp_self {a : Nat} (h : a < 642) : hp a a = 0 := by
  have h1 := hp_far h a h
  rcases Nat.eq_zero_or_pos (hp a a) with h0 | h0
  · exact h0
  · exact absurd (show Lat.rch 8 a 0 a from by first | rfl | exact Lat.rch_zero | simp [Lat.rch]) (h1.2 0 h0)
theorem hops8_any (a b : Nat) (w : World) (ha : a < 642) (hb : b < 642) : Calls Tryz.prog 62 #[.int .i64 8, .int .i64 a, .int .i64 b] w fun e w' => e = .returned (.tuple #[.int .i64 (hp a b : Nat), .int .i64 0]) ∧ Below w.heap.size w w' :=
  (hops_yes 8 a b (hp a b) w frq8 ha hb (hp_far ha b hb) (by have := hp_le ha hb; omega)).mono fun e w' ⟨h1, h2⟩ => ⟨h1, h2⟩
/-- A sighting. -/
structure Sg where
  nm : ByteArray
  t : Int
  nd : Nat
  ix : Nat
def sgCells (x : Sg) : List Value := [.string x.nm, .int .i64 x.t, .int .i64 x.nd, .int .i64 x.ix]
def sgc (L : List Sg) : List Value := L.flatMap sgCells
theorem sgc_len : ∀ L : List Sg, (sgc L).length = L.length * 4
  | [] => rfl
  | r :: R => by
    show (sgCells r ++ sgc R).length = _
    rw [List.length_append, sgc_len R, List.length_cons]
    show 4 + _ = _
    omega
theorem sgc_one (R : List Sg) : ∀ u ∈ sgc R, u.oneCell' = true := by
  intro u hu
  obtain ⟨r, hm, hr⟩ := List.mem_flatMap.1 hu
  simp only [sgCells, List.mem_cons, List.not_mem_nil, or_false] at hr
  rcases hr with rfl | rfl | rfl | rfl <;> rfl
theorem sgc_app (A B : List Sg) : sgc (A ++ B) = sgc A ++ sgc B := by simp [sgc]
theorem sgc_at : ∀ (R : List Sg) (i : Nat) (h : i < R.length), ∀ j : Nat, j < 4 → (sgc R)[i * 4 + j]? = (sgCells R[i])[j]?
  | x :: r, 0, _, j, hj => by
    show (sgCells x ++ sgc r)[0 * 4 + j]? = _
    rw [Nat.zero_mul, Nat.zero_add, List.getElem?_append_left (by exact hj)]
    rfl
  | x :: r, i + 1, h, j, hj => by
    have := sgc_at r i (by simpa using h) j hj
    show (sgCells x ++ sgc r)[(i + 1) * 4 + j]? = _
    rw [List.getElem?_append_right (by show 4 ≤ _; omega), show (i + 1) * 4 + j - (sgCells x).length = i * 4 + j by show (i + 1) * 4 + j - 4 = _; omega]
    exact this
/-- The cells of a sighting. -/
def At4 (V : World) (g o : Nat) (r : Sg) : Prop :=
  V.cell? ⟨g, o, none⟩ = some (.string r.nm) ∧ V.cell? ⟨g, o + 1, none⟩ = some (.int .i64 r.t) ∧ V.cell? ⟨g, o + 2, none⟩ = some (.int .i64 r.nd) ∧ V.cell? ⟨g, o + 3, none⟩ = some (.int .i64 r.ix)
theorem At4.under {V w : World} {g o : Nat} {r : Sg} (h : At4 V g o r) (hg : g < V.heap.size) (hb : Below V.heap.size V w) : At4 w g o r := by
  obtain ⟨h0, h1, h2, h3⟩ := h
  exact ⟨(hb.cell (p := ⟨g, o, none⟩) hg).trans h0, (hb.cell (p := ⟨g, o + 1, none⟩) hg).trans h1, (hb.cell (p := ⟨g, o + 2, none⟩) hg).trans h2, (hb.cell (p := ⟨g, o + 3, none⟩) hg).trans h3⟩
/-- A list of sightings in memory. -/
def SgIn (W : World) (v : Value) (L : List Sg) : Prop := ∃ A cap, v = .slice A L.length cap ∧ L.length ≤ cap ∧ cap ≤ 9223372036854775807 ∧ ∀ i (h : i < L.length), ∃ g, A = some ⟨g, 0, none⟩ ∧ g < W.heap.size ∧ At4 W g (i * 4) L[i]
theorem SgIn.under {W W' : World} {v : Value} {L : List Sg} (h : SgIn W v L) (hb : Below W.heap.size W W') : SgIn W' v L := by
  obtain ⟨A, cap, h1, h2, h3, h4⟩ := h
  refine ⟨A, cap, h1, h2, h3, fun i hi => ?_⟩
  obtain ⟨g, e, hg, h8⟩ := h4 i hi
  exact ⟨g, e, Nat.lt_of_lt_of_le hg hb.size, h8.under hg hb⟩
theorem SgIn.own {W : World} {base : Nat} {v : Value} {L : List Sg} (h : W.ownsRow base 74 4 v L.length (sgc L)) : SgIn W v L := by
  rcases h.2 with ⟨rfl, h0⟩ | ⟨g, cap, cur, rfl, hb, hg, hc, hm, hs, hx⟩
  · exact ⟨none, 0, by rw [h0], by omega, by omega, fun i hi => by omega⟩
  · refine ⟨some ⟨g, 0, none⟩, cap, rfl, hc, by unfold maxLen at hm; omega, fun i hi => ⟨g, rfl, (Array.getElem?_eq_some_iff.1 hg).1, ?_⟩⟩
    have k : ∀ j < 4, W.cell? ⟨g, i * 4 + j, none⟩ = (sgCells L[i])[j]? := fun j hj => by
      have h1 : W.cell? ⟨g, i * 4 + j, none⟩ = cur[i * 4 + j]? := by simp [World.cell?, hg]
      rw [h1, ← sgc_at L i hi j hj, ← hx, ← Array.getElem?_toList, List.getElem?_take, if_pos (by omega)]
    exact ⟨k 0 (by omega), k 1 (by omega), k 2 (by omega), k 3 (by omega)⟩
/-- The sightings of the reports of some kinds. -/
def sgl (p : Int → Bool) : Nat → List Rq → List Sg
  | _, [] => []
  | i, r :: R => if p r.k = true then ⟨r.nm, r.t, nod r.F r.A r.B r.C, i⟩ :: sgl p (i + 1) R else sgl p (i + 1) R
def tOk (t : Int) : Bool := decide (0 ≤ t ∧ t ≤ 52595999)
def okr (r : Rq) : Bool := vb r.F r.A r.B r.C && tOk r.t
/-- All reports of these kinds can be examined. -/
def oks (p : Int → Bool) (R : List Rq) : Prop := ∀ r ∈ R, p r.k = true → okr r = true
theorem sgl_app (p : Int → Bool) : ∀ (R S : List Rq) (i : Nat), sgl p i (R ++ S) = sgl p i R ++ sgl p (i + R.length) S
  | [], S, i => by simp [sgl]
  | r :: R, S, i => by
    simp only [List.cons_append, sgl, List.length_cons]
    rw [sgl_app p R S (i + 1), show i + 1 + R.length = i + (R.length + 1) by omega]
    split <;> simp
theorem sgl_take {p : Int → Bool} {R : List Rq} {i : Nat} (h : i < R.length) : sgl p 0 (R.take (i + 1)) = sgl p 0 (R.take i) ++ if p R[i].k = true then [⟨R[i].nm, R[i].t, nod R[i].F R[i].A R[i].B R[i].C, i⟩] else [] := by
  rw [List.take_succ_eq_append_getElem h, sgl_app, List.length_take, Nat.min_eq_left (by omega), Nat.zero_add]
  simp only [sgl]
theorem sgl_len (p : Int → Bool) : ∀ (R : List Rq) (i : Nat), (sgl p i R).length ≤ R.length
  | [], _ => Nat.le_refl _
  | r :: R, i => by
    have := sgl_len p R (i + 1)
    simp only [sgl]
    split <;> simp only [List.length_cons] <;> omega
theorem infoSight : (Tryz.prog.info? 74).map (fun i => (i.zero, i.size, i.bytes)) = some (some (.agg #[.string ⟨#[]⟩, .int .i64 0, .int .i64 0, .int .i64 0]), 4, 40) := by kernel_rfl
end Go.Proofs.YtejoabaanclcbaaGreat.Tk


namespace Go.Proofs.YtejoabaanclcbaaGreat.Tk
open Go.RowKit

abbrev dl : ByteArray := ⟨#[68, 69, 76, 84, 65]⟩
theorem sets8 {w w0 : World} {B g : Nat} {t : TypeId} {y0 y1 y2 y3 y4 y5 y6 y7 : Value} (u0 u1 u2 u3 u4 u5 u6 u7 : Value) (h : Row w g t #[y0, y1, y2, y3, y4, y5, y6, y7]) (hb : Below B w0 w) (hg : B ≤ g) :
    Row ((((((((w.setCell ⟨g, 0, none⟩ u0).setCell ⟨g, 1, none⟩ u1).setCell ⟨g, 2, none⟩ u2).setCell ⟨g, 3, none⟩ u3).setCell ⟨g, 4, none⟩ u4).setCell ⟨g, 5, none⟩ u5).setCell ⟨g, 6, none⟩ u6).setCell ⟨g, 7, none⟩ u7) g t #[u0, u1, u2, u3, u4, u5, u6, u7] ∧
    Below B w0 ((((((((w.setCell ⟨g, 0, none⟩ u0).setCell ⟨g, 1, none⟩ u1).setCell ⟨g, 2, none⟩ u2).setCell ⟨g, 3, none⟩ u3).setCell ⟨g, 4, none⟩ u4).setCell ⟨g, 5, none⟩ u5).setCell ⟨g, 6, none⟩ u6).setCell ⟨g, 7, none⟩ u7) := by
  have h0 : Row _ g t #[u0, y1, y2, y3, y4, y5, y6, y7] := h.put 0 u0
  have h1 : Row _ g t #[u0, u1, y2, y3, y4, y5, y6, y7] := h0.put 1 u1
  have h2 : Row _ g t #[u0, u1, u2, y3, y4, y5, y6, y7] := h1.put 2 u2
  have h3 : Row _ g t #[u0, u1, u2, u3, y4, y5, y6, y7] := h2.put 3 u3
  have h4 : Row _ g t #[u0, u1, u2, u3, u4, y5, y6, y7] := h3.put 4 u4
  have h5 : Row _ g t #[u0, u1, u2, u3, u4, u5, y6, y7] := h4.put 5 u5
  have h6 : Row _ g t #[u0, u1, u2, u3, u4, u5, u6, y7] := h5.put 6 u6
  have h7 : Row _ g t #[u0, u1, u2, u3, u4, u5, u6, u7] := h6.put 7 u7
  exact ⟨h7, (((((((hb.setCell (p := ⟨g, 0, none⟩) hg _).setCell (p := ⟨g, 1, none⟩) hg _).setCell (p := ⟨g, 2, none⟩) hg _).setCell (p := ⟨g, 3, none⟩) hg _).setCell (p := ⟨g, 4, none⟩) hg _).setCell (p := ⟨g, 5, none⟩) hg _).setCell (p := ⟨g, 6, none⟩) hg _).setCell (p := ⟨g, 7, none⟩) hg _⟩
set_option maxRecDepth 100000 in
set_option maxHeartbeats 4000000 in
theorem at_any (t : Int) (f : Nat) (A B C : Int) (w : World) (hv : Ico.Vld f A B C) :
    Calls Tryz.prog 28 #[.int .i64 t, .agg #[.int .i64 f, .int .i64 A, .int .i64 B, .int .i64 C]] w fun e w' => e = .returned (rqV 2 dl t (Ico.nf f A B C : Nat) (nw f A B C 0) (nw f A B C 1) (nw f A B C 2) none 0 0) ∧ Below w.heap.size w w' := by
  have e1 : (w.alloc (.cells #[.int .i64 f, .int .i64 A, .int .i64 B, .int .i64 C] 32)).heap.size = w.heap.size + 1 := by simp
  have b1 := ((Below.refl w.heap.size w).alloc (Nat.le_refl _) (.cells #[.int .i64 f, .int .i64 A, .int .i64 B, .int .i64 C] 32))
  have b2 := b1.alloc (by omega) (.cells (rqC 0 ⟨#[]⟩ 0 0 0 0 0 none 0 0) 35)
  have r0 := Row.new (w.alloc (.cells #[.int .i64 f, .int .i64 A, .int .i64 B, .int .i64 C] 32)) (rqC 0 ⟨#[]⟩ 0 0 0 0 0 none 0 0) 35
  rw [e1] at r0
  have B2 := Lib.hid b2; have R0 := Lib.hid r0
  clear b1 b2 r0
  go_enter Tryz.func28, Tryz.ntmps28
  go_wp2_with fail
  refine (refNormal_yes f A B C _ hv).mono ?_
  rintro e w9 ⟨rfl, g9⟩
  have b9 := B2.out.trans (g9.mono (by simp; omega))
  have r9 := R0.out.under g9
  clear B2 R0 hv
  have b10 := Lib.hid (b9.alloc (by have := b9.size; omega) (.cells #[.int .i64 (Ico.nf f A B C : Nat), .int .i64 (nw f A B C 0), .int .i64 (nw f A B C 1), .int .i64 (nw f A B C 2)] 32))
  have r10 := Lib.hid (r9.alloc (.cells #[.int .i64 (Ico.nf f A B C : Nat), .int .i64 (nw f A B C 0), .int .i64 (nw f A B C 1), .int .i64 (nw f A B C 2)] 32))
  have rp := Lib.hid (Row.new w9 #[.int .i64 (Ico.nf f A B C : Nat), .int .i64 (nw f A B C 0), .int .i64 (nw f A B C 1), .int .i64 (nw f A B C 2)] 32)
  have hge : Hid (w.heap.size ≤ w.heap.size + 1) := Lib.hid (by omega)
  clear b9 r9 g9
  go_upto_region 2 with fail
  generalize w9.alloc (.cells #[.int .i64 (Ico.nf f A B C : Nat), .int .i64 (nw f A B C 0), .int .i64 (nw f A B C 1), .int .i64 (nw f A B C 2)] 32) = Y at *
  generalize w9.heap.size = gp at *
  generalize w.heap.size + 1 = gr at *
  obtain ⟨p0, p1, p2, p3⟩ := row4 rp.out
  obtain ⟨q0, q1, q2, q3, q4, q5, q6, q7⟩ := row8 r10.out
  have f0 := r10.out.thaw 0
  have f1 := r10.out.thaw 1
  have f2 := r10.out.thaw 2
  have f3 := r10.out.thaw 3
  have f4 := r10.out.thaw 4
  have f5 := r10.out.thaw 5
  have f6 := r10.out.thaw 6
  have f7 := r10.out.thaw 7
  have HZ := Lib.hid (sets8 (.int .i64 2) (.string dl) (.int .i64 t) (.int .i64 (Ico.nf f A B C : Nat)) (.int .i64 (nw f A B C 0)) (.int .i64 (nw f A B C 1)) (.int .i64 (nw f A B C 2)) (.slice none 0 0) r10.out b10.out hge.out)
  clear b10 r10 rp
  go_wp2_with fail
  exact bodyPost_ret (v := rqV 2 dl t (Ico.nf f A B C : Nat) (nw f A B C 0) (nw f A B C 1) (nw f A B C 2) none 0 0) (results_cell_row Tryz.results28 _ _ gr 35 _ (0, 0) _ rfl HZ.out.1 Tryz.underlying35 rfl (by kernel_rfl)) rfl ⟨rfl, HZ.out.2⟩
end Go.Proofs.YtejoabaanclcbaaGreat.Tk


namespace Go.Proofs.YtejoabaanclcbaaGreat.Tk
open Go.RowKit

theorem nod_one {f x y : Nat} {A B C : Int} (hf : f < 20) (hxy : x + y ≤ 8) (h : Lat.tri 8 A B C = [((x, y), 840), ((x, y), 0), ((x, y), 0)]) : nod (f : Nat) A B C = Lat.dg (Lat.IX 8) (Lat.off f x y) := by
  have e : Lat.loc 8 f A B C = [(Lat.idx 8 f x y, 840)] := by
    unfold Lat.loc Lat.shl
    rw [h]
    rfl
  unfold nod
  rw [Int.toNat_natCast, e, Lat.idx_dg frq8 hf hxy]
  rfl
def ws (a : Nat) : Nat → List Nat
  | 0 => [a]
  | k + 1 => (ws a k).flatMap (Lat.nbs 8)
theorem rch_ws {a : Nat} : ∀ {k x : Nat}, Lat.rch 8 a k x → x ∈ ws a k
  | 0, x, h => by rw [show x = a from h]; exact List.mem_singleton_self _
  | k + 1, x, ⟨y, hy, hx⟩ => List.mem_flatMap.2 ⟨y, rch_ws hy, hx⟩
theorem ws_rch {a : Nat} : ∀ {k x : Nat}, x ∈ ws a k → Lat.rch 8 a k x
  | 0, x, h => List.mem_singleton.1 h
  | k + 1, x, h => by
    obtain ⟨y, hy, hx⟩ := List.mem_flatMap.1 h
    exact ⟨y, ws_rch hy, hx⟩
def nA : Nat := Lat.dg (Lat.IX 8) (Lat.off 0 8 0)
def nB : Nat := Lat.dg (Lat.IX 8) (Lat.off 0 3 5)
theorem nod_a : nod 0 840 0 0 = nA := nod_one (f := 0) (x := 8) (y := 0) (by omega) (by omega) (by decide +kernel)
theorem nod_b : nod 0 315 525 0 = nB := nod_one (f := 0) (x := 3) (y := 5) (by omega) (by omega) (by decide +kernel)
theorem nA_lt : nA < 642 := Nat.le_of_ble_eq_true (by decide +kernel : Nat.ble (nA + 1) 642 = true)
theorem nB_lt : nB < 642 := Nat.le_of_ble_eq_true (by decide +kernel : Nat.ble (nB + 1) 642 = true)
theorem ws_5 : Lat.mb nB (ws nA 5) = true := by decide +kernel
theorem ws_0 : Lat.mb nB (ws nA 0 ++ (ws nA 1 ++ ws nA 2)) = false := by decide +kernel
theorem mem_mb {y : Nat} : ∀ {l : List Nat}, y ∈ l → Lat.mb y l = true
  | x :: r, h => by
    unfold Lat.mb
    rcases List.mem_cons.1 h with rfl | h
    · simp
    · simp [mem_mb h]
/-- The way from the one to the other: three to five hops. -/
theorem hp_ab : 3 ≤ hp nA nB ∧ hp nA nB ≤ 5 := by
  have h := hp_far nA_lt nB nB_lt
  refine ⟨Nat.le_of_not_lt fun hlt => ?_, Lat.dist_le h (ws_rch (Lat.mb_mem ws_5))⟩
  have hm := rch_ws h.1
  have : nB ∈ ws nA 0 ++ (ws nA 1 ++ ws nA 2) := by
    simp only [List.mem_append]
    rcases (by omega : hp nA nB = 0 ∨ hp nA nB = 1 ∨ hp nA nB = 2) with e | e | e <;> rw [e] at hm
    · exact .inl hm
    · exact .inr (.inl hm)
    · exact .inr (.inr hm)
  have := mem_mb this
  rw [ws_0] at this
  cases this
end Go.Proofs.YtejoabaanclcbaaGreat.Tk

