/- The walk of PlaceAnswers: for every two places, list and two ints the law returns true, and what lay in memory is as it was. -/
import Derived.Test.YteccblhmpggcgaaDoorAnsMath
import Derived.Test.YteccblhmpggcgaaDoorSome
import Derived.Test.YteccblhmpggcgaaDoorAwake
namespace Go.Proofs.YteccblhmpggcgaaDoor
open Go.RowKit

theorem range_at (W Y : World) (b : Nat) (w : World) (lo hi : Int) (h : Src W b w ∧ Y.grownBy w (some b)) (n1 : lo ≤ hi) (n2 : hi - lo ≤ 90000000) (l1 : -1000000000 ≤ lo) (l2 : lo ≤ 1000000000) :
    Calls Tryd.prog 11 #[.pointer (some ⟨b, 0, none⟩), .int .i64 lo, .int .i64 hi] w fun e w' => ∃ x, e = .returned (.int .i64 x) ∧ Src W b w' ∧ Y.grownBy w' (some b) :=
  (range_any W b w lo hi h.1 n1 n2 l1 l2).mono fun _ _ ⟨x, _, he, hs, hg⟩ => ⟨x, he, hs, grown_trans h.2 hg⟩
theorem n_at (W Y : World) (b : Nat) (w : World) (n : Int) (h : Src W b w ∧ Y.grownBy w (some b)) (n1 : 1 ≤ n) (n2 : n ≤ 100000000) :
    Calls Tryd.prog 12 #[.pointer (some ⟨b, 0, none⟩), .int .i64 n] w fun e w' => ∃ x, e = .returned (.int .i64 x) ∧ Src W b w' ∧ Y.grownBy w' (some b) :=
  (n_any W b w n h.1 n1 n2).mono fun _ _ ⟨x, _, he, hs, hg⟩ => ⟨x, he, hs, grown_trans h.2 hg⟩
abbrev Pq (w : World) (g : Nat) (f a b c : Int) : Prop := Row w g 23 #[.int .i64 f, .int .i64 a, .int .i64 b, .int .i64 c]
/-- What is known between the steps: the reader, the four places. -/
structure St (Y : World) (b g5 g6 g12 g13 : Nat) (c5 c6 c12 c13 : Array Value) (w : World) : Prop where
  src : Src Y b w
  r5 : Row w g5 23 c5
  r6 : Row w g6 23 c6
  r12 : Row w g12 23 c12
  r13 : Row w g13 23 c13
  n5 : g5 ≠ b
  n6 : g6 ≠ b
  n12 : g12 ≠ b
  n13 : g13 ≠ b
section
variable {Y w w' : World} {b g5 g6 g12 g13 : Nat} {c5 c6 c12 c13 : Array Value}
theorem St.under (h : St Y b g5 g6 g12 g13 c5 c6 c12 c13 w) (hb : Below w.heap.size w w') : St Y b g5 g6 g12 g13 c5 c6 c12 c13 w' :=
  ⟨h.src.under hb, h.r5.under hb, h.r6.under hb, h.r12.under hb, h.r13.under hb, h.n5, h.n6, h.n12, h.n13⟩
theorem St.drew (h : St Y b g5 g6 g12 g13 c5 c6 c12 c13 w) : St Y b g5 g6 g12 g13 c5 c6 c12 c13 w.drew :=
  h.under ⟨rfl, rfl, rfl, Nat.le_refl _, fun _ _ => rfl⟩
theorem St.alloc (h : St Y b g5 g6 g12 g13 c5 c6 c12 c13 w) (o : Obj) : St Y b g5 g6 g12 g13 c5 c6 c12 c13 (w.alloc o) := h.under ((Below.refl _ _).alloc (Nat.le_refl _) o)
theorem St.read (h : St Y b g5 g6 g12 g13 c5 c6 c12 c13 w) (k : Src Y b w' ∧ w.grownBy w' (some b)) : St Y b g5 g6 g12 g13 c5 c6 c12 c13 w' :=
  ⟨k.1, h.r5.grown k.2 (fun e => h.n5 (by injection e)), h.r6.grown k.2 (fun e => h.n6 (by injection e)), h.r12.grown k.2 (fun e => h.n12 (by injection e)), h.r13.grown k.2 (fun e => h.n13 (by injection e)), h.n5, h.n6, h.n12, h.n13⟩
end
theorem St.cells {Y w w1 : World} {b g5 g6 g12 g13 : Nat} {p0 p1 p2 p3 q0 q1 q2 q3 f x y z f' x' y' z' : Int} (h : St Y b g5 g6 g12 g13 #[.int .i64 p0, .int .i64 p1, .int .i64 p2, .int .i64 p3] #[.int .i64 q0, .int .i64 q1, .int .i64 q2, .int .i64 q3] #[.int .i64 f, .int .i64 x, .int .i64 y, .int .i64 z] #[.int .i64 f', .int .i64 x', .int .i64 y', .int .i64 z'] w) (k : Src Y b w1 ∧ w.grownBy w1 (some b)) :
    ((w1.cell? ⟨g5, 0, none⟩ = some (.int .i64 p0) ∧ w1.cell? ⟨g5, 1, none⟩ = some (.int .i64 p1) ∧ w1.cell? ⟨g5, 2, none⟩ = some (.int .i64 p2) ∧ w1.cell? ⟨g5, 3, none⟩ = some (.int .i64 p3)) ∧ (w1.cell? ⟨g6, 0, none⟩ = some (.int .i64 q0) ∧ w1.cell? ⟨g6, 1, none⟩ = some (.int .i64 q1) ∧ w1.cell? ⟨g6, 2, none⟩ = some (.int .i64 q2) ∧ w1.cell? ⟨g6, 3, none⟩ = some (.int .i64 q3))) ∧ ((w1.cell? ⟨g12, 0, none⟩ = some (.int .i64 f) ∧ w1.cell? ⟨g12, 1, none⟩ = some (.int .i64 x) ∧ w1.cell? ⟨g12, 2, none⟩ = some (.int .i64 y) ∧ w1.cell? ⟨g12, 3, none⟩ = some (.int .i64 z)) ∧ (w1.cell? ⟨g13, 0, none⟩ = some (.int .i64 f') ∧ w1.cell? ⟨g13, 1, none⟩ = some (.int .i64 x') ∧ w1.cell? ⟨g13, 2, none⟩ = some (.int .i64 y') ∧ w1.cell? ⟨g13, 3, none⟩ = some (.int .i64 z'))) :=
  ⟨⟨row4 (h.read k).r5, row4 (h.read k).r6⟩, row4 (h.read k).r12, row4 (h.read k).r13⟩
/-- The five places, in a block. -/
def Fv (w : World) (g : Nat) : Prop := ∃ c : Array Value, Row w g 23 c ∧ ∀ j, j < 5 → ∃ F A B C : Int, c[j * 4]? = some (.int .i64 F) ∧ c[j * 4 + 1]? = some (.int .i64 A) ∧ c[j * 4 + 2]? = some (.int .i64 B) ∧ c[j * 4 + 3]? = some (.int .i64 C)
theorem Fv.under {w w' : World} {g : Nat} (h : Fv w g) (hb : Below w.heap.size w w') : Fv w' g := by
  obtain ⟨c, r, k⟩ := h
  exact ⟨c, r.under hb, k⟩
theorem Fv.at {w : World} {g : Nat} (h : Fv w g) (j : Nat) (hj : j < 5) : ∃ F A B C : Int, w.cell? ⟨g, j * 4, none⟩ = some (.int .i64 F) ∧ w.cell? ⟨g, j * 4 + 1, none⟩ = some (.int .i64 A) ∧ w.cell? ⟨g, j * 4 + 2, none⟩ = some (.int .i64 B) ∧ w.cell? ⟨g, j * 4 + 3, none⟩ = some (.int .i64 C) := by
  obtain ⟨c, r, k⟩ := h
  obtain ⟨F, A, B, C, k0, k1, k2, k3⟩ := k j hj
  exact ⟨F, A, B, C, (r.cell _).trans k0, (r.cell _).trans k1, (r.cell _).trans k2, (r.cell _).trans k3⟩
theorem fv_new (w : World) (a0 a1 a2 a3 a4 a5 a6 a7 a8 a9 b0 b1 b2 b3 b4 b5 b6 b7 b8 b9 : Int) :
    Fv (w.alloc (.cells #[.int .i64 a0, .int .i64 a1, .int .i64 a2, .int .i64 a3, .int .i64 a4, .int .i64 a5, .int .i64 a6, .int .i64 a7, .int .i64 a8, .int .i64 a9, .int .i64 b0, .int .i64 b1, .int .i64 b2, .int .i64 b3, .int .i64 b4, .int .i64 b5, .int .i64 b6, .int .i64 b7, .int .i64 b8, .int .i64 b9] 23)) w.heap.size := by
  refine ⟨_, Row.new _ _ _, fun j hj => ?_⟩
  have h : j = 0 ∨ j = 1 ∨ j = 2 ∨ j = 3 ∨ j = 4 := by omega
  rcases h with rfl | rfl | rfl | rfl | rfl
  · exact ⟨a0, a1, a2, a3, rfl, rfl, rfl, rfl⟩
  · exact ⟨a4, a5, a6, a7, rfl, rfl, rfl, rfl⟩
  · exact ⟨a8, a9, b0, b1, rfl, rfl, rfl, rfl⟩
  · exact ⟨b2, b3, b4, b5, rfl, rfl, rfl, rfl⟩
  · exact ⟨b6, b7, b8, b9, rfl, rfl, rfl, rfl⟩
/-- What is known in a round of the first loop. -/
structure Lo (Y : World) (b g5 g6 g12 g13 : Nat) (c5 c6 c12 c13 : Array Value) (gs g15 : Nat) (F A B C : Int) (w : World) : Prop where
  st : St Y b g5 g6 g12 g13 c5 c6 c12 c13 w
  fv : Fv w gs
  p15 : Pq w g15 F A B C
section
variable {Y w w' : World} {b g5 g6 g12 g13 gs g15 : Nat} {c5 c6 c12 c13 : Array Value} {F A B C : Int}
theorem Lo.under (h : Lo Y b g5 g6 g12 g13 c5 c6 c12 c13 gs g15 F A B C w) (hb : Below w.heap.size w w') : Lo Y b g5 g6 g12 g13 c5 c6 c12 c13 gs g15 F A B C w' :=
  ⟨h.st.under hb, h.fv.under hb, h.p15.under hb⟩
theorem Lo.alloc (h : Lo Y b g5 g6 g12 g13 c5 c6 c12 c13 gs g15 F A B C w) (o : Obj) : Lo Y b g5 g6 g12 g13 c5 c6 c12 c13 gs g15 F A B C (w.alloc o) := h.under ((Below.refl _ _).alloc (Nat.le_refl _) o)
end
theorem places_at (l m : Value) (n : Nat) (D : Nat → Int) (w0 w : World) (hb : Below w0.heap.size w0 w) (hn : n ≤ 20) (h1 : LstAt w0 l n D) (h2 : LstAt w0 m n D) :
    Calls Tryd.prog 19 #[l, m] w fun e w' => e = .returned (.bool true) ∧ Below w0.heap.size w0 w' :=
  (places_any l m n D w hn (h1.under hb) (h2.under hb)).mono fun _ _ ⟨he, hg⟩ => ⟨he, hb.trans (hg.mono hb.size)⟩
theorem Lo.cells {Y w w1 : World} {b g5 g6 g12 g13 gs g15 g16 g18 : Nat} {c6 c13 : Array Value} {F A B C n0 n1 n2 n3 p0 p1 p2 p3 f x y z : Int} (h : Lo Y b g5 g6 g12 g13 #[.int .i64 p0, .int .i64 p1, .int .i64 p2, .int .i64 p3] c6 #[.int .i64 f, .int .i64 x, .int .i64 y, .int .i64 z] c13 gs g15 F A B C w)
    (h1 : Pq w g16 n0 n1 n2 n3) (h2 : Pq w g18 n0 n1 n2 n3) (k : Below w.heap.size w w1) : (((w1.cell? ⟨g16, 0, none⟩ = some (.int .i64 n0) ∧ w1.cell? ⟨g16, 1, none⟩ = some (.int .i64 n1) ∧ w1.cell? ⟨g16, 2, none⟩ = some (.int .i64 n2) ∧ w1.cell? ⟨g16, 3, none⟩ = some (.int .i64 n3)) ∧ (w1.cell? ⟨g18, 0, none⟩ = some (.int .i64 n0) ∧ w1.cell? ⟨g18, 1, none⟩ = some (.int .i64 n1) ∧ w1.cell? ⟨g18, 2, none⟩ = some (.int .i64 n2) ∧ w1.cell? ⟨g18, 3, none⟩ = some (.int .i64 n3))) ∧ ((w1.cell? ⟨g15, 0, none⟩ = some (.int .i64 F) ∧ w1.cell? ⟨g15, 1, none⟩ = some (.int .i64 A) ∧ w1.cell? ⟨g15, 2, none⟩ = some (.int .i64 B) ∧ w1.cell? ⟨g15, 3, none⟩ = some (.int .i64 C)) ∧ (w1.cell? ⟨g12, 0, none⟩ = some (.int .i64 f) ∧ w1.cell? ⟨g12, 1, none⟩ = some (.int .i64 x) ∧ w1.cell? ⟨g12, 2, none⟩ = some (.int .i64 y) ∧ w1.cell? ⟨g12, 3, none⟩ = some (.int .i64 z)))) ∧ (w1.cell? ⟨g5, 0, none⟩ = some (.int .i64 p0) ∧ w1.cell? ⟨g5, 1, none⟩ = some (.int .i64 p1) ∧ w1.cell? ⟨g5, 2, none⟩ = some (.int .i64 p2) ∧ w1.cell? ⟨g5, 3, none⟩ = some (.int .i64 p3)) :=
  ⟨⟨⟨row4 (h1.under k), row4 (h2.under k)⟩, row4 (h.p15.under k), row4 (h.st.r12.under k)⟩, row4 (h.st.r5.under k)⟩
/-- The four pairs, in a block. -/
def Gv (w : World) (g : Nat) : Prop := ∃ (t : TypeId) (c : Array Value), Row w g t c ∧ ∀ j, j < 4 → ∃ F K : Int, c[j * 2]? = some (.int .i64 F) ∧ c[j * 2 + 1]? = some (.int .i64 K)
theorem Gv.under {w w' : World} {g : Nat} (h : Gv w g) (hb : Below w.heap.size w w') : Gv w' g := by
  obtain ⟨t, c, r, k⟩ := h
  exact ⟨t, c, r.under hb, k⟩
theorem Gv.at {w : World} {g : Nat} (h : Gv w g) (j : Nat) (hj : j < 4) : ∃ F K : Int, w.cell? ⟨g, j * 2, none⟩ = some (.int .i64 F) ∧ w.cell? ⟨g, j * 2 + 1, none⟩ = some (.int .i64 K) := by
  obtain ⟨t, c, r, k⟩ := h
  obtain ⟨F, K, k0, k1⟩ := k j hj
  exact ⟨F, K, (r.cell _).trans k0, (r.cell _).trans k1⟩
theorem gv_new (w : World) (t : TypeId) (a0 a1 a2 a3 a4 a5 a6 a7 : Int) :
    Gv (w.alloc (.cells #[.int .i64 a0, .int .i64 a1, .int .i64 a2, .int .i64 a3, .int .i64 a4, .int .i64 a5, .int .i64 a6, .int .i64 a7] t)) w.heap.size := by
  refine ⟨_, _, Row.new _ _ _, fun j hj => ?_⟩
  have h : j = 0 ∨ j = 1 ∨ j = 2 ∨ j = 3 := by omega
  rcases h with rfl | rfl | rfl | rfl
  · exact ⟨a0, a1, rfl, rfl⟩
  · exact ⟨a2, a3, rfl, rfl⟩
  · exact ⟨a4, a5, rfl, rfl⟩
  · exact ⟨a6, a7, rfl, rfl⟩
theorem row2 {w : World} {b : Nat} {t : TypeId} {x y : Value} (h : Row w b t #[x, y]) : w.cell? ⟨b, 0, none⟩ = some x ∧ w.cell? ⟨b, 1, none⟩ = some y :=
  ⟨(h.cell 0).trans rfl, (h.cell 1).trans rfl⟩
attribute [local go_sem] eq_place eq_three
set_option maxRecDepth 100000 in
set_option maxHeartbeats 4000000 in
theorem placeAnswers_any (p0 p1 p2 p3 q0 q1 q2 q3 : Int) (v : Value) (face corner : Int) (w : World) (hE : Env w) (hl : ListIn w v) :
    Calls Tryd.prog 3 #[.agg #[.int .i64 p0, .int .i64 p1, .int .i64 p2, .int .i64 p3], .agg #[.int .i64 q0, .int .i64 q1, .int .i64 q2, .int .i64 q3], v, .int .i64 face, .int .i64 corner] w fun e w' => e = .returned (.bool true) ∧ Below w.heap.size w w' := by
  go_enter Tryd.func3, Tryd.ntmps3
  go_upto_region 1 with fail
  refine forget (fun Y => Below w.heap.size w Y ∧ Pq Y w.heap.size p0 p1 p2 p3 ∧ Pq Y (w.heap.size + 1) q0 q1 q2 q3) ⟨((Below.refl _ _).alloc (Nat.le_refl _) _).alloc (by simp) _, (Row.new _ _ _).alloc _, Row.newAt (by simp)⟩ ?_
  rintro Y ⟨bY, P5, P6⟩
  have hYl := P6.lt
  have hl2 := hl.under bY
  clear hl
  have g56 : w.heap.size ≠ w.heap.size + 1 := by omega
  have g5l : w.heap.size ≤ w.heap.size := Nat.le_refl _
  generalize hg5 : w.heap.size = g5 at P5 P6 hYl
  generalize hg6 : g5 + 1 = g6 at P6 hYl
  go_wp2_with fail
  refine (new_any _ _ hl2).mono ?_
  rintro e w1 ⟨rfl, s1, b1⟩
  go_wp2_with fail
  refine (somewhere_any _ _ _ s1).mono ?_
  rintro e w2 ⟨f, x, y, z, hp, rfl, s2, t2⟩
  go_wp2_with fail
  refine (somewhere_any _ _ _ s2).mono ?_
  rintro e w3 ⟨f', x', y', z', hq, rfl, s3, t3⟩
  have hl3 : Y.heap.size < w3.heap.size := by
    obtain ⟨_, _, _, _, _, _, h3, _⟩ := s3.row
    exact (Array.getElem?_eq_some_iff.1 h3).1
  have T : St Y Y.heap.size g5 g6 w3.heap.size (w3.heap.size + 1) #[.int .i64 p0, .int .i64 p1, .int .i64 p2, .int .i64 p3] #[.int .i64 q0, .int .i64 q1, .int .i64 q2, .int .i64 q3] #[.int .i64 ((f : Nat)), .int .i64 x, .int .i64 y, .int .i64 z] #[.int .i64 ((f' : Nat)), .int .i64 x', .int .i64 y', .int .i64 z'] ((w3.alloc (.cells #[.int .i64 ((f : Nat)), .int .i64 x, .int .i64 y, .int .i64 z] 23)).alloc (.cells #[.int .i64 ((f' : Nat)), .int .i64 x', .int .i64 y', .int .i64 z'] 23)) :=
    ⟨(s3.under ((Below.refl _ _).alloc (Nat.le_refl _) _)).under ((Below.refl _ _).alloc (Nat.le_refl _) _), ((P5.under s3.below).alloc _).alloc _, ((P6.under s3.below).alloc _).alloc _, (Row.new _ _ _).alloc _, Row.newAt (by simp), by omega, by omega, by omega, by omega⟩
  go_upto_region 3 with fail
  refine forget (St Y Y.heap.size g5 g6 w3.heap.size (w3.heap.size + 1) _ _ _ _) T ?_
  clear T s1 s2 s3 t2 t3 b1 P5 P6 hYl hl2 hp hq
  generalize hg13 : w3.heap.size + 1 = g13 at *
  generalize hg12 : w3.heap.size = g12 at *
  generalize hb : Y.heap.size = b at *
  rintro X T
  have hb2 : Src Y b X.drew ∧ X.drew.grownBy X.drew (some b) := ⟨T.drew.src, grown_refl _ _⟩
  obtain ⟨⟨⟨a50, a51, a52, a53⟩, a60, a61, a62, a63⟩, ⟨a12, a13, a14, a15⟩, a16, a17, a18, a19⟩ := T.cells (w1 := X) ⟨T.src, grown_refl _ _⟩
  have HT := Lib.hid T.drew; clear T
  go_region_held3 (fun w' => ((w'.cell? ⟨g5, 0, none⟩ = some (.int .i64 p0) ∧ w'.cell? ⟨g5, 1, none⟩ = some (.int .i64 p1) ∧ w'.cell? ⟨g5, 2, none⟩ = some (.int .i64 p2) ∧ w'.cell? ⟨g5, 3, none⟩ = some (.int .i64 p3)) ∧ (w'.cell? ⟨g6, 0, none⟩ = some (.int .i64 q0) ∧ w'.cell? ⟨g6, 1, none⟩ = some (.int .i64 q1) ∧ w'.cell? ⟨g6, 2, none⟩ = some (.int .i64 q2) ∧ w'.cell? ⟨g6, 3, none⟩ = some (.int .i64 q3))) ∧ ((w'.cell? ⟨g12, 0, none⟩ = some (.int .i64 (f : Nat)) ∧ w'.cell? ⟨g12, 1, none⟩ = some (.int .i64 x) ∧ w'.cell? ⟨g12, 2, none⟩ = some (.int .i64 y) ∧ w'.cell? ⟨g12, 3, none⟩ = some (.int .i64 z)) ∧ (w'.cell? ⟨g13, 0, none⟩ = some (.int .i64 (f' : Nat)) ∧ w'.cell? ⟨g13, 1, none⟩ = some (.int .i64 x') ∧ w'.cell? ⟨g13, 2, none⟩ = some (.int .i64 y') ∧ w'.cell? ⟨g13, 3, none⟩ = some (.int .i64 z'))))
    (first | go_keep | exact St.cells HT.out hb2)
    (first | (go_at_call 11; refine (range_at _ X.drew _ _ _ _ hb2 (by omega) (by omega) (by omega) (by omega)).mono ?_; clear hb2; rintro e w2 ⟨d, rfl, hb2⟩) | (go_at_call 12; refine (n_at _ X.drew _ _ _ hb2 (by omega) (by omega)).mono ?_; clear hb2; rintro e w2 ⟨d, rfl, hb2⟩))
  have T := HT.out.read hb2
  go_wp2_with fail
  refine forget (fun Z => St Y b g5 g6 g12 g13 _ _ _ _ Z ∧ Fv Z w2.heap.size) ⟨T.alloc _, fv_new _ _ _ _ _ _ _ _ _ _ _ _ _ _ _ _ _ _ _ _ _⟩ ?_
  clear hb2 HT T
  generalize w2.heap.size = gs at *
  rintro Z ⟨T, K⟩
  go_loopw [59] (fun t wr => ∃ i : Nat, i ≤ 5 ∧ t = .int .i64 i ∧ St Y b g5 g6 g12 g13 _ _ _ _ wr ∧ Fv wr gs) (fun t _ => 5 - (intOf t).toNat)
  case atStart => exact ⟨0, by omega, rfl, T, K⟩
  case round =>
    clear T K
    obtain ⟨i, hi, rfl, T, K⟩ := hrel
    by_cases hlt : i < 5
    · obtain ⟨F, A, B, C, k0, k1, k2, k3⟩ := K.at i hlt
      have L := Lo.mk (T.alloc (.cells #[.int .i64 F, .int .i64 A, .int .i64 B, .int .i64 C] 23)) (K.under ((Below.refl _ _).alloc (Nat.le_refl _) _)) (Row.new wr _ _)
      clear T K
      have HL := Lib.hid L; clear L
      go_upto_region 6 with fail
      refine forget (Lo Y b g5 g6 g12 g13 _ _ _ _ gs wr.heap.size F A B C) HL.out ?_
      clear HL k0 k1 k2 k3
      generalize wr.heap.size = g15 at *
      rintro Z L
      obtain ⟨n0, n1, n2, n3, e0, kN, kM⟩ := both_normal F A B C
      obtain ⟨n, D, r0, hn, kA, kB⟩ := both_addresses F A B C
      obtain ⟨t, r1, kF, kG⟩ := both_format F A B C
      have KN := Lib.hid kN; clear kN
      have KM := Lib.hid kM; clear kM
      have KA := Lib.hid kA; clear kA
      have KB := Lib.hid kB; clear kB
      have KF := Lib.hid kF; clear kF
      have KG := Lib.hid kG; clear kG
      obtain ⟨k0, k1, k2, k3⟩ := row4 L.p15
      have HL := Lib.hid L; clear L
      go_wp2_with fail
      refine (KN.out _).mono ?_
      rintro e w4 ⟨rfl, hb4⟩
      go_upto_region 7 with fail
      refine forget (fun V => Lo Y b g5 g6 g12 g13 _ _ _ _ gs g15 F A B C V ∧ Pq V w4.heap.size n0 n1 n2 n3) ⟨(HL.out.under hb4).alloc _, Row.new _ _ _⟩ ?_
      clear HL hb4 k0 k1 k2 k3
      generalize w4.heap.size = g16 at *
      rintro V ⟨L, P16⟩
      obtain ⟨k0, k1, k2, k3⟩ := row4 L.p15
      have HL := Lib.hid L; clear L
      go_wp2_with fail
      refine (KM.out _).mono ?_
      rintro e w5 ⟨rfl, hb5⟩
      go_upto_region 8 with fail
      refine forget (fun V => Lo Y b g5 g6 g12 g13 _ _ _ _ gs g15 F A B C V ∧ Pq V g16 n0 n1 n2 n3 ∧ Pq V w5.heap.size n0 n1 n2 n3) ⟨(HL.out.under hb5).alloc _, (P16.under hb5).alloc _, Row.new _ _ _⟩ ?_
      clear HL hb5 P16 k0 k1 k2 k3
      generalize w5.heap.size = g18 at *
      rintro V ⟨L, P16, P18⟩
      obtain ⟨k0, k1, k2, k3⟩ := row4 L.p15
      have HL := Lib.hid L; clear L
      go_wp2_with fail
      refine (KA.out _).mono ?_
      rintro e w6 ⟨v20, rfl, hb6, l20⟩
      have P := (⟨HL.out.under hb6, P16.under hb6, P18.under hb6⟩ : Lo Y b g5 g6 g12 g13 _ _ _ _ gs g15 F A B C w6 ∧ Pq w6 g16 n0 n1 n2 n3 ∧ Pq w6 g18 n0 n1 n2 n3)
      clear HL P16 P18 hb6 k0 k1 k2 k3
      obtain ⟨L, P16, P18⟩ := P
      obtain ⟨k0, k1, k2, k3⟩ := row4 L.p15
      have HL := Lib.hid L; clear L
      have H20 := Lib.hid l20; clear l20
      go_wp2_with fail
      refine (KB.out _).mono ?_
      rintro e w7 ⟨v22, rfl, hb7, l22⟩
      have P := (⟨HL.out.under hb7, P16.under hb7, P18.under hb7, H20.out.under hb7⟩ : Lo Y b g5 g6 g12 g13 _ _ _ _ gs g15 F A B C w7 ∧ Pq w7 g16 n0 n1 n2 n3 ∧ Pq w7 g18 n0 n1 n2 n3 ∧ LstAt w7 v20 n D)
      clear HL P16 P18 hb7 k0 k1 k2 k3 H20
      obtain ⟨L, P16, P18, l20⟩ := P
      obtain ⟨k0, k1, k2, k3⟩ := row4 L.p15
      have bL := bY.trans (L.st.src.below.mono bY.size)
      have HL := Lib.hid L; clear L
      have H20 := Lib.hid l20; clear l20
      have H22 := Lib.hid l22; clear l22
      go_wp2_with fail
      refine (KF.out _ (hE.under bL)).mono ?_
      rintro e w8 ⟨rfl, hb8⟩
      have P := (⟨HL.out.under hb8, P16.under hb8, P18.under hb8, H20.out.under hb8, H22.out.under hb8⟩ : Lo Y b g5 g6 g12 g13 _ _ _ _ gs g15 F A B C w8 ∧ Pq w8 g16 n0 n1 n2 n3 ∧ Pq w8 g18 n0 n1 n2 n3 ∧ LstAt w8 v20 n D ∧ LstAt w8 v22 n D)
      clear HL P16 P18 hb8 k0 k1 k2 k3 H20 H22 bL
      obtain ⟨L, P16, P18, l20, l22⟩ := P
      obtain ⟨k0, k1, k2, k3⟩ := row4 L.p15
      have HL := Lib.hid L; clear L
      have H20 := Lib.hid l20; clear l20
      have H22 := Lib.hid l22; clear l22
      go_wp2_with fail
      refine (KG.out _).mono ?_
      rintro e w9 ⟨rfl, hb9⟩
      have P := (⟨HL.out.under hb9, P16.under hb9, P18.under hb9, H20.out.under hb9, H22.out.under hb9⟩ : Lo Y b g5 g6 g12 g13 _ _ _ _ gs g15 F A B C w9 ∧ Pq w9 g16 n0 n1 n2 n3 ∧ Pq w9 g18 n0 n1 n2 n3 ∧ LstAt w9 v20 n D ∧ LstAt w9 v22 n D)
      clear HL P16 P18 hb9 k0 k1 k2 k3 H20 H22 KN KM KA KB KF KG
      obtain ⟨L, P16, P18, l20, l22⟩ := P
      go_upto_region 12 with fail
      refine forget (fun V => Lo Y b g5 g6 g12 g13 _ _ _ _ gs g15 F A B C V ∧ Pq V g16 n0 n1 n2 n3 ∧ Pq V g18 n0 n1 n2 n3 ∧ LstAt V v20 n D ∧ LstAt V v22 n D) ⟨L, P16, P18, l20, l22⟩ ?_
      clear L P16 P18 l20 l22
      rintro U ⟨L, P16, P18, l20, l22⟩
      have hb2 := Below.refl U.drew.heap.size U.drew
      have l20' : LstAt U.drew v20 n D := l20
      have l22' : LstAt U.drew v22 n D := l22
      have L' : Lo Y b g5 g6 g12 g13 _ _ _ _ gs g15 F A B C U.drew := L.under ⟨rfl, rfl, rfl, Nat.le_refl _, fun _ _ => rfl⟩
      obtain ⟨⟨⟨⟨a0, a1, a2, a3⟩, a4, a5, a6, a7⟩, ⟨a8, a9, a10, a11⟩, a12, a13, a14, a15⟩, a16, a17, a18, a19⟩ := L.cells P16 P18 (Below.refl _ _)
      have HL := Lib.hid L'; clear L' L
      have R16 := Lib.hid P16; clear P16
      have R18 := Lib.hid P18; clear P18
      have H20 := Lib.hid l20'; clear l20' l20
      have H22 := Lib.hid l22'; clear l22' l22
      go_region_held3 (fun w' => (((w'.cell? ⟨g16, 0, none⟩ = some (.int .i64 n0) ∧ w'.cell? ⟨g16, 1, none⟩ = some (.int .i64 n1) ∧ w'.cell? ⟨g16, 2, none⟩ = some (.int .i64 n2) ∧ w'.cell? ⟨g16, 3, none⟩ = some (.int .i64 n3)) ∧ (w'.cell? ⟨g18, 0, none⟩ = some (.int .i64 n0) ∧ w'.cell? ⟨g18, 1, none⟩ = some (.int .i64 n1) ∧ w'.cell? ⟨g18, 2, none⟩ = some (.int .i64 n2) ∧ w'.cell? ⟨g18, 3, none⟩ = some (.int .i64 n3))) ∧ ((w'.cell? ⟨g15, 0, none⟩ = some (.int .i64 F) ∧ w'.cell? ⟨g15, 1, none⟩ = some (.int .i64 A) ∧ w'.cell? ⟨g15, 2, none⟩ = some (.int .i64 B) ∧ w'.cell? ⟨g15, 3, none⟩ = some (.int .i64 C)) ∧ (w'.cell? ⟨g12, 0, none⟩ = some (.int .i64 (f : Nat)) ∧ w'.cell? ⟨g12, 1, none⟩ = some (.int .i64 x) ∧ w'.cell? ⟨g12, 2, none⟩ = some (.int .i64 y) ∧ w'.cell? ⟨g12, 3, none⟩ = some (.int .i64 z)))) ∧ (w'.cell? ⟨g5, 0, none⟩ = some (.int .i64 p0) ∧ w'.cell? ⟨g5, 1, none⟩ = some (.int .i64 p1) ∧ w'.cell? ⟨g5, 2, none⟩ = some (.int .i64 p2) ∧ w'.cell? ⟨g5, 3, none⟩ = some (.int .i64 p3)))
        (first | go_keep | exact Lo.cells HL.out R16.out R18.out hb2)
        (first | (go_at_call 19; refine (places_at _ _ _ _ U.drew _ hb2 hn H20.out H22.out).mono ?_; clear hb2; rintro e w2 ⟨rfl, hb2⟩) | (go_at_call 20; refine (valid_from _ _ _ _ U.drew _ hb2).mono ?_; clear hb2; rintro e w2 ⟨rfl, hb2⟩) | (go_at_call 21; refine (refValid_from _ _ _ _ U.drew _ hb2).mono ?_; clear hb2; rintro e w2 ⟨rfl, hb2⟩) | (go_at_call 22; refine (same_from _ _ _ _ _ _ _ _ U.drew _ hb2).mono ?_; clear hb2; rintro e w2 ⟨rfl, hb2⟩) | (go_at_call 23; refine (refSame_from _ _ _ _ _ _ _ _ U.drew _ hb2).mono ?_; clear hb2; rintro e w2 ⟨rfl, hb2⟩))
      go_wp2_with fail
      have T := (HL.out.under hb2).st
      have K := (HL.out.under hb2).fv
      go_roundw
      case rel => exact ⟨i + 1, by omega, by go_num, T, K⟩
      case measure => simp [intOf]; omega
    · clear K
      go_wp2_with fail
      refine (n_at _ wr _ _ _ ⟨T.src, grown_refl _ _⟩ (by omega) (by omega)).mono ?_
      rintro e w4 ⟨d1, rfl, h4⟩
      have T4 := T.read h4
      clear T h4
      go_wp2_with fail
      refine (n_at _ w4 _ _ _ ⟨T4.src, grown_refl _ _⟩ (by omega) (by omega)).mono ?_
      rintro e w5 ⟨d2, rfl, h5⟩
      have T5 := T4.read h5
      clear T4 h5
      go_wp2_with fail
      refine (n_at _ w5 _ _ _ ⟨T5.src, grown_refl _ _⟩ (by omega) (by omega)).mono ?_
      rintro e w6 ⟨d3, rfl, h6⟩
      have T6 := T5.read h6
      clear T5 h6
      go_wp2_with fail
      refine (n_at _ w6 _ _ _ ⟨T6.src, grown_refl _ _⟩ (by omega) (by omega)).mono ?_
      rintro e w7 ⟨d4, rfl, h7⟩
      have T7 := T6.read h7
      clear T6 h7
      go_wp2_with fail
      refine forget (fun Z => St Y b g5 g6 g12 g13 _ _ _ _ Z ∧ Gv Z w7.heap.size) ⟨T7.alloc _, gv_new _ _ _ _ _ _ _ _ _ _⟩ ?_
      clear T7
      generalize w7.heap.size = gp at *
      rintro Z ⟨T, K⟩
      go_loopw [166] (fun t wr => ∃ i : Nat, i ≤ 4 ∧ t = .int .i64 i ∧ St Y b g5 g6 g12 g13 _ _ _ _ wr ∧ Gv wr gp) (fun t _ => 4 - (intOf t).toNat)
      case atStart => exact ⟨0, by omega, rfl, T, K⟩
      case round =>
        clear T K
        obtain ⟨i, hi, rfl, T, K⟩ := hrel
        by_cases hlt2 : i < 4
        · obtain ⟨N, M, k0, k1⟩ := K.at i hlt2
          obtain ⟨a, b', c, r, kC, kD⟩ := both_corners N
          obtain ⟨o, r1, kA, kB⟩ := both_across N M
          have KC := Lib.hid kC; clear kC
          have KD := Lib.hid kD; clear kD
          have KA := Lib.hid kA; clear kA
          have KB := Lib.hid kB; clear kB
          have HT := Lib.hid T; clear T
          have HK := Lib.hid K; clear K
          go_upto_region 18 with fail
          refine forget (fun V => St Y b g5 g6 g12 g13 _ _ _ _ V ∧ Gv V gp ∧ ∃ t, Row V «wr».heap.size t #[.int .i64 N, .int .i64 M]) ⟨HT.out.alloc _, HK.out.under ((Below.refl _ _).alloc (Nat.le_refl _) _), _, Row.new _ _ _⟩ ?_
          clear HT HK k0 k1
          generalize «wr».heap.size = g29 at *
          rintro V ⟨T, K, ty, R⟩
          obtain ⟨k0, k1⟩ := row2 R
          have HT := Lib.hid T; clear T
          go_wp2_with fail
          refine (KC.out _).mono ?_
          rintro e w8 ⟨rfl, hb8⟩
          go_upto_region 19 with fail
          refine forget (fun V => St Y b g5 g6 g12 g13 _ _ _ _ V ∧ Gv V gp ∧ Row V g29 ty #[.int .i64 N, .int .i64 M] ∧ ∃ t, Row V w8.heap.size t #[.int .i64 a, .int .i64 b', .int .i64 c]) ⟨(HT.out.under hb8).alloc _, (K.under hb8).under ((Below.refl _ _).alloc (Nat.le_refl _) _), (R.under hb8).alloc _, _, Row.new _ _ _⟩ ?_
          clear HT K R hb8 k0 k1
          generalize w8.heap.size = g30 at *
          rintro V ⟨T, K, R, ty2, R30⟩
          obtain ⟨k0, k1⟩ := row2 R
          have HT := Lib.hid T; clear T
          go_wp2_with fail
          refine (KD.out _).mono ?_
          rintro e w9 ⟨rfl, hb9⟩
          go_upto_region 20 with fail
          refine forget (fun V => St Y b g5 g6 g12 g13 _ _ _ _ V ∧ Gv V gp ∧ Row V g29 ty #[.int .i64 N, .int .i64 M] ∧ Row V g30 ty2 #[.int .i64 a, .int .i64 b', .int .i64 c] ∧ ∃ t, Row V w9.heap.size t #[.int .i64 a, .int .i64 b', .int .i64 c]) ⟨(HT.out.under hb9).alloc _, (K.under hb9).under ((Below.refl _ _).alloc (Nat.le_refl _) _), (R.under hb9).alloc _, (R30.under hb9).alloc _, _, Row.new _ _ _⟩ ?_
          clear HT K R R30 hb9 k0 k1
          generalize w9.heap.size = g32 at *
          rintro V ⟨T, K, R, R30, ty3, R32⟩
          obtain ⟨k0, k1⟩ := row2 R
          have HT := Lib.hid T; clear T
          go_wp2_with fail
          refine (KA.out _).mono ?_
          rintro e w10 ⟨rfl, hb10⟩
          have P := (⟨HT.out.under hb10, K.under hb10, R.under hb10, R30.under hb10, R32.under hb10⟩ : St Y b g5 g6 g12 g13 _ _ _ _ w10 ∧ Gv w10 gp ∧ Row w10 g29 ty #[.int .i64 N, .int .i64 M] ∧ Row w10 g30 ty2 #[.int .i64 a, .int .i64 b', .int .i64 c] ∧ Row w10 g32 ty3 #[.int .i64 a, .int .i64 b', .int .i64 c])
          clear HT K R R30 R32 hb10 k0 k1
          obtain ⟨T, K, R, R30, R32⟩ := P
          obtain ⟨k0, k1⟩ := row2 R
          have HT := Lib.hid T; clear T
          go_wp2_with fail
          refine (KB.out _).mono ?_
          rintro e w11 ⟨rfl, hb11⟩
          have P := (⟨HT.out.under hb11, K.under hb11, R30.under hb11, R32.under hb11⟩ : St Y b g5 g6 g12 g13 _ _ _ _ w11 ∧ Gv w11 gp ∧ Row w11 g30 ty2 #[.int .i64 a, .int .i64 b', .int .i64 c] ∧ Row w11 g32 ty3 #[.int .i64 a, .int .i64 b', .int .i64 c])
          clear HT K R R30 R32 hb11 k0 k1 KA KB KC KD
          obtain ⟨T, K, R30, R32⟩ := P
          obtain ⟨k0, k1, k2⟩ := row3 R30
          obtain ⟨m0, m1, m2⟩ := row3 R32
          have HT := Lib.hid T; clear T
          have HK := Lib.hid K; clear K
          go_wp2_with fail
          go_roundw
          case rel => exact ⟨i + 1, by omega, by go_num, HT.out, HK.out⟩
          case measure => simp [intOf]; omega
        · have br := bY.trans (T.src.below.mono bY.size)
          clear K
          go_wp2_with fail
          refine (awake_from _ hE br).mono ?_
          rintro e w9 ⟨rfl, g9⟩
          go_wp2_with fail
          go_ret
          exact ⟨rfl, g9⟩
end Go.Proofs.YteccblhmpggcgaaDoor
