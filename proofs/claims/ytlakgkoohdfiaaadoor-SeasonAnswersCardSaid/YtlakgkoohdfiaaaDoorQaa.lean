/- Texts of this proof. -/
import Derived.Test.YtlakgkoohdfiaaaDoorChecked
import Derived.WalkKit
import Derived.WalkSpells
import Derived.WalkLawsBesides
import Derived.Deep.QuietTactic
import Derived.BigQuiet
import Derived.Lib.Hide
import Derived.Outline
import Derived.Below
import Derived.Deep.RegionWith
import Derived.Deep.RegionHeld3
import Derived.Deep.Cut
import Derived.Deep.CutRange
import Derived.Deep.Draws
import Derived.Deep.AppendLies
import Derived.Deep.RegionLaw
import Derived.RegionTactic
import Derived.BigRegion
import Derived.StillTailTactics
import Derived.LoopTactic
import Derived.Laws.OwnMore
import Derived.OpenShut
import Derived.IntWalk
import Derived.Laws.Rows
import Derived.Test.YtlakgkoohdfiaaaDoorQag
import Derived.Maps.RangeWalk
import Derived.OrdersHeld
namespace Go.Proofs.YtlakgkoohdfiaaaDoor
open Go.RowKit

theorem bcell {W w1 : World} (hb : Below W.heap.size W w1) : (∀ b o, b < W.heap.size → w1.cell? ⟨b, o, none⟩ = W.cell? ⟨b, o, none⟩) ∧ (∀ b o, b < W.heap.size → w1.frozen? ⟨b, o, none⟩ = W.frozen? ⟨b, o, none⟩) :=
  ⟨fun b o h => hb.cell (p := ⟨b, o, none⟩) h, fun b o h => hb.frozen (p := ⟨b, o, none⟩) h⟩
theorem ret_bool {a b : Bool} (h : a = b) : Ending.returned (.bool a) = .returned (.bool b) := by rw [h]
/-- A text out of its bytes. -/
def S (l : List UInt8) : ByteArray := ⟨l.toArray⟩
theorem S_add (a b : List UInt8) : S a ++ S b = S (a ++ b) := by unfold S; rw [ByteArray.mk_append_mk]
theorem S_size (a : List UInt8) : (S a).size = a.length := by simp [S, ByteArray.size]
theorem S_list (l : List UInt8) : (S l).data.toList = l := by simp [S]
theorem S_of (s : ByteArray) : S s.data.toList = s := by simp [S]
theorem S_inj {a b : List UInt8} (h : S a = S b) : a = b := by rw [← S_list a, h, S_list]
theorem ret_str {a b : ByteArray} (h : a = b) : Ending.returned (.string a) = .returned (.string b) := by rw [h]
theorem ret_str2 {a b : ByteArray} {c : Int} (h : a = b) : Ending.returned (.tuple #[.string a, .int .i64 c]) = .returned (.tuple #[.string b, .int .i64 c]) := by rw [h]
theorem toList_beq (a b : ByteArray) : (a.toList == b.toList) = decide (a = b) := by
  rw [ByteArray.toList_eq, ByteArray.toList_eq, Bool.eq_iff_iff, beq_iff_eq, decide_eq_true_iff]
  exact ⟨fun h => by rw [← S_of a, ← S_of b, h], fun h => by rw [h]⟩
theorem toList_ne {a b : ByteArray} (h : a ≠ b) : (a.toList == b.toList) = false := by rw [toList_beq]; simp [h]
theorem toList_same {a b : ByteArray} (h : a = b) : (a.toList == b.toList) = true := by rw [toList_beq]; simp [h]
theorem ret_i64 {a b : Int} (h : a = b) : Ending.returned (.int .i64 a) = .returned (.int .i64 b) := by rw [h]
end Go.Proofs.YtlakgkoohdfiaaaDoor


namespace Go.Proofs.YtlakgkoohdfiaaaDoor
open Go.RowKit

/-- Block g holds these cells, all of which may be written. -/
def Row (w : World) (g : Nat) (t : TypeId) (cs : Array Value) : Prop := w.heap[g]? = some (.cells cs t (0, 0))
section
variable {w w' : World} {g : Nat} {t : TypeId} {cs : Array Value}
theorem Row.lt (h : Row w g t cs) : g < w.heap.size := (Array.getElem?_eq_some_iff.1 h).1
theorem Row.cell (h : Row w g t cs) (j : Nat) : w.cell? ⟨g, j, none⟩ = cs[j]? := by
  unfold Row at h
  simp [World.cell?, h]
theorem Row.thaw (h : Row w g t cs) (j : Nat) : w.frozen? ⟨g, j, none⟩ = false := by
  unfold Row at h
  simp [World.frozen?, h]
theorem Row.new (w : World) (cs : Array Value) (t : TypeId) : Row (w.alloc (.cells cs t)) w.heap.size t cs := heap_alloc_new w _
theorem Row.newAt (hg : w.heap.size = g) : Row (w.alloc (.cells cs t)) g t cs := hg ▸ heap_alloc_new w _
theorem Row.under (h : Row w g t cs) (hb : Below w.heap.size w w') : Row w' g t cs := (hb.block g h.lt).trans h
theorem Row.grown {r : Option Nat} (h : Row w g t cs) (hb : w.grownBy w' r) (hr : some g ≠ r) : Row w' g t cs := (hb.block g h.lt hr).trans h
theorem Row.drew (h : Row w g t cs) : Row w.drew g t cs := h
theorem Row.drewN (h : Row w g t cs) (n : Nat) : Row (w.drewN n) g t cs := h
theorem Row.alloc (h : Row w g t cs) (o : Obj) : Row (w.alloc o) g t cs := (Below.heap_alloc w o g h.lt).trans h
theorem Row.put (h : Row w g t cs) (j : Nat) (u : Value) : Row (w.setCell ⟨g, j, none⟩ u) g t (cs.setIfInBounds j u) := by
  unfold Row at h ⊢
  simp [World.setCell, Array.getElem?_modify, h]
theorem Row.far (h : Row w g t cs) {p : Addr} (hp : p.block ≠ g) (u : Value) : Row (w.setCell p u) g t cs := (Below.heap_setCell w p u g (Ne.symm hp)).trans h
end
/-- Of the world only what is said here is needed from now on. -/
theorem forget {P : Program} {C : Code} {Q : Exit → Act → World → Prop} {a : Act} {X : World} (R : World → Prop) (hR : R X) (h : ∀ Y, R Y → Code.wp P C Q a Y) : Code.wp P C Q a X := h X hR
theorem undrew {a w : World} (h : Below a.drew.heap.size a.drew w) : Below a.heap.size a w := ⟨h.os, h.tape, h.output, h.size, h.block⟩
theorem below_drewN {B : Nat} {w w' : World} (h : Below B w w') (n : Nat) : Below B w (w'.drewN n) := ⟨h.os, h.tape, h.output, h.size, h.block⟩
/-- The corners' block. -/
theorem row3 {w : World} {b : Nat} {t : TypeId} {x y z : Value} (h : Row w b t #[x, y, z]) :
    w.cell? ⟨b, 0, none⟩ = some x ∧ w.cell? ⟨b, 1, none⟩ = some y ∧ w.cell? ⟨b, 2, none⟩ = some z :=
  ⟨(h.cell 0).trans rfl, (h.cell 1).trans rfl, (h.cell 2).trans rfl⟩
theorem row4 {w : World} {b : Nat} {t : TypeId} {x y z u : Value} (h : Row w b t #[x, y, z, u]) :
    w.cell? ⟨b, 0, none⟩ = some x ∧ w.cell? ⟨b, 1, none⟩ = some y ∧ w.cell? ⟨b, 2, none⟩ = some z ∧ w.cell? ⟨b, 3, none⟩ = some u :=
  ⟨(h.cell 0).trans rfl, (h.cell 1).trans rfl, (h.cell 2).trans rfl, (h.cell 3).trans rfl⟩
theorem set4_row {w : World} {g : Nat} {t : TypeId} {y0 y1 y2 y3 : Value} (u0 u1 u2 u3 : Value) (h : Row w g t #[y0, y1, y2, y3]) :
    Row ((((w.setCell ⟨g, 0, none⟩ u0).setCell ⟨g, 1, none⟩ u1).setCell ⟨g, 2, none⟩ u2).setCell ⟨g, 3, none⟩ u3) g t #[u0, u1, u2, u3] := by
  have h0 : Row (w.setCell ⟨g, 0, none⟩ u0) g t #[u0, y1, y2, y3] := h.put 0 _
  have h1 : Row ((w.setCell ⟨g, 0, none⟩ u0).setCell ⟨g, 1, none⟩ u1) g t #[u0, u1, y2, y3] := h0.put 1 _
  have h2 : Row (((w.setCell ⟨g, 0, none⟩ u0).setCell ⟨g, 1, none⟩ u1).setCell ⟨g, 2, none⟩ u2) g t #[u0, u1, u2, y3] := h1.put 2 _
  exact h2.put 3 _
theorem set4_below {w0 w : World} {B g : Nat} {u0 u1 u2 u3 : Value} (h : Below B w0 w) (hg : B ≤ g) :
    Below B w0 ((((w.setCell ⟨g, 0, none⟩ u0).setCell ⟨g, 1, none⟩ u1).setCell ⟨g, 2, none⟩ u2).setCell ⟨g, 3, none⟩ u3) :=
  (((h.setCell (p := ⟨g, 0, none⟩) hg _).setCell (p := ⟨g, 1, none⟩) hg _).setCell (p := ⟨g, 2, none⟩) hg _).setCell (p := ⟨g, 3, none⟩) hg _
theorem set4_far {w : World} {g x : Nat} {t : TypeId} {cs : Array Value} (u0 u1 u2 u3 : Value) (h : Row w x t cs) (hx : g ≠ x) :
    Row ((((w.setCell ⟨g, 0, none⟩ u0).setCell ⟨g, 1, none⟩ u1).setCell ⟨g, 2, none⟩ u2).setCell ⟨g, 3, none⟩ u3) x t cs :=
  (((h.far (p := ⟨g, 0, none⟩) hx _).far (p := ⟨g, 1, none⟩) hx _).far (p := ⟨g, 2, none⟩) hx _).far (p := ⟨g, 3, none⟩) hx _
theorem set2_row {w : World} {g : Nat} {t : TypeId} {y0 y1 : Value} (u0 u1 : Value) (h : Row w g t #[y0, y1]) :
    Row ((w.setCell ⟨g, 0, none⟩ u0).setCell ⟨g, 1, none⟩ u1) g t #[u0, u1] := by
  have h0 : Row (w.setCell ⟨g, 0, none⟩ u0) g t #[u0, y1] := h.put 0 _
  exact h0.put 1 _
theorem set2_below {w0 w : World} {B g : Nat} {u0 u1 : Value} (h : Below B w0 w) (hg : B ≤ g) : Below B w0 ((w.setCell ⟨g, 0, none⟩ u0).setCell ⟨g, 1, none⟩ u1) :=
  (h.setCell (p := ⟨g, 0, none⟩) hg _).setCell (p := ⟨g, 1, none⟩) hg _
theorem row2 {w : World} {b : Nat} {t : TypeId} {x y : Value} (h : Row w b t #[x, y]) : w.cell? ⟨b, 0, none⟩ = some x ∧ w.cell? ⟨b, 1, none⟩ = some y :=
  ⟨(h.cell 0).trans rfl, (h.cell 1).trans rfl⟩
end Go.Proofs.YtlakgkoohdfiaaaDoor


namespace Go.Proofs.YtlakgkoohdfiaaaDoor.El
open Go.RowKit

/-- The table of the elements as it lies in memory. -/
def Tab (w : World) : Prop := ∀ k : Nat, k < 11 → w.cell? ⟨0, k * 3, none⟩ = some (.int .i64 (Elt.leas.getD k 0)) ∧ w.cell? ⟨0, k * 3 + 1, none⟩ = some (.int .i64 (Elt.mosts.getD k 0)) ∧ w.cell? ⟨0, k * 3 + 2, none⟩ = some (.int .i64 (Elt.digss.getD k 0 : Nat))
theorem Tab.pos {w : World} (h : Tab w) : 0 < w.heap.size := by
  have h0 := (h 0 (by omega)).1
  exact World.block_lt_of_cell? w _ h0
theorem Tab.under {w w' : World} (h : Tab w) (hb : Below w.heap.size w w') : Tab w' := fun k hk => by
  obtain ⟨a, b, c⟩ := h k hk
  exact ⟨(hb.cell (p := ⟨0, k * 3, none⟩) h.pos).trans a, (hb.cell (p := ⟨0, k * 3 + 1, none⟩) h.pos).trans b, (hb.cell (p := ⟨0, k * 3 + 2, none⟩) h.pos).trans c⟩
theorem eleven {c : Int} (h : Elt.Ex c) : c = 1 ∨ c = 2 ∨ c = 3 ∨ c = 4 ∨ c = 5 ∨ c = 6 ∨ c = 7 ∨ c = 8 ∨ c = 9 ∨ c = 10 ∨ c = 11 := by unfold Elt.Ex at h; omega
/-- The row of an element as a value. -/
abbrev infoV (c : Int) : Value := .agg #[.string (S [Elt.lt c]), .int .i64 (Elt.lo c), .int .i64 (Elt.hi c), .int .i64 (Elt.dg c)]
set_option maxHeartbeats 1000000 in
theorem describe_no (c : Int) (w : World) (h : ¬ Elt.Ex c) :
    Calls Tryd.prog 91 #[.int .i64 c] w fun e w' => e = .returned (.tuple #[.agg #[.string ⟨#[]⟩, .int .i64 0, .int .i64 0, .int .i64 0], .int .i64 4]) ∧ Below w.heap.size w w' := by
  by_cases h1 : c < 1
  · clear h
    go_enter Tryd.func91, Tryd.ntmps91
    go_wp2
    exact bodyPost_ret (v := .tuple #[.agg #[.string ⟨#[]⟩, .int .i64 0, .int .i64 0, .int .i64 0], .int .i64 4]) (by simp [results, Tryd.results91, go_sem]) rfl ⟨rfl, (Below.refl _ _).alloc (Nat.le_refl _) _⟩
  · have h2 : 11 < c := by unfold Elt.Ex at h; omega
    clear h
    go_enter Tryd.func91, Tryd.ntmps91
    go_wp2
    exact bodyPost_ret (v := .tuple #[.agg #[.string ⟨#[]⟩, .int .i64 0, .int .i64 0, .int .i64 0], .int .i64 4]) (by simp [results, Tryd.results91, go_sem]) rfl ⟨rfl, (Below.refl _ _).alloc (Nat.le_refl _) _⟩
theorem conv_let : ∀ k : Fin 11, ∀ w, (convert 5 9 (.int .u8 ((Elt.lets.getD k 0).toNat : Nat))).run Tryd.prog w = .ok (.string (S [Elt.lets.getD k 0])) w := by
  intro ⟨k, hk⟩ w
  rcases (by omega : k = 0 ∨ k = 1 ∨ k = 2 ∨ k = 3 ∨ k = 4 ∨ k = 5 ∨ k = 6 ∨ k = 7 ∨ k = 8 ∨ k = 9 ∨ k = 10) with rfl | rfl | rfl | rfl | rfl | rfl | rfl | rfl | rfl | rfl | rfl <;> kernel_rfl
theorem index_let : ∀ k : Fin 11, ∀ h : k.val < ByteArray.size ⟨#[80, 84, 68, 69, 78, 65, 66, 70, 71, 74, 75]⟩, (⟨#[80, 84, 68, 69, 78, 65, 66, 70, 71, 74, 75]⟩ : ByteArray)[k.val]'h = Elt.lets.getD k 0 := by
  intro ⟨k, hk⟩ h
  rcases (by omega : k = 0 ∨ k = 1 ∨ k = 2 ∨ k = 3 ∨ k = 4 ∨ k = 5 ∨ k = 6 ∨ k = 7 ∨ k = 8 ∨ k = 9 ∨ k = 10) with rfl | rfl | rfl | rfl | rfl | rfl | rfl | rfl | rfl | rfl | rfl <;> rfl
set_option maxHeartbeats 4000000 in
theorem describe_yes (c : Int) (w : World) (h : Elt.Ex c) (hT : Tab w) :
    Calls Tryd.prog 91 #[.int .i64 c] w fun e w' => e = .returned (.tuple #[infoV c, .int .i64 0]) ∧ Below w.heap.size w w' := by
  have hp := hT.pos
  obtain ⟨k, rfl, hk⟩ : ∃ k : Nat, c = (k : Int) + 1 ∧ k < 11 := ⟨(c - 1).toNat, by unfold Elt.Ex at h; omega, by unfold Elt.Ex at h; omega⟩
  obtain ⟨t0, t1, t2⟩ := hT k hk
  have ek : ((k : Int) + 1 - 1).toNat = k := by omega
  have x1 : IntKind.i64.wrap (k : Int) = (k : Int) := IntWalk.i64_in _ (by omega)
  have e1 := conv_let ⟨k, hk⟩
  have e2 := index_let ⟨k, hk⟩
  have E0 : Hid (Elt.lt ((k : Int) + 1) = Elt.lets.getD k 0 ∧ Elt.lo ((k : Int) + 1) = Elt.leas.getD k 0 ∧ Elt.hi ((k : Int) + 1) = Elt.mosts.getD k 0 ∧ Elt.dg ((k : Int) + 1) = Elt.digss.getD k 0) := Lib.hid (by unfold Elt.lt Elt.lo Elt.hi Elt.dg; rw [ek]; exact ⟨rfl, rfl, rfl, rfl⟩)
  simp only at e1 e2
  generalize Elt.lets.getD k 0 = lb at *
  generalize Elt.leas.getD k 0 = a at *
  generalize Elt.mosts.getD k 0 = m at *
  generalize Elt.digss.getD k 0 = d at *
  have k0 : (0 : Int) ≤ (k : Int) := by omega
  have k1 : (k : Int) < 11 := by omega
  clear hT h ek
  go_enter Tryd.func91, Tryd.ntmps91
  go_upto_region 4 with fail
  refine forget (fun Y => Below w.heap.size w Y ∧ Row Y w.heap.size 102 #[.string ⟨#[]⟩, .int .i64 0, .int .i64 0, .int .i64 0] ∧ Row Y (w.heap.size + 1) 170 #[.int .i64 a, .int .i64 m, .int .i64 d]) ⟨((Below.refl _ _).alloc (Nat.le_refl _) _).alloc (by simp) _, (Row.new _ _ _).alloc _, Row.newAt (by simp)⟩ ?_
  clear t0 t1 t2 hp
  rintro Y ⟨bY, r4, r3⟩
  obtain ⟨p0, p1, p2⟩ := row3 r3
  have f0 := r4.thaw 0
  have f1 := r4.thaw 1
  have f2 := r4.thaw 2
  have f3 := r4.thaw 3
  obtain ⟨q0, q1, q2, q3⟩ := row4 r4
  have R4 := Lib.hid r4
  have R3 := Lib.hid r3
  have BY := Lib.hid bY
  clear r3 r4 bY
  refine wp_region_held_drew (S := fun w' : World => w'.cell? ⟨w.heap.size + 1, 0, none⟩ = some (.int .i64 a) ∧ w'.cell? ⟨w.heap.size + 1, 1, none⟩ = some (.int .i64 m) ∧ w'.cell? ⟨w.heap.size + 1, 2, none⟩ = some (.int .i64 d)) (by kernel_rfl) ⟨p0, p1, p2⟩ (fun hHeld => ?_)
  refine wpAnyH_take (i := 0) (v := ?_) rfl (by kernel_rfl) (by kernel_rfl) (by kernel_rfl) (fun _ _ _ h => h) (Or.inl ⟨by rfl, ?_⟩) (by assumption) ?_
  case refine_2 => (intro wx hSx; (try dsimp only at hSx); go_simp; first | done | with_reducible rfl)
  try simp only [Act.put, List.setIfInBounds_toArray]
  refine wpAnyH_take (i := 1) (v := ?_) rfl (by kernel_rfl) (by kernel_rfl) (by kernel_rfl) (fun _ _ _ h => h) (Or.inl ⟨by rfl, ?_⟩) (by assumption) ?_
  case refine_2 => (intro wx hSx; (try dsimp only at hSx); go_simp; first | done | with_reducible rfl)
  try simp only [Act.put]
  refine wpAnyH_take (i := 2) (v := ?_) rfl (by kernel_rfl) (by kernel_rfl) (by kernel_rfl) (fun _ _ _ h => h) (Or.inl ⟨by rfl, ?_⟩) (by assumption) ?_
  case refine_2 => (intro wx hSx; (try dsimp only at hSx); go_simp; first | done | with_reducible rfl)
  try simp only [Act.put]
  refine wpAnyH_take (i := 3) (v := ?_) rfl (by kernel_rfl) (by kernel_rfl) (by kernel_rfl) (fun _ _ _ h => h) (Or.inl ⟨by rfl, ?_⟩) (by assumption) ?_
  case refine_2 => (intro wx hSx; (try dsimp only at hSx); go_simp; first | done | with_reducible rfl)
  try simp only [Act.put]
  refine wpAnyH_take (i := 4) (v := ?_) rfl (by kernel_rfl) (by kernel_rfl) (by kernel_rfl) (fun _ _ _ h => h) (Or.inl ⟨by rfl, ?_⟩) (by assumption) ?_
  case refine_2 => (intro wx hSx; (try dsimp only at hSx); go_simp; first | done | with_reducible rfl)
  try simp only [Act.put]
  refine wpAnyH_take (i := 5) (v := ?_) rfl (by kernel_rfl) (by kernel_rfl) (by kernel_rfl) (fun _ _ _ h => h) (Or.inl ⟨by rfl, ?_⟩) (by assumption) ?_
  case refine_2 => (intro wx hSx; (try dsimp only at hSx); go_simp; first | done | with_reducible rfl)
  try simp only [Act.put]
  refine wpAnyH_take (i := 6) (v := ?_) rfl (by kernel_rfl) (by kernel_rfl) (by kernel_rfl) (fun _ _ _ h => h) (Or.inl ⟨by rfl, ?_⟩) (by assumption) ?_
  case refine_2 => (intro wx hSx; (try dsimp only at hSx); go_simp; first | done | with_reducible rfl)
  try simp only [Act.put]
  refine wpAnyH_take (i := 7) (v := ?_) rfl (by kernel_rfl) (by kernel_rfl) (by kernel_rfl) (fun _ _ _ h => h) (Or.inl ⟨by rfl, ?_⟩) (by assumption) ?_
  case refine_2 => (intro wx hSx; (try dsimp only at hSx); go_simp; first | done | with_reducible rfl)
  try simp only [Act.put]
  refine wpAnyH_take (i := 8) (v := ?_) rfl (by kernel_rfl) (by kernel_rfl) (by kernel_rfl) (fun _ _ _ h => h) (Or.inl ⟨by rfl, ?_⟩) (by assumption) ?_
  case refine_2 => (intro wx hSx; (try dsimp only at hSx); go_simp; first | done | with_reducible rfl)
  try simp only [Act.put]
  refine wpAnyH_take (i := 9) (v := ?_) rfl (by kernel_rfl) (by kernel_rfl) (by kernel_rfl) (fun _ _ _ h => h) (Or.inl ⟨by rfl, ?_⟩) (by assumption) ?_
  case refine_2 => (intro wx hSx; (try dsimp only at hSx); go_simp; first | done | with_reducible rfl)
  try simp only [Act.put]
  refine wpAnyH_take (i := 10) (v := ?_) rfl (by kernel_rfl) (by kernel_rfl) (by kernel_rfl) (fun _ _ _ h => h) (Or.inl ⟨by rfl, ?_⟩) (by assumption) ?_
  case refine_2 => (intro wx hSx; (try dsimp only at hSx); go_simp; first | done | with_reducible rfl)
  try simp only [Act.put]
  refine wpAnyH_ready (rs := [11]) (by kernel_rfl) (by simp) ?_
  refine AllReadyH.cons rfl (fun K hK => ?_) AllReadyH.nil
  go_simp
  refine hK.out _ _ (row3 (set4_far _ _ _ _ R3.out.drew (by omega))) (fun hHeld2 => ?_)
  clear hK K hHeld
  try simp only [Act.put, List.setIfInBounds_toArray, List.set_cons_zero, List.set_cons_succ]
  refine wpAnyH_take (i := 12) (oi := ⟨some 3, _, _, _, _, none⟩) (v := ?_) rfl (by kernel_rfl) (by kernel_rfl) (by kernel_rfl) (fun _ _ _ h => h) (Or.inl ⟨by rfl, ?_⟩) (by assumption) ?_
  case refine_2 => (intro wx hSx; (try dsimp only at hSx); go_simp; first | done | with_reducible rfl)
  try simp only [Act.put, List.setIfInBounds_toArray, List.set_cons_zero, List.set_cons_succ]
  refine wpAnyH_done (by kernel_rfl) ?_ _
  have HZ := Lib.hid (set4_row (.string (S [lb])) (.int .i64 a) (.int .i64 m) (.int .i64 d) R4.out).drew
  clear f0 f1 f2 f3 q0 q1 q2 q3 p0 p1 p2
  go_wp2_with fail
  exact bodyPost_ret (v := .tuple #[.agg #[.string (S [lb]), .int .i64 a, .int .i64 m, .int .i64 d], .int .i64 0]) (by obtain ⟨z0, z1, z2, z3⟩ := row4 HZ.out; simp [results, Tryd.results91, z0, z1, z2, z3, go_sem]) rfl ⟨by unfold infoV; rw [E0.out.1, E0.out.2.1, E0.out.2.2.1, E0.out.2.2.2], (set4_below BY.out (Nat.le_refl _)).drew⟩
end Go.Proofs.YtlakgkoohdfiaaaDoor.El


namespace Go.Proofs.YtlakgkoohdfiaaaDoor.El
open Go.RowKit

theorem refInfo10 : Ending.returned (.tuple #[.agg #[.string ⟨#[74]⟩, .int .i64 4400, .int .i64 6200, .int .i64 4], .int .i64 0]) = .returned (.tuple #[infoV 10, .int .i64 0]) := by kernel_rfl
set_option maxHeartbeats 1000000 in
theorem refDescribe10 (w : World) :
    Calls Tryd.prog 59 #[.int .i64 10] w fun e w' => e = .returned (.tuple #[infoV 10, .int .i64 0]) ∧ Below w.heap.size w w' := by
  rw [← refInfo10]
  go_enter Tryd.func59, Tryd.ntmps59
  go_wp2_with fail
  exact bodyPost_ret (v := .tuple #[.agg #[.string ⟨#[74]⟩, .int .i64 4400, .int .i64 6200, .int .i64 4], .int .i64 0]) (by simp [results, Tryd.results59, go_sem]) rfl ⟨rfl, ((Below.refl _ _).alloc (Nat.le_refl _) _).alloc (by simp) _⟩
theorem refInfo11 : Ending.returned (.tuple #[.agg #[.string ⟨#[75]⟩, .int .i64 2000, .int .i64 2900, .int .i64 4], .int .i64 0]) = .returned (.tuple #[infoV 11, .int .i64 0]) := by kernel_rfl
set_option maxHeartbeats 1000000 in
theorem refDescribe11 (w : World) :
    Calls Tryd.prog 59 #[.int .i64 11] w fun e w' => e = .returned (.tuple #[infoV 11, .int .i64 0]) ∧ Below w.heap.size w w' := by
  rw [← refInfo11]
  go_enter Tryd.func59, Tryd.ntmps59
  go_wp2_with fail
  exact bodyPost_ret (v := .tuple #[.agg #[.string ⟨#[75]⟩, .int .i64 2000, .int .i64 2900, .int .i64 4], .int .i64 0]) (by simp [results, Tryd.results59, go_sem]) rfl ⟨rfl, ((Below.refl _ _).alloc (Nat.le_refl _) _).alloc (by simp) _⟩
end Go.Proofs.YtlakgkoohdfiaaaDoor.El


namespace Go.Proofs.YtlakgkoohdfiaaaDoor.El
open Go.RowKit

/-- A reading as a value. -/
abbrev rdV (c v : Int) : Value := .agg #[.int .i64 c, .int .i64 v]
set_option maxHeartbeats 1000000 in
theorem check_any (c v : Int) (w : World) (hT : Tab w) :
    Calls Tryd.prog 99 #[rdV c v] w fun e w' => e = .returned (.int .i64 (Elt.chk c v)) ∧ Below w.heap.size w w' := by
  have b0 : Below w.heap.size w (w.alloc (.cells #[.int .i64 c, .int .i64 v] 81)) := (Below.refl _ _).alloc (Nat.le_refl _) _
  have r0 := Row.new w #[.int .i64 c, .int .i64 v] 81
  have hT0 := hT.under b0
  rcases Elt.chk_cases c v with ⟨⟨h, h1, h2⟩, hk⟩ | ⟨h, h1, hk⟩ | ⟨h, hk⟩
  · have HK := Lib.hid hk; clear hk
    go_enter Tryd.func99, Tryd.ntmps99
    go_wp2_with fail
    refine (describe_yes c _ h hT0).mono ?_
    rintro e w1 ⟨rfl, g1⟩
    go_upto_region 4 with fail
    have HL := Lib.hid h
    refine forget (fun Y => Below w.heap.size w Y ∧ Row Y w.heap.size 81 #[.int .i64 c, .int .i64 v] ∧ Row Y w1.heap.size 102 #[.string (S [Elt.lt c]), .int .i64 (Elt.lo c), .int .i64 (Elt.hi c), .int .i64 (Elt.dg c)]) ⟨(b0.trans (g1.mono (by simp))).alloc (Nat.le_trans b0.size g1.size) _, (r0.under g1).alloc _, Row.new _ _ _⟩ ?_
    clear g1 b0 r0 hT0
    rintro Y ⟨bY, r2, r4⟩
    obtain ⟨p0, p1⟩ := row2 r2
    obtain ⟨q0, q1, q2, q3⟩ := row4 r4
    have BY := Lib.hid bY; clear bY r2 r4
    go_wp2_with fail
    go_ret
    exact ⟨ret_i64 HK.out.symm, BY.out⟩
  · have HK := Lib.hid hk; clear hk
    go_enter Tryd.func99, Tryd.ntmps99
    go_wp2_with fail
    refine (describe_yes c _ h hT0).mono ?_
    rintro e w1 ⟨rfl, g1⟩
    go_upto_region 4 with fail
    refine forget (fun Y => Below w.heap.size w Y ∧ Row Y w.heap.size 81 #[.int .i64 c, .int .i64 v] ∧ Row Y w1.heap.size 102 #[.string (S [Elt.lt c]), .int .i64 (Elt.lo c), .int .i64 (Elt.hi c), .int .i64 (Elt.dg c)]) ⟨(b0.trans (g1.mono (by simp))).alloc (Nat.le_trans b0.size g1.size) _, (r0.under g1).alloc _, Row.new _ _ _⟩ ?_
    clear g1 b0 r0 hT0
    rintro Y ⟨bY, r2, r4⟩
    obtain ⟨p0, p1⟩ := row2 r2
    obtain ⟨q0, q1, q2, q3⟩ := row4 r4
    have BY := Lib.hid bY; clear bY r2 r4
    by_cases h2 : v < Elt.lo c
    · clear h1
      go_wp2_with fail
      go_ret
      exact ⟨ret_i64 HK.out.symm, BY.out⟩
    · have h3 : Elt.hi c < v := by omega
      clear h1
      go_wp2_with fail
      go_ret
      exact ⟨ret_i64 HK.out.symm, BY.out⟩
  · have HK := Lib.hid hk; clear hk
    go_enter Tryd.func99, Tryd.ntmps99
    go_wp2_with fail
    refine (describe_no c _ h).mono ?_
    rintro e w1 ⟨rfl, g1⟩
    go_wp2_with fail
    go_ret
    exact ⟨ret_i64 HK.out.symm, (b0.trans (g1.mono (by simp))).alloc (Nat.le_trans b0.size g1.size) _⟩
end Go.Proofs.YtlakgkoohdfiaaaDoor.El


namespace Go.Proofs.YtlakgkoohdfiaaaDoor
open Go.RowKit

section
variable {P : Program} {ops : Array Oper} {Q : Exit → Act → World → Prop} {md : Region.Mode} {S : World → Prop}
/-- An operation of a drawn region is taken first. -/
theorem tk (i : Nat) {oi : Oper} {v : Value} {fuel : Nat} {listed : Array Bool} {a : Act} {w : World} (hi : ops[i]? = some oi)
    (h : wpAnyH P md ops Q S fuel (listed.setIfInBounds i true) (a.put oi.dst v) w)
    (hs : Region.noSelect ops = true := by kernel_rfl) (hf : Region.free md ops listed i = true := by kernel_rfl) (hr : (Region.ready md ops listed).contains i = true := by kernel_rfl)
    (hQ : ∀ c a w, Q (.panic c) (a.put oi.dst v) w → Q (.panic c) a w := by exact fun _ _ _ h => h)
    (hg : Region.wanted oi (yielded ops a.tmps) = true := by rfl) (hS : S w := by assumption)
    (hy : ∀ w, S w → (execOp a.eval oi).run P w = .ok (.value v) w := by (intro wx hSx; (try dsimp only at hSx); go_simp; first | done | with_reducible rfl)) : wpAnyH P md ops Q S (fuel + 1) listed a w :=
  wpAnyH_take hi hs hf hr hQ (Or.inl ⟨hg, hy⟩) hS h
/-- A guarded operation that is not done. -/
theorem sk (i : Nat) {oi : Oper} {fuel : Nat} {listed : Array Bool} {a : Act} {w : World} (hi : ops[i]? = some oi)
    (h : wpAnyH P md ops Q S fuel (listed.setIfInBounds i true) (a.put oi.dst undef) w)
    (hs : Region.noSelect ops = true := by kernel_rfl) (hf : Region.free md ops listed i = true := by kernel_rfl) (hr : (Region.ready md ops listed).contains i = true := by kernel_rfl)
    (hQ : ∀ c a w, Q (.panic c) (a.put oi.dst undef) w → Q (.panic c) a w := by exact fun _ _ _ h => h)
    (hg : Region.wanted oi (yielded ops a.tmps) = false := by rfl) (hS : S w := by assumption) : wpAnyH P md ops Q S (fuel + 1) listed a w :=
  wpAnyH_take hi hs hf hr hQ (Or.inr ⟨hg, rfl⟩) hS h
end
end Go.Proofs.YtlakgkoohdfiaaaDoor
