/- The table of nested sequences that TableLimits looks at. -/
import Derived.Test.YtjaopjhfjijdaaaDoorLx
namespace Go.Proofs.YtjaopjhfjijdaaaDoor
open Go.RowKit

def ems : List Sq := [(10000, [20120, 10001]), (10001, [20120, 10002]), (10002, [20120, 10003]), (10003, [])]
theorem em_good : tbl 1 [] ems = 0 := by decide +kernel
theorem em_a : Ans 1 [] ems [10000] 2 [] := .inr (.inr ⟨em_good, by decide, .inl ⟨by decide, exf_ev _ _ 700 _ _ _ _ _ (by kernel_rfl), rfl⟩⟩)
theorem em_b : Ans 1 [] ems [10002] 0 [] := .inr (.inr ⟨em_good, by decide, .inr ⟨rfl, 22, exf_ev _ _ 100 _ _ _ _ _ (by kernel_rfl)⟩⟩)
abbrev emW (w : World) : World :=
  (((((w.alloc (Obj.cells #[Value.int IntKind.i64 20120, Value.int IntKind.i64 10001] 3)).alloc
    (Obj.cells #[Value.int IntKind.i64 20120, Value.int IntKind.i64 10002] 3)).alloc
    (Obj.cells #[Value.int IntKind.i64 20120, Value.int IntKind.i64 10003] 3)).alloc
    (Obj.cells #[Value.int IntKind.i64 10000, Value.slice (some { block := w.heap.size, off := 0 }) 2 2,
      Value.int IntKind.i64 10001, Value.slice (some { block := w.heap.size + 1, off := 0 }) 2 2,
      Value.int IntKind.i64 10002, Value.slice (some { block := w.heap.size + 1 + 1, off := 0 }) 2 2,
      Value.int IntKind.i64 10003, Value.slice none 0 0] 58)).alloc
    (Obj.cells #[Value.int IntKind.i64 1, Value.slice none 0 0, Value.slice (some { block := w.heap.size + 1 + 1 + 1, off := 0 }) 4 4] 25))
theorem em_in (w : World) : TbIn (emW w) (.agg #[.int .i64 1, .slice none 0 0, .slice (some ⟨w.heap.size + 1 + 1 + 1, 0, none⟩) 4 4]) 1 [] ems ∧ Row (emW w) (w.heap.size + 1 + 1 + 1 + 1) 25 #[.int .i64 1, .slice none 0 0, .slice (some ⟨w.heap.size + 1 + 1 + 1, 0, none⟩) 4 4] ∧ Below w.heap.size w (emW w) := by
  have s1 : ∀ (X : World) (o : Obj), (X.alloc o).heap.size = X.heap.size + 1 := fun X o => by simp
  have i64 : ∀ x ∈ ([20120, 10001, 10002, 10003, 10000] : List Int), I64 x := fun x hx => by
    simp only [List.mem_cons, List.not_mem_nil, or_false] at hx
    rcases hx with rfl | rfl | rfl | rfl | rfl <;> exact i64_small (by decide) (by decide)
  have r0 : Row (emW w) w.heap.size 3 (([20120, 10001] : List Int).map (Value.int .i64)).toArray := ((((Row.new w _ _).alloc _).alloc _).alloc _).alloc _
  have r1 : Row (emW w) (w.heap.size + 1) 3 (([20120, 10002] : List Int).map (Value.int .i64)).toArray := (((Row.newAt (by rw [s1])).alloc _).alloc _).alloc _
  have r2 : Row (emW w) (w.heap.size + 1 + 1) 3 (([20120, 10003] : List Int).map (Value.int .i64)).toArray := ((Row.newAt (by rw [s1, s1])).alloc _).alloc _
  have r3 : Row (emW w) (w.heap.size + 1 + 1 + 1) 58 #[Value.int IntKind.i64 10000, Value.slice (some { block := w.heap.size, off := 0 }) 2 2, Value.int IntKind.i64 10001, Value.slice (some { block := w.heap.size + 1, off := 0 }) 2 2, Value.int IntKind.i64 10002, Value.slice (some { block := w.heap.size + 1 + 1, off := 0 }) 2 2, Value.int IntKind.i64 10003, Value.slice none 0 0] := (Row.newAt (by rw [s1, s1, s1])).alloc _
  refine ⟨⟨_, _, rfl, EnIn.nil _, some ⟨w.heap.size + 1 + 1 + 1, 0, none⟩, 4, rfl, by decide, by decide, fun i hi => ?_⟩, Row.newAt (by rw [s1, s1, s1, s1]), ?_⟩
  · have hi4 : i < 4 := hi
    rcases (by omega : i = 0 ∨ i = 1 ∨ i = 2 ∨ i = 3) with rfl | rfl | rfl | rfl
    · exact ⟨_, 0, _, rfl, r3.lt, (r3.cell 0).trans rfl, (r3.cell 1).trans rfl, NmIn.row (C := [20120, 10001]) r0 (fun x hx => i64 x (by simp at hx; rcases hx with rfl | rfl <;> simp)) (by decide), i64 10000 (by simp)⟩
    · exact ⟨_, 0, _, rfl, r3.lt, (r3.cell 2).trans rfl, (r3.cell 3).trans rfl, NmIn.row (C := [20120, 10002]) r1 (fun x hx => i64 x (by simp at hx; rcases hx with rfl | rfl <;> simp)) (by decide), i64 10001 (by simp)⟩
    · exact ⟨_, 0, _, rfl, r3.lt, (r3.cell 4).trans rfl, (r3.cell 5).trans rfl, NmIn.row (C := [20120, 10003]) r2 (fun x hx => i64 x (by simp at hx; rcases hx with rfl | rfl <;> simp)) (by decide), i64 10002 (by simp)⟩
    · exact ⟨_, 0, _, rfl, r3.lt, (r3.cell 6).trans rfl, (r3.cell 7).trans rfl, NmIn.nil _, i64 10003 (by simp)⟩
  · have h0 : Below w.heap.size w w := Below.refl _ _
    have h1 := alloc_below h0 (Nat.le_refl _) (Obj.cells #[Value.int IntKind.i64 20120, Value.int IntKind.i64 10001] 3)
    have h2 := alloc_below h1 h1.size (Obj.cells #[Value.int IntKind.i64 20120, Value.int IntKind.i64 10002] 3)
    have h3 := alloc_below h2 h2.size (Obj.cells #[Value.int IntKind.i64 20120, Value.int IntKind.i64 10003] 3)
    exact alloc_below (alloc_below h3 h3.size _) (alloc_below h3 h3.size _).size _
end Go.Proofs.YtjaopjhfjijdaaaDoor
