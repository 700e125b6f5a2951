/- Places are compared field by field, rows of numbers number by number. -/
import Derived.Test.YteccblhmpggcgaaDoorTwelve
import Derived.Laws.StructEq
import Derived.ChangeKeysEq
namespace Go.Proofs.YteccblhmpggcgaaDoor
open Go.RowKit

/-- Two places are compared field by field. -/
theorem eq_place (a b c d a' b' c' d' : Int) (w : World) :
    (Op.equalIn 10000 23 (.agg #[.int .i64 a, .int .i64 b, .int .i64 c, .int .i64 d]) (.agg #[.int .i64 a', .int .i64 b', .int .i64 c', .int .i64 d'])).run Tryd.prog w = .ok (a == a' && b == b' && c == c' && d == d') w := by
  have u3 := Tryd.underlying3
  have a3 := Tryd.isAgg3
  have z3 := Tryd.sizeOf3
  have hS : Tryd.prog.underlying 23 = some (.struct (Tryd.prog.fieldsOf 23)) := by kernel_rfl
  rw [show (10000 : Nat) = 9999 + 1 from rfl, run_equalIn_agg w 9999 23 _ _ hS (by kernel_rfl)]
  simp only [Program.fieldsOf, Tryd.underlying23]
  go_simp
  by_cases h1 : a = a' <;> by_cases h2 : b = b' <;> by_cases h3 : c = c' <;> by_cases h4 : d = d' <;> simp [h1, h2, h3, h4]
theorem cells_int : Tryd.prog.cellsOf 3 = 1 := by kernel_rfl
theorem info_int : (Tryd.prog.info? 3).isSome = true := by kernel_rfl
theorem plain_int : Tryd.prog.plainKey 3 = true := by kernel_rfl
/-- Numbers in a row. -/
theorem eq_items (d : Nat) (p q : Nat → Int) (xs ys : Array Value) (w : World) : ∀ is : List Nat, (∀ j ∈ is, xs[j]? = some (.int .i64 (p j)) ∧ ys[j]? = some (.int .i64 (q j))) →
    (Op.eqItems (d + 1) 3 (Tryd.prog.cellsOf 3) xs ys is).run Tryd.prog w = .ok (is.all fun j => p j == q j) w
  | [], _ => by simp [Op.eqItems]
  | j :: is, h => by
    have hj := h j (by simp)
    have h1 : (part 3 xs (j * Tryd.prog.cellsOf 3)).run Tryd.prog w = .ok (.int .i64 (p j)) w := run_part_plain _ plain_int (by rw [cells_int, Nat.mul_one]; exact hj.1)
    have h2 : (part 3 ys (j * Tryd.prog.cellsOf 3)).run Tryd.prog w = .ok (.int .i64 (q j)) w := run_part_plain _ plain_int (by rw [cells_int, Nat.mul_one]; exact hj.2)
    have h3 : (Op.equalIn (d + 1) 3 (.int .i64 (p j)) (.int .i64 (q j))).run Tryd.prog w = .ok (p j == q j) w := run_equalIn_int w d 3 .i64 .i64 _ _ Tryd.underlying3
    have ih := eq_items d p q xs ys w is fun k hk => h k (by simp [hk])
    simp only [Op.eqItems, Sem.run_bind, h1, h2, h3, Result.andThen_ok, List.all_cons]
    cases p j == q j
    · simp
    · simpa using ih
/-- The weights of two places are the same. -/
def sw (f : Nat) (a b c : Int) (g : Nat) (x y z : Int) : Bool := (List.range 12).all fun v => Ico.wt f a b c v == Ico.wt g x y z v
theorem eq_wa (f : Nat) (a b c : Int) (g : Nat) (x y z : Int) (w : World) :
    (Op.equalIn 10000 54 (.agg (wa f a b c)) (.agg (wa g x y z))).run Tryd.prog w = .ok (sw f a b c g x y z) w := by
  obtain ⟨i, hi⟩ := Option.isSome_iff_exists.1 info_int
  rw [show (10000 : Nat) = 9998 + 1 + 1 from rfl, run_equalIn_array w (9998 + 1) _ _ Tryd.underlying54 hi]
  exact eq_items 9998 _ _ _ _ w _ fun j hj => ⟨wa_at f a b c j (List.mem_range.1 hj), wa_at g x y z j (List.mem_range.1 hj)⟩
theorem sw_iff {f : Nat} {a b c : Int} {g : Nat} {x y z : Int} : sw f a b c g x y z = true ↔ ∀ v, v < 12 → Ico.wt f a b c v = Ico.wt g x y z v := by
  unfold sw; simp [List.all_eq_true]
theorem wt_far (f : Nat) (a b c : Int) (v : Nat) (h : ¬ v < 12) : Ico.wt f a b c v = 0 := by
  unfold Ico.wt
  have h0 := Ico.cor_lt f 0
  have h1 := Ico.cor_lt f 1
  have h2 := Ico.cor_lt f 2
  rw [if_neg (by omega), if_neg (by omega), if_neg (by omega)]
theorem sw_all {f : Nat} {a b c : Int} {g : Nat} {x y z : Int} : sw f a b c g x y z = true ↔ ∀ v, Ico.wt f a b c v = Ico.wt g x y z v := by
  rw [sw_iff]
  exact ⟨fun h v => by
    by_cases hv : v < 12
    · exact h v hv
    · rw [wt_far _ _ _ _ _ hv, wt_far _ _ _ _ _ hv], fun h v _ => h v⟩
/-- Three numbers in a row. -/
theorem eq_three (a b c a' b' c' : Int) (w : World) :
    (Op.equalIn 10000 43 (.agg #[.int .i64 a, .int .i64 b, .int .i64 c]) (.agg #[.int .i64 a', .int .i64 b', .int .i64 c'])).run Tryd.prog w = .ok (a == a' && b == b' && c == c') w := by
  obtain ⟨i, hi⟩ := Option.isSome_iff_exists.1 info_int
  rw [show (10000 : Nat) = 9998 + 1 + 1 from rfl, run_equalIn_array w (9998 + 1) _ _ Tryd.underlying43 hi]
  rw [eq_items 9998 (fun j => [a, b, c].getD j 0) (fun j => [a', b', c'].getD j 0) _ _ w _ fun j hj => by
    have : j < 3 := List.mem_range.1 hj
    have : j = 0 ∨ j = 1 ∨ j = 2 := by omega
    rcases this with rfl | rfl | rfl <;> exact ⟨rfl, rfl⟩]
  simp [List.range_succ, Bool.and_assoc]
end Go.Proofs.YteccblhmpggcgaaDoor
