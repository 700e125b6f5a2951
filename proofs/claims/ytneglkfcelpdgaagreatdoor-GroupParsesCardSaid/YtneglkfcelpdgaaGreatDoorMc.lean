/- The contract of weights of the program.; Places are compared field by field, rows of numbers number by number.; The contract of Same of the program. -/
import Derived.Test.YtneglkfcelpdgaaGreatDoorMb
import Derived.RegionTactic
import Derived.BigRegion
import Derived.Deep.Cut
import Derived.Deep.CutRange
import Derived.ChangeAlike
import Derived.Laws.StructEq
import Derived.ChangeKeysEq
import Derived.Deep.RegionHeld3
namespace Go.Proofs.YtneglkfcelpdgaaGreatDoor.Pl
open Go.RowKit

set_option maxRecDepth 100000 in
set_option maxHeartbeats 1000000 in
theorem weights_any (f : Nat) (a b c : Int) (w : World) (hf : f < 20) :
    Calls Tryz.prog 144 #[.agg #[.int .i64 f, .int .i64 a, .int .i64 b, .int .i64 c]] w fun e w' => e = .returned (.agg (wa f a b c)) ∧ Below w.heap.size w w' := by
  go_enter Tryz.func144, Tryz.ntmps144
  go_upto_region 3 with (go_at_call 145; refine (cornersOf_any _ _ hf).mono ?_; rintro e w1 ⟨rfl, hb⟩)
  have r1 : Row w1 w.heap.size 23 #[.int .i64 f, .int .i64 a, .int .i64 b, .int .i64 c] := (((Row.new w _ _).alloc _).alloc _).under hb
  have r2 : Row w1 (w.heap.size + 1) 141 z12 := ((Row.newAt (by simp)).alloc _).under hb
  have r3 : Row w1 (w.heap.size + 1 + 1) 141 z12 := (Row.newAt (by simp)).under hb
  have b1 : Below w.heap.size w w1 := ((((Below.refl _ _).alloc (Nat.le_refl _) _).alloc (by simp) _).alloc (by simp; omega) _).trans (hb.mono (by simp; omega))
  have z1 : w.heap.size + 3 ≤ w1.heap.size := by have := hb.size; simp at this; omega
  refine forget (fun Y => Below w.heap.size w Y ∧ Row Y w.heap.size 23 #[.int .i64 f, .int .i64 a, .int .i64 b, .int .i64 c] ∧ Row Y (w.heap.size + 1) 141 z12 ∧ Row Y (w.heap.size + 1 + 1) 141 z12 ∧ Row Y w1.heap.size 117 #[.int .i64 (Ico.cor f 0), .int .i64 (Ico.cor f 1), .int .i64 (Ico.cor f 2)]) ⟨b1.alloc b1.size _, r1.alloc _, r2.alloc _, r3.alloc _, Row.new _ _ _⟩ ?_
  clear r1 r2 r3 b1 hb
  generalize w1.heap.size = gc at *
  rintro Y ⟨bY, r1, r2, r3, r4⟩
  obtain ⟨p0, p1, p2, p3⟩ := row4 r1
  obtain ⟨q0, q1, q2⟩ := row3 r4
  have l0 := Ico.cor_lt f 0
  have l1 := Ico.cor_lt f 1
  have l2 := Ico.cor_lt f 2
  obtain ⟨n1, n2, n3⟩ := Ico.cor_ne f hf
  have k0 : Y.cell? ⟨w.heap.size + 1 + 1, Ico.cor f 0, none⟩ = some (.int .i64 0) := (r3.cell _).trans (z12_at _ l0)
  have k1 : Y.cell? ⟨w.heap.size + 1 + 1, Ico.cor f 1, none⟩ = some (.int .i64 0) := (r3.cell _).trans (z12_at _ l1)
  have k2 : Y.cell? ⟨w.heap.size + 1 + 1, Ico.cor f 2, none⟩ = some (.int .i64 0) := (r3.cell _).trans (z12_at _ l2)
  have m0 := r3.thaw (Ico.cor f 0)
  have m1 := r3.thaw (Ico.cor f 1)
  have m2 := r3.thaw (Ico.cor f 2)
  have W := Lib.hid (wa_of hf a b c)
  have e0 : w.heap.size ≠ w.heap.size + 1 + 1 := by omega
  have e1 : gc ≠ w.heap.size + 1 + 1 := by omega
  have R3 := Lib.hid r3
  have R2 := Lib.hid r2
  have hg2 : w.heap.size ≤ w.heap.size + 1 := by omega
  have hg3 : w.heap.size ≤ w.heap.size + 1 + 1 := by omega
  have hg23 : w.heap.size + 1 ≠ w.heap.size + 1 + 1 := by omega
  clear r1 r2 r3 r4
  generalize Ico.cor f 0 = x at *
  generalize Ico.cor f 1 = y at *
  generalize Ico.cor f 2 = z at *
  generalize w.heap.size + 1 + 1 = g3 at *
  generalize w.heap.size + 1 = g2 at *
  go_region
  go_upto_region 4 with fail
  have ne23 : g2 ≠ g3 := hg23
  have hR : ∀ n : World, n = (((Y.setCell ⟨g3, x, none⟩ (.int .i64 a)).setCell ⟨g3, y, none⟩ (.int .i64 b)).setCell ⟨g3, z, none⟩ (.int .i64 c)).drew → Below w.heap.size w n ∧ Row n g2 141 z12 ∧ Row n g3 141 (wa f a b c) := by
    rintro n rfl
    exact ⟨(((bY.setCell (p := ⟨g3, x, none⟩) hg3 _).setCell (p := ⟨g3, y, none⟩) hg3 _).setCell (p := ⟨g3, z, none⟩) hg3 _).drew, ((R2.out.far (Ne.symm ne23) _).far (Ne.symm ne23) _).far (Ne.symm ne23) _, by rw [← W.out]; exact ((R3.out.put _ _).put _ _).put _ _⟩
  refine forget (fun n => Below w.heap.size w n ∧ Row n g2 141 z12 ∧ Row n g3 141 (wa f a b c)) (hR _ rfl) ?_
  clear hR R2 R3 W k0 k1 k2 m0 m1 m2 p0 p1 p2 p3 q0 q1 q2 bY
  rintro V ⟨bV, v2, v3⟩
  obtain ⟨⟨c0, c1, c2, c3, c4, c5⟩, c6, c7, c8, c9, c10, c11⟩ := row12 v3
  obtain ⟨⟨d0, d1, d2, d3, d4, d5⟩, d6, d7, d8, d9, d10, d11⟩ := row12 v2
  have t0 := v2.thaw
  have V2 := Lib.hid v2
  clear v2 v3
  go_wp2
  exact bodyPost_ret (v := .agg (wa f a b c)) (results_cell_row Tryz.results144 _ _ g2 141 _ (0, 0) _ rfl (put12 _ _ _ _ _ _ _ _ _ _ _ _ V2.out) Tryz.underlying141 rfl (by kernel_rfl)) rfl ⟨rfl, below12 _ _ _ _ _ _ _ _ _ _ _ _ bV hg2⟩
end Go.Proofs.YtneglkfcelpdgaaGreatDoor.Pl
namespace Go.Proofs.YtneglkfcelpdgaaGreatDoor.Pl
open Go.RowKit

/-- Two places are compared field by field. -/
theorem eq_place (a b c d a' b' c' d' : Int) (w : World) :
    (Op.equalIn 10000 23 (.agg #[.int .i64 a, .int .i64 b, .int .i64 c, .int .i64 d]) (.agg #[.int .i64 a', .int .i64 b', .int .i64 c', .int .i64 d'])).run Tryz.prog w = .ok (a == a' && b == b' && c == c' && d == d') w := by
  have u3 := Tryz.underlying3
  have a3 := Tryz.isAgg3
  have z3 := Tryz.sizeOf3
  have hS : Tryz.prog.underlying 23 = some (.struct (Tryz.prog.fieldsOf 23)) := by kernel_rfl
  rw [show (10000 : Nat) = 9999 + 1 from rfl, run_equalIn_agg w 9999 23 _ _ hS (by kernel_rfl)]
  simp only [Program.fieldsOf, Tryz.underlying23]
  go_simp
  by_cases h1 : a = a' <;> by_cases h2 : b = b' <;> by_cases h3 : c = c' <;> by_cases h4 : d = d' <;> simp [h1, h2, h3, h4]
theorem cells_int : Tryz.prog.cellsOf 3 = 1 := by kernel_rfl
theorem info_int : (Tryz.prog.info? 3).isSome = true := by kernel_rfl
theorem plain_int : Tryz.prog.plainKey 3 = true := by kernel_rfl
/-- Numbers in a row. -/
theorem eq_items (d : Nat) (p q : Nat → Int) (xs ys : Array Value) (w : World) : ∀ is : List Nat, (∀ j ∈ is, xs[j]? = some (.int .i64 (p j)) ∧ ys[j]? = some (.int .i64 (q j))) →
    (Op.eqItems (d + 1) 3 (Tryz.prog.cellsOf 3) xs ys is).run Tryz.prog w = .ok (is.all fun j => p j == q j) w
  | [], _ => by simp [Op.eqItems]
  | j :: is, h => by
    have hj := h j (by simp)
    have h1 : (part 3 xs (j * Tryz.prog.cellsOf 3)).run Tryz.prog w = .ok (.int .i64 (p j)) w := run_part_plain _ plain_int (by rw [cells_int, Nat.mul_one]; exact hj.1)
    have h2 : (part 3 ys (j * Tryz.prog.cellsOf 3)).run Tryz.prog w = .ok (.int .i64 (q j)) w := run_part_plain _ plain_int (by rw [cells_int, Nat.mul_one]; exact hj.2)
    have h3 : (Op.equalIn (d + 1) 3 (.int .i64 (p j)) (.int .i64 (q j))).run Tryz.prog w = .ok (p j == q j) w := run_equalIn_int w d 3 .i64 .i64 _ _ Tryz.underlying3
    have ih := eq_items d p q xs ys w is fun k hk => h k (by simp [hk])
    simp only [Op.eqItems, Sem.run_bind, h1, h2, h3, Result.andThen_ok, List.all_cons]
    cases p j == q j
    · simp
    · simpa using ih
/-- The weights of two places are the same. -/
def sw (f : Nat) (a b c : Int) (g : Nat) (x y z : Int) : Bool := (List.range 12).all fun v => Ico.wt f a b c v == Ico.wt g x y z v
theorem eq_wa (f : Nat) (a b c : Int) (g : Nat) (x y z : Int) (w : World) :
    (Op.equalIn 10000 141 (.agg (wa f a b c)) (.agg (wa g x y z))).run Tryz.prog w = .ok (sw f a b c g x y z) w := by
  obtain ⟨i, hi⟩ := Option.isSome_iff_exists.1 info_int
  rw [show (10000 : Nat) = 9998 + 1 + 1 from rfl, run_equalIn_array w (9998 + 1) _ _ Tryz.underlying141 hi]
  exact eq_items 9998 _ _ _ _ w _ fun j hj => ⟨wa_at f a b c j (List.mem_range.1 hj), wa_at g x y z j (List.mem_range.1 hj)⟩
theorem sw_iff {f : Nat} {a b c : Int} {g : Nat} {x y z : Int} : sw f a b c g x y z = true ↔ ∀ v, v < 12 → Ico.wt f a b c v = Ico.wt g x y z v := by
  unfold sw; simp [List.all_eq_true]
theorem wt_far (f : Nat) (a b c : Int) (v : Nat) (h : ¬ v < 12) : Ico.wt f a b c v = 0 := by
  unfold Ico.wt
  have h0 := Ico.cor_lt f 0
  have h1 := Ico.cor_lt f 1
  have h2 := Ico.cor_lt f 2
  rw [if_neg (by omega), if_neg (by omega), if_neg (by omega)]
theorem sw_all {f : Nat} {a b c : Int} {g : Nat} {x y z : Int} : sw f a b c g x y z = true ↔ ∀ v, Ico.wt f a b c v = Ico.wt g x y z v := by
  rw [sw_iff]
  exact ⟨fun h v => by
    by_cases hv : v < 12
    · exact h v hv
    · rw [wt_far _ _ _ _ _ hv, wt_far _ _ _ _ _ hv], fun h v _ => h v⟩
/-- Three numbers in a row. -/
theorem eq_three (a b c a' b' c' : Int) (w : World) :
    (Op.equalIn 10000 117 (.agg #[.int .i64 a, .int .i64 b, .int .i64 c]) (.agg #[.int .i64 a', .int .i64 b', .int .i64 c'])).run Tryz.prog w = .ok (a == a' && b == b' && c == c') w := by
  obtain ⟨i, hi⟩ := Option.isSome_iff_exists.1 info_int
  rw [show (10000 : Nat) = 9998 + 1 + 1 from rfl, run_equalIn_array w (9998 + 1) _ _ Tryz.underlying117 hi]
  rw [eq_items 9998 (fun j => [a, b, c].getD j 0) (fun j => [a', b', c'].getD j 0) _ _ w _ fun j hj => by
    have : j < 3 := List.mem_range.1 hj
    have : j = 0 ∨ j = 1 ∨ j = 2 := by omega
    rcases this with rfl | rfl | rfl <;> exact ⟨rfl, rfl⟩]
  simp [List.range_succ, Bool.and_assoc]
end Go.Proofs.YtneglkfcelpdgaaGreatDoor.Pl
namespace Go.Proofs.YtneglkfcelpdgaaGreatDoor.Pl
open Go.RowKit

attribute [local go_sem] eq_wa
theorem vb_of {f : Nat} {a b c : Int} (h : Ico.Vld f a b c) : vb f a b c = true := by
  obtain ⟨h0, h1, h2, h3, h4, h5, h6, h7⟩ := h
  unfold vb; rw [decide_eq_true_eq]; exact ⟨by omega, by omega, h1, h2, h3, h4, h5, h6, h7⟩
theorem vb_to {F a b c : Int} (h : vb F a b c = true) : ∃ f : Nat, F = f ∧ Ico.Vld f a b c := by
  unfold vb at h; rw [decide_eq_true_eq] at h
  obtain ⟨h1, h2, h3, h4, h5, h6, h7, h8, h9⟩ := h
  exact ⟨F.toNat, by omega, by omega, h3, h4, h5, h6, h7, h8, h9⟩
theorem valid_is (F a b c : Int) (r : Bool) (w0 w : World) (hb : Below w0.heap.size w0 w) (hr : vb F a b c = r) :
    Calls Tryz.prog 71 #[.agg #[.int .i64 F, .int .i64 a, .int .i64 b, .int .i64 c]] w fun e w' => e = .returned (.bool r) ∧ Below w0.heap.size w0 w' :=
  (valid_any F a b c w).mono fun _ _ ⟨he, hg⟩ => ⟨hr ▸ he, hb.trans (hg.mono hb.size)⟩
theorem weights_is (f : Nat) (a b c : Int) (w0 w : World) (hb : Below w0.heap.size w0 w) (hf : f < 20) :
    Calls Tryz.prog 144 #[.agg #[.int .i64 f, .int .i64 a, .int .i64 b, .int .i64 c]] w fun e w' => e = .returned (.agg (wa f a b c)) ∧ Below w0.heap.size w0 w' :=
  (weights_any f a b c w hf).mono fun _ _ ⟨he, hg⟩ => ⟨he, hb.trans (hg.mono hb.size)⟩
/-- Both boxes. -/
theorem boxes {w w' : World} {g g' : Nat} {F a b c G x y z : Int} (hb : Below w.heap.size w w') (h : Row w g 23 #[.int .i64 F, .int .i64 a, .int .i64 b, .int .i64 c]) (k : Row w g' 23 #[.int .i64 G, .int .i64 x, .int .i64 y, .int .i64 z]) :
    (w'.cell? ⟨g, 0, none⟩ = some (.int .i64 F) ∧ w'.cell? ⟨g, 1, none⟩ = some (.int .i64 a) ∧ w'.cell? ⟨g, 2, none⟩ = some (.int .i64 b) ∧ w'.cell? ⟨g, 3, none⟩ = some (.int .i64 c)) ∧
    w'.cell? ⟨g', 0, none⟩ = some (.int .i64 G) ∧ w'.cell? ⟨g', 1, none⟩ = some (.int .i64 x) ∧ w'.cell? ⟨g', 2, none⟩ = some (.int .i64 y) ∧ w'.cell? ⟨g', 3, none⟩ = some (.int .i64 z) :=
  ⟨row4 (h.under hb), row4 (k.under hb)⟩
theorem valid_from (F a b c : Int) (w0 w : World) (hb : Below w0.heap.size w0 w) :
    Calls Tryz.prog 71 #[.agg #[.int .i64 F, .int .i64 a, .int .i64 b, .int .i64 c]] w fun e w' => e = .returned (.bool (vb F a b c)) ∧ Below w0.heap.size w0 w' :=
  valid_is F a b c _ w0 w hb rfl
end Go.Proofs.YtneglkfcelpdgaaGreatDoor.Pl
