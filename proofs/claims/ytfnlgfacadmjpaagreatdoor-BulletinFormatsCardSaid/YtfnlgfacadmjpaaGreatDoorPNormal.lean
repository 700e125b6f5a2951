/- The contract of weights of the program. Places are compared field by field, rows of numbers number by number. The contract of Same of the program. The contract of Addresses of the program. The contract of Normal of the program. -/
import Derived.Test.YtfnlgfacadmjpaaGreatDoorPTwelve
import Derived.RegionTactic
import Derived.BigRegion
import Derived.Deep.Cut
import Derived.Deep.CutRange
import Derived.ChangeAlike
import Derived.Laws.StructEq
import Derived.ChangeKeysEq
import Derived.Deep.RegionHeld3
import Derived.Laws.OwnMore
import Derived.StillTailTactics
import Derived.OwnWalk
namespace Go.Proofs.YtfnlgfacadmjpaaGreatDoor.Pl
open Go.RowKit

set_option maxRecDepth 100000 in
set_option maxHeartbeats 1000000 in
theorem weights_any (f : Nat) (a b c : Int) (w : World) (hf : f < 20) :
    Calls Tryz.prog 182 #[.agg #[.int .i64 f, .int .i64 a, .int .i64 b, .int .i64 c]] w fun e w' => e = .returned (.agg (wa f a b c)) ∧ Below w.heap.size w w' := by
  go_enter Tryz.func182, Tryz.ntmps182
  go_upto_region 3 with (go_at_call 183; refine (cornersOf_any _ _ hf).mono ?_; rintro e w1 ⟨rfl, hb⟩)
  have r1 : Row w1 w.heap.size 50 #[.int .i64 f, .int .i64 a, .int .i64 b, .int .i64 c] := (((Row.new w _ _).alloc _).alloc _).under hb
  have r2 : Row w1 (w.heap.size + 1) 170 z12 := ((Row.newAt (by simp)).alloc _).under hb
  have r3 : Row w1 (w.heap.size + 1 + 1) 170 z12 := (Row.newAt (by simp)).under hb
  have b1 : Below w.heap.size w w1 := ((((Below.refl _ _).alloc (Nat.le_refl _) _).alloc (by simp) _).alloc (by simp; omega) _).trans (hb.mono (by simp; omega))
  have z1 : w.heap.size + 3 ≤ w1.heap.size := by have := hb.size; simp at this; omega
  refine forget (fun Y => Below w.heap.size w Y ∧ Row Y w.heap.size 50 #[.int .i64 f, .int .i64 a, .int .i64 b, .int .i64 c] ∧ Row Y (w.heap.size + 1) 170 z12 ∧ Row Y (w.heap.size + 1 + 1) 170 z12 ∧ Row Y w1.heap.size 152 #[.int .i64 (Ico.cor f 0), .int .i64 (Ico.cor f 1), .int .i64 (Ico.cor f 2)]) ⟨b1.alloc b1.size _, r1.alloc _, r2.alloc _, r3.alloc _, Row.new _ _ _⟩ ?_
  clear r1 r2 r3 b1 hb
  generalize w1.heap.size = gc at *
  rintro Y ⟨bY, r1, r2, r3, r4⟩
  obtain ⟨p0, p1, p2, p3⟩ := row4 r1
  obtain ⟨q0, q1, q2⟩ := row3 r4
  have l0 := Ico.cor_lt f 0
  have l1 := Ico.cor_lt f 1
  have l2 := Ico.cor_lt f 2
  obtain ⟨n1, n2, n3⟩ := Ico.cor_ne f hf
  have k0 : Y.cell? ⟨w.heap.size + 1 + 1, Ico.cor f 0, none⟩ = some (.int .i64 0) := (r3.cell _).trans (z12_at _ l0)
  have k1 : Y.cell? ⟨w.heap.size + 1 + 1, Ico.cor f 1, none⟩ = some (.int .i64 0) := (r3.cell _).trans (z12_at _ l1)
  have k2 : Y.cell? ⟨w.heap.size + 1 + 1, Ico.cor f 2, none⟩ = some (.int .i64 0) := (r3.cell _).trans (z12_at _ l2)
  have m0 := r3.thaw (Ico.cor f 0)
  have m1 := r3.thaw (Ico.cor f 1)
  have m2 := r3.thaw (Ico.cor f 2)
  have W := Lib.hid (wa_of hf a b c)
  have e0 : w.heap.size ≠ w.heap.size + 1 + 1 := by omega
  have e1 : gc ≠ w.heap.size + 1 + 1 := by omega
  have R3 := Lib.hid r3
  have R2 := Lib.hid r2
  have hg2 : w.heap.size ≤ w.heap.size + 1 := by omega
  have hg3 : w.heap.size ≤ w.heap.size + 1 + 1 := by omega
  have hg23 : w.heap.size + 1 ≠ w.heap.size + 1 + 1 := by omega
  clear r1 r2 r3 r4
  generalize Ico.cor f 0 = x at *
  generalize Ico.cor f 1 = y at *
  generalize Ico.cor f 2 = z at *
  generalize w.heap.size + 1 + 1 = g3 at *
  generalize w.heap.size + 1 = g2 at *
  go_region
  go_upto_region 4 with fail
  have ne23 : g2 ≠ g3 := hg23
  have hR : ∀ n : World, n = (((Y.setCell ⟨g3, x, none⟩ (.int .i64 a)).setCell ⟨g3, y, none⟩ (.int .i64 b)).setCell ⟨g3, z, none⟩ (.int .i64 c)).drew → Below w.heap.size w n ∧ Row n g2 170 z12 ∧ Row n g3 170 (wa f a b c) := by
    rintro n rfl
    exact ⟨(((bY.setCell (p := ⟨g3, x, none⟩) hg3 _).setCell (p := ⟨g3, y, none⟩) hg3 _).setCell (p := ⟨g3, z, none⟩) hg3 _).drew, ((R2.out.far (Ne.symm ne23) _).far (Ne.symm ne23) _).far (Ne.symm ne23) _, by rw [← W.out]; exact ((R3.out.put _ _).put _ _).put _ _⟩
  refine forget (fun n => Below w.heap.size w n ∧ Row n g2 170 z12 ∧ Row n g3 170 (wa f a b c)) (hR _ rfl) ?_
  clear hR R2 R3 W k0 k1 k2 m0 m1 m2 p0 p1 p2 p3 q0 q1 q2 bY
  rintro V ⟨bV, v2, v3⟩
  obtain ⟨⟨c0, c1, c2, c3, c4, c5⟩, c6, c7, c8, c9, c10, c11⟩ := row12 v3
  obtain ⟨⟨d0, d1, d2, d3, d4, d5⟩, d6, d7, d8, d9, d10, d11⟩ := row12 v2
  have t0 := v2.thaw
  have V2 := Lib.hid v2
  clear v2 v3
  go_wp2
  exact bodyPost_ret (v := .agg (wa f a b c)) (results_cell_row Tryz.results182 _ _ g2 170 _ (0, 0) _ rfl (put12 _ _ _ _ _ _ _ _ _ _ _ _ V2.out) Tryz.underlying170 rfl (by kernel_rfl)) rfl ⟨rfl, below12 _ _ _ _ _ _ _ _ _ _ _ _ bV hg2⟩
end Go.Proofs.YtfnlgfacadmjpaaGreatDoor.Pl
namespace Go.Proofs.YtfnlgfacadmjpaaGreatDoor.Pl
open Go.RowKit

/-- Two places are compared field by field. -/
theorem eq_place (a b c d a' b' c' d' : Int) (w : World) :
    (Op.equalIn 10000 50 (.agg #[.int .i64 a, .int .i64 b, .int .i64 c, .int .i64 d]) (.agg #[.int .i64 a', .int .i64 b', .int .i64 c', .int .i64 d'])).run Tryz.prog w = .ok (a == a' && b == b' && c == c' && d == d') w := by
  have u3 := Tryz.underlying3
  have a3 := Tryz.isAgg3
  have z3 := Tryz.sizeOf3
  have hS : Tryz.prog.underlying 50 = some (.struct (Tryz.prog.fieldsOf 50)) := by kernel_rfl
  rw [show (10000 : Nat) = 9999 + 1 from rfl, run_equalIn_agg w 9999 50 _ _ hS (by kernel_rfl)]
  simp only [Program.fieldsOf, Tryz.underlying50]
  go_simp
  by_cases h1 : a = a' <;> by_cases h2 : b = b' <;> by_cases h3 : c = c' <;> by_cases h4 : d = d' <;> simp [h1, h2, h3, h4]
theorem cells_int : Tryz.prog.cellsOf 3 = 1 := by kernel_rfl
theorem info_int : (Tryz.prog.info? 3).isSome = true := by kernel_rfl
theorem plain_int : Tryz.prog.plainKey 3 = true := by kernel_rfl
/-- Numbers in a row. -/
theorem eq_items (d : Nat) (p q : Nat → Int) (xs ys : Array Value) (w : World) : ∀ is : List Nat, (∀ j ∈ is, xs[j]? = some (.int .i64 (p j)) ∧ ys[j]? = some (.int .i64 (q j))) →
    (Op.eqItems (d + 1) 3 (Tryz.prog.cellsOf 3) xs ys is).run Tryz.prog w = .ok (is.all fun j => p j == q j) w
  | [], _ => by simp [Op.eqItems]
  | j :: is, h => by
    have hj := h j (by simp)
    have h1 : (part 3 xs (j * Tryz.prog.cellsOf 3)).run Tryz.prog w = .ok (.int .i64 (p j)) w := run_part_plain _ plain_int (by rw [cells_int, Nat.mul_one]; exact hj.1)
    have h2 : (part 3 ys (j * Tryz.prog.cellsOf 3)).run Tryz.prog w = .ok (.int .i64 (q j)) w := run_part_plain _ plain_int (by rw [cells_int, Nat.mul_one]; exact hj.2)
    have h3 : (Op.equalIn (d + 1) 3 (.int .i64 (p j)) (.int .i64 (q j))).run Tryz.prog w = .ok (p j == q j) w := run_equalIn_int w d 3 .i64 .i64 _ _ Tryz.underlying3
    have ih := eq_items d p q xs ys w is fun k hk => h k (by simp [hk])
    simp only [Op.eqItems, Sem.run_bind, h1, h2, h3, Result.andThen_ok, List.all_cons]
    cases p j == q j
    · simp
    · simpa using ih
/-- The weights of two places are the same. -/
def sw (f : Nat) (a b c : Int) (g : Nat) (x y z : Int) : Bool := (List.range 12).all fun v => Ico.wt f a b c v == Ico.wt g x y z v
theorem eq_wa (f : Nat) (a b c : Int) (g : Nat) (x y z : Int) (w : World) :
    (Op.equalIn 10000 170 (.agg (wa f a b c)) (.agg (wa g x y z))).run Tryz.prog w = .ok (sw f a b c g x y z) w := by
  obtain ⟨i, hi⟩ := Option.isSome_iff_exists.1 info_int
  rw [show (10000 : Nat) = 9998 + 1 + 1 from rfl, run_equalIn_array w (9998 + 1) _ _ Tryz.underlying170 hi]
  exact eq_items 9998 _ _ _ _ w _ fun j hj => ⟨wa_at f a b c j (List.mem_range.1 hj), wa_at g x y z j (List.mem_range.1 hj)⟩
theorem sw_iff {f : Nat} {a b c : Int} {g : Nat} {x y z : Int} : sw f a b c g x y z = true ↔ ∀ v, v < 12 → Ico.wt f a b c v = Ico.wt g x y z v := by
  unfold sw; simp [List.all_eq_true]
theorem wt_far (f : Nat) (a b c : Int) (v : Nat) (h : ¬ v < 12) : Ico.wt f a b c v = 0 := by
  unfold Ico.wt
  have h0 := Ico.cor_lt f 0
  have h1 := Ico.cor_lt f 1
  have h2 := Ico.cor_lt f 2
  rw [if_neg (by omega), if_neg (by omega), if_neg (by omega)]
theorem sw_all {f : Nat} {a b c : Int} {g : Nat} {x y z : Int} : sw f a b c g x y z = true ↔ ∀ v, Ico.wt f a b c v = Ico.wt g x y z v := by
  rw [sw_iff]
  exact ⟨fun h v => by
    by_cases hv : v < 12
    · exact h v hv
    · rw [wt_far _ _ _ _ _ hv, wt_far _ _ _ _ _ hv], fun h v _ => h v⟩
/-- Three numbers in a row. -/
theorem eq_three (a b c a' b' c' : Int) (w : World) :
    (Op.equalIn 10000 152 (.agg #[.int .i64 a, .int .i64 b, .int .i64 c]) (.agg #[.int .i64 a', .int .i64 b', .int .i64 c'])).run Tryz.prog w = .ok (a == a' && b == b' && c == c') w := by
  obtain ⟨i, hi⟩ := Option.isSome_iff_exists.1 info_int
  rw [show (10000 : Nat) = 9998 + 1 + 1 from rfl, run_equalIn_array w (9998 + 1) _ _ Tryz.underlying152 hi]
  rw [eq_items 9998 (fun j => [a, b, c].getD j 0) (fun j => [a', b', c'].getD j 0) _ _ w _ fun j hj => by
    have : j < 3 := List.mem_range.1 hj
    have : j = 0 ∨ j = 1 ∨ j = 2 := by omega
    rcases this with rfl | rfl | rfl <;> exact ⟨rfl, rfl⟩]
  simp [List.range_succ, Bool.and_assoc]
end Go.Proofs.YtfnlgfacadmjpaaGreatDoor.Pl
namespace Go.Proofs.YtfnlgfacadmjpaaGreatDoor.Pl
open Go.RowKit

attribute [local go_sem] eq_wa
theorem vb_of {f : Nat} {a b c : Int} (h : Ico.Vld f a b c) : vb f a b c = true := by
  obtain ⟨h0, h1, h2, h3, h4, h5, h6, h7⟩ := h
  unfold vb; rw [decide_eq_true_eq]; exact ⟨by omega, by omega, h1, h2, h3, h4, h5, h6, h7⟩
theorem vb_to {F a b c : Int} (h : vb F a b c = true) : ∃ f : Nat, F = f ∧ Ico.Vld f a b c := by
  unfold vb at h; rw [decide_eq_true_eq] at h
  obtain ⟨h1, h2, h3, h4, h5, h6, h7, h8, h9⟩ := h
  exact ⟨F.toNat, by omega, by omega, h3, h4, h5, h6, h7, h8, h9⟩
theorem valid_is (F a b c : Int) (r : Bool) (w0 w : World) (hb : Below w0.heap.size w0 w) (hr : vb F a b c = r) :
    Calls Tryz.prog 107 #[.agg #[.int .i64 F, .int .i64 a, .int .i64 b, .int .i64 c]] w fun e w' => e = .returned (.bool r) ∧ Below w0.heap.size w0 w' :=
  (valid_any F a b c w).mono fun _ _ ⟨he, hg⟩ => ⟨hr ▸ he, hb.trans (hg.mono hb.size)⟩
theorem weights_is (f : Nat) (a b c : Int) (w0 w : World) (hb : Below w0.heap.size w0 w) (hf : f < 20) :
    Calls Tryz.prog 182 #[.agg #[.int .i64 f, .int .i64 a, .int .i64 b, .int .i64 c]] w fun e w' => e = .returned (.agg (wa f a b c)) ∧ Below w0.heap.size w0 w' :=
  (weights_any f a b c w hf).mono fun _ _ ⟨he, hg⟩ => ⟨he, hb.trans (hg.mono hb.size)⟩
/-- Both boxes. -/
theorem boxes {w w' : World} {g g' : Nat} {F a b c G x y z : Int} (hb : Below w.heap.size w w') (h : Row w g 50 #[.int .i64 F, .int .i64 a, .int .i64 b, .int .i64 c]) (k : Row w g' 50 #[.int .i64 G, .int .i64 x, .int .i64 y, .int .i64 z]) :
    (w'.cell? ⟨g, 0, none⟩ = some (.int .i64 F) ∧ w'.cell? ⟨g, 1, none⟩ = some (.int .i64 a) ∧ w'.cell? ⟨g, 2, none⟩ = some (.int .i64 b) ∧ w'.cell? ⟨g, 3, none⟩ = some (.int .i64 c)) ∧
    w'.cell? ⟨g', 0, none⟩ = some (.int .i64 G) ∧ w'.cell? ⟨g', 1, none⟩ = some (.int .i64 x) ∧ w'.cell? ⟨g', 2, none⟩ = some (.int .i64 y) ∧ w'.cell? ⟨g', 3, none⟩ = some (.int .i64 z) :=
  ⟨row4 (h.under hb), row4 (k.under hb)⟩
theorem valid_from (F a b c : Int) (w0 w : World) (hb : Below w0.heap.size w0 w) :
    Calls Tryz.prog 107 #[.agg #[.int .i64 F, .int .i64 a, .int .i64 b, .int .i64 c]] w fun e w' => e = .returned (.bool (vb F a b c)) ∧ Below w0.heap.size w0 w' :=
  valid_is F a b c _ w0 w hb rfl
end Go.Proofs.YtfnlgfacadmjpaaGreatDoor.Pl
namespace Go.Proofs.YtfnlgfacadmjpaaGreatDoor.Pl
open Go.RowKit

theorem own_ne {w : World} {base size n g : Nat} {e t : TypeId} {v : Value} {xs : List Value} {cs : Array Value} (h : w.ownsRow base e size v n xs) (hr : Row w g t cs) (hne : e ≠ t) : some g ≠ v.ownBlock := by
  rcases h.2 with ⟨rfl, _⟩ | ⟨g', cap, cur, rfl, _, hh, _⟩
  · simp [Value.ownBlock]
  · intro he
    have : g = g' := by simpa [Value.ownBlock] using he
    subst this
    unfold Row at hr
    rw [hr] at hh
    injection hh with hh
    injection hh with _ ht
    exact hne ht.symm
theorem own_under {w w' : World} {base size n : Nat} {e : TypeId} {v : Value} {xs : List Value} (h : w.ownsRow base e size v n xs) (hb : Below w.heap.size w w') : w'.ownsRow base e size v n xs := by
  refine h.kept (row := none) (grown_below hb) ?_
  cases hv : v.ownBlock
  · exact .inl rfl
  · exact .inr (by simp)
theorem below_own {a b c : World} {B size n : Nat} {e : TypeId} {v : Value} {xs : List Value} (h : Below B a b) (hB : B ≤ b.heap.size) (ho : b.ownsRow B e size v n xs) (k : b.grownBy c v.ownBlock) : Below B a c :=
  ⟨k.os.trans h.os, k.tape.trans h.tape, k.output.trans h.output, Nat.le_trans h.size k.size, fun i hi => (k.block i (by omega) (fun e => by have := (ho.lt i e.symm).1; omega)).trans (h.block i hi)⟩
/-- The address on g, as cells. -/
def pl (f : Nat) (a b c : Int) (g : Nat) : List Value := [.int .i64 g, .int .i64 (Ico.wt f a b c (Ico.cor g 0)), .int .i64 (Ico.wt f a b c (Ico.cor g 1)), .int .i64 (Ico.wt f a b c (Ico.cor g 2))]
/-- All cells below n. -/
def pls (f : Nat) (a b c : Int) (n : Nat) : List Value := (Ico.fcs f a b c n).flatMap (pl f a b c)
theorem pls_yes {f : Nat} {a b c : Int} {n : Nat} (h : Ico.ok f a b c n = true) : pls f a b c (n + 1) = pls f a b c n ++ pl f a b c n := by
  unfold pls; rw [Ico.fcs_succ_yes h, List.flatMap_append]; simp
theorem pls_no {f : Nat} {a b c : Int} {n : Nat} (h : Ico.ok f a b c n = false) : pls f a b c (n + 1) = pls f a b c n := by
  unfold pls; rw [Ico.fcs_succ_no h]
theorem len_yes {f : Nat} {a b c : Int} {n : Nat} (h : Ico.ok f a b c n = true) : (Ico.fcs f a b c (n + 1)).length = (Ico.fcs f a b c n).length + 1 := by rw [Ico.fcs_succ_yes h]; simp
theorem len_no {f : Nat} {a b c : Int} {n : Nat} (h : Ico.ok f a b c n = false) : (Ico.fcs f a b c (n + 1)).length = (Ico.fcs f a b c n).length := by rw [Ico.fcs_succ_no h]
/-- What is known while the faces are gone through. -/
structure Going (W : World) (f : Nat) (a b c : Int) (gw : Nat) (n : Nat) (v : Value) (w : World) : Prop where
  below : Below W.heap.size W w
  row : Row w gw 170 (wa f a b c)
  own : w.ownsRow W.heap.size 50 4 v (Ico.fcs f a b c n).length (pls f a b c n)
theorem Going.under {W w w' : World} {f gw n : Nat} {a b c : Int} {v : Value} (h : Going W f a b c gw n v w) (hb : Below w.heap.size w w') : Going W f a b c gw n v w' :=
  ⟨h.below.trans (hb.mono h.below.size), h.row.under hb, own_under h.own hb⟩
theorem Going.alloc {W w : World} {f gw n : Nat} {a b c : Int} {v : Value} (h : Going W f a b c gw n v w) (o : Obj) : Going W f a b c gw n v (w.alloc o) := h.under ((Below.refl _ _).alloc (Nat.le_refl _) o)
theorem Going.drew {W w : World} {f gw n : Nat} {a b c : Int} {v : Value} (h : Going W f a b c gw n v w) : Going W f a b c gw n v w.drew := ⟨h.below.drew, h.row, h.own⟩
theorem Going.no {W w : World} {f gw n : Nat} {a b c : Int} {v : Value} (h : Going W f a b c gw n v w) (ho : Ico.ok f a b c n = false) : Going W f a b c gw (n + 1) v w :=
  ⟨h.below, h.row, by rw [pls_no ho, len_no ho]; exact h.own⟩
theorem Going.yes {W w w' : World} {f gw n : Nat} {a b c : Int} {v v' : Value} (h : Going W f a b c gw n v w) (ho : Ico.ok f a b c n = true)
    (hown : w'.ownsRow W.heap.size 50 4 v' ((Ico.fcs f a b c n).length + 1) (pls f a b c n ++ pl f a b c n)) (hg : w.grownBy w' v.ownBlock) : Going W f a b c gw (n + 1) v' w' :=
  ⟨below_own h.below h.below.size h.own hg, h.row.grown hg (own_ne h.own h.row (by decide)), by rw [pls_yes ho, len_yes ho]; exact hown⟩
theorem vb_on {f n : Nat} {a b c : Int} (h : Ico.Vld f a b c) (hn : n < 20) : vb n (Ico.wt f a b c (Ico.cor n 0)) (Ico.wt f a b c (Ico.cor n 1)) (Ico.wt f a b c (Ico.cor n 2)) = Ico.ok f a b c n := by
  have h0 := Ico.wt_bd h (Ico.cor n 0)
  have h1 := Ico.wt_bd h (Ico.cor n 1)
  have h2 := Ico.wt_bd h (Ico.cor n 2)
  unfold vb Ico.ok Ico.sm
  rw [decide_eq_decide]
  exact ⟨fun k => k.2.2.2.2.2.2.2.2, fun k => ⟨by omega, by omega, h0.1, h0.2, h1.1, h1.2, h2.1, h2.2, k⟩⟩
theorem row_news {w : World} {g : Nat} {t : TypeId} {x y z u : Value} (h : Row w g t #[x, y, z, u]) : ∀ (j : Nat) (v : Value), [x, y, z, u][j]? = some v → w.cell? ((⟨g, 0, none⟩ : Addr).add j) = some v := by
  intro j v hv
  have e : (⟨g, 0, none⟩ : Addr).add j = ⟨g, j, none⟩ := by unfold Addr.add; cases j <;> simp
  rw [e, h.cell j, ← hv]
  simp
theorem pl_one (f : Nat) (a b c : Int) (g : Nat) : ∀ u ∈ pl f a b c g, u.oneCell' = true := by
  intro u hu
  simp only [pl, List.mem_cons, List.not_mem_nil, or_false] at hu
  rcases hu with rfl | rfl | rfl | rfl <;> rfl
theorem infoPlace : (Tryz.prog.info? 50).map (fun i => (i.zero, i.size, i.bytes)) = some (some (.agg #[.int .i64 0, .int .i64 0, .int .i64 0, .int .i64 0]), 4, 32) := by kernel_rfl

set_option maxRecDepth 100000 in
set_option maxHeartbeats 2000000 in
theorem addresses_no (F a b c : Int) (w : World) (hv : vb F a b c = false) :
    Calls Tryz.prog 156 #[.agg #[.int .i64 F, .int .i64 a, .int .i64 b, .int .i64 c]] w fun e w' => e = .returned (.tuple #[.slice none 0 0, .int .i64 1]) ∧ Below w.heap.size w w' := by
  go_enter Tryz.func156, Tryz.ntmps156
  go_wp2_with (go_at_call 107; refine (valid_from _ _ _ _ w _ ((Below.refl _ _).alloc (Nat.le_refl _) _)).mono ?_; rintro e w2 ⟨rfl, hb2⟩)
  go_ret2
  exact ⟨rfl, hb2⟩
set_option maxRecDepth 100000 in
set_option maxHeartbeats 2000000 in
theorem addresses_yes (f : Nat) (a b c : Int) (w : World) (hv : Ico.Vld f a b c) :
    Calls Tryz.prog 156 #[.agg #[.int .i64 f, .int .i64 a, .int .i64 b, .int .i64 c]] w fun e w' => ∃ v, e = .returned (.tuple #[v, .int .i64 0]) ∧ Below w.heap.size w w' ∧ w'.ownsRow w.heap.size 50 4 v (Ico.fcs f a b c 20).length (pls f a b c 20) := by
  obtain ⟨i0, hi, hz0, hz1, hz2⟩ := info_parts infoPlace
  have v1 := vb_of hv
  have HV := Lib.hid hv
  have hf := hv.1
  clear hv
  go_enter Tryz.func156, Tryz.ntmps156
  go_wp2_with fail
  have k0 := Row.new w #[.int .i64 f, .int .i64 a, .int .i64 b, .int .i64 c] 50
  refine (valid_from _ _ _ _ _ _ (Below.refl _ _)).mono ?_
  rintro e w2 ⟨rfl, hb2⟩
  have k2 := k0.under hb2
  have b2 : Below w.heap.size w w2 := ((Below.refl _ _).alloc (Nat.le_refl _) _).trans (hb2.mono (by simp))
  clear k0 hb2
  obtain ⟨p0, p1, p2, p3⟩ := row4 k2
  go_wp2_with fail
  refine (weights_is _ _ _ _ _ _ (Below.refl _ _) hf).mono ?_
  rintro e w3 ⟨rfl, hb3⟩
  have b3 := b2.trans (hb3.mono b2.size)
  clear b2 hb3 k2 p0 p1 p2 p3
  go_wp2_with fail
  have G0 : Going w f a b c w3.heap.size 0 (.slice none 0 0) (w3.alloc (.cells (wa f a b c) 170)) := ⟨b3.alloc b3.size _, Row.new _ _ _, World.ownsRow_nil _ _ _ _⟩
  clear b3
  generalize w3.heap.size = gw at *
  go_loopw [5, 14] (fun v i wr => ∃ n : Nat, n ≤ 20 ∧ i = .int .i64 n ∧ Going w f a b c gw n v wr) (fun _ i _ => 20 - (intOf i).toNat)
  case atStart => exact ⟨0, by omega, rfl, G0⟩
  case round =>
    clear G0
    obtain ⟨n, hn, rfl, G⟩ := hrel
    by_cases hlt : n < 20
    · go_upto_region 9 with (go_at_call 183; refine (cornersOf_any _ _ hlt).mono ?_; rintro e w4 ⟨rfl, hb4⟩)
      have G4 := (G.under hb4).alloc (.cells #[.int .i64 (Ico.cor n 0), .int .i64 (Ico.cor n 1), .int .i64 (Ico.cor n 2)] 152)
      have r4 := Row.new w4 #[.int .i64 (Ico.cor n 0), .int .i64 (Ico.cor n 1), .int .i64 (Ico.cor n 2)] 152
      refine forget (fun Y => Going w f a b c gw n «u5» Y ∧ Row Y w4.heap.size 152 #[.int .i64 (Ico.cor n 0), .int .i64 (Ico.cor n 1), .int .i64 (Ico.cor n 2)]) ⟨G4, r4⟩ ?_
      clear G G4 r4 hb4
      generalize w4.heap.size = go at *
      rintro Y ⟨G, r4⟩
      obtain ⟨q0, q1, q2⟩ := row3 r4
      have l0 := Ico.cor_lt n 0
      have l1 := Ico.cor_lt n 1
      have l2 := Ico.cor_lt n 2
      have m0 := (G.row.cell (Ico.cor n 0)).trans (wa_at f a b c _ l0)
      have m1 := (G.row.cell (Ico.cor n 1)).trans (wa_at f a b c _ l1)
      have m2 := (G.row.cell (Ico.cor n 2)).trans (wa_at f a b c _ l2)
      have n0 : (0 : Int) ≤ (Ico.cor n 0 : Int) ∧ (Ico.cor n 0 : Int) < 12 := by omega
      have n1 : (0 : Int) ≤ (Ico.cor n 1 : Int) ∧ (Ico.cor n 1 : Int) < 12 := by omega
      have n2 : (0 : Int) ≤ (Ico.cor n 2 : Int) ∧ (Ico.cor n 2 : Int) < 12 := by omega
      obtain ⟨n00, n01⟩ := n0
      obtain ⟨n10, n11⟩ := n1
      obtain ⟨n20, n21⟩ := n2
      go_region_held3 (fun w' => (w'.cell? ⟨go, 0, none⟩ = some (.int .i64 (Ico.cor n 0)) ∧ w'.cell? ⟨go, 1, none⟩ = some (.int .i64 (Ico.cor n 1)) ∧ w'.cell? ⟨go, 2, none⟩ = some (.int .i64 (Ico.cor n 2))) ∧ w'.cell? ⟨gw, Ico.cor n 0, none⟩ = some (.int .i64 (Ico.wt f a b c (Ico.cor n 0))) ∧ w'.cell? ⟨gw, Ico.cor n 1, none⟩ = some (.int .i64 (Ico.wt f a b c (Ico.cor n 1))) ∧ w'.cell? ⟨gw, Ico.cor n 2, none⟩ = some (.int .i64 (Ico.wt f a b c (Ico.cor n 2))))
        (go_keep) (fail)
      go_upto_region 10 with fail
      refine forget (fun Z => Going w f a b c gw n «u5» Z ∧ Row Z Y.heap.size 50 #[.int .i64 n, .int .i64 (Ico.wt f a b c (Ico.cor n 0)), .int .i64 (Ico.wt f a b c (Ico.cor n 1)), .int .i64 (Ico.wt f a b c (Ico.cor n 2))]) ⟨(G.alloc _).drew, (Row.new _ _ _).drew⟩ ?_
      clear G r4 q0 q1 q2 m0 m1 m2 n00 n01 n10 n11 n20 n21
      generalize Y.heap.size = gq at *
      rintro Z ⟨G, r⟩
      obtain ⟨q0, q1, q2, q3⟩ := row4 r
      cases ho : Ico.ok f a b c n
      · have V := Lib.hid ((vb_on HV.out hlt).trans ho); have HO := Lib.hid ho; clear ho
        go_wp2_with fail
        refine (valid_is _ _ _ _ _ _ _ (Below.refl _ _) V.out).mono ?_
        rintro e w5 ⟨rfl, hb5⟩
        go_wp2_with fail
        go_roundw
        case rel => exact ⟨n + 1, by omega, by go_num, (G.under hb5).no HO.out⟩
        case measure => simp [intOf]; omega
      · have V := Lib.hid ((vb_on HV.out hlt).trans ho); have HO := Lib.hid ho; clear ho
        go_wp2_with fail
        refine (valid_is _ _ _ _ _ _ _ (Below.refl _ _) V.out).mono ?_
        rintro e w5 ⟨rfl, hb5⟩
        have G5 := G.under hb5
        have r5 := r.under hb5
        clear G r q0 q1 q2 q3 hb5
        obtain ⟨q0, q1, q2, q3⟩ := row4 r5
        have G6 := G5.alloc (.cells #[.int .i64 n, .int .i64 (Ico.wt f a b c (Ico.cor n 0)), .int .i64 (Ico.wt f a b c (Ico.cor n 1)), .int .i64 (Ico.wt f a b c (Ico.cor n 2))] 50)
        have r6 := Row.new w5 #[.int .i64 n, .int .i64 (Ico.wt f a b c (Ico.cor n 0)), .int .i64 (Ico.wt f a b c (Ico.cor n 1)), .int .i64 (Ico.wt f a b c (Ico.cor n 2))] 50
        have R6 := Lib.hid r6; clear r6 r5
        have HG := Lib.hid G6; clear G6 G5
        have hl := Ico.fcs_len_le f a b c n
        go_wp2_with (at_builtin; refine wpList_append_own _ rfl (.tmp 35) (.tmp 37) 156 rfl w.heap.size 50 i0 _ 4 32 Tryz.underlying156 hi hz0 hz1 hz2 rfl (by decide) _ _ _ rfl HG.out.own ⟨w5.heap.size, 0, none⟩ 1 1 (pl f a b c n) rfl rfl (row_news R6.out) (pl_one f a b c n) (by unfold maxLen; omega) (by omega) HG.out.below.size ?_)
        intro v' w6 hown hgr _
        have G7 := HG.out.yes HO.out hown hgr
        clear hown hgr
        have HG7 := Lib.hid G7; clear G7
        go_wp2_with fail
        go_roundw
        case rel => exact ⟨n + 1, by omega, by go_num, HG7.out⟩
        case measure => simp [intOf]; omega
    · obtain rfl : n = 20 := by omega
      have HG := Lib.hid G; clear G
      go_wp2_with fail
      go_ret2
      exact ⟨_, rfl, HG.out.below, HG.out.own⟩
end Go.Proofs.YtfnlgfacadmjpaaGreatDoor.Pl
namespace Go.Proofs.YtfnlgfacadmjpaaGreatDoor.Pl
open Go.RowKit

theorem flat4 {α : Type} {p : Nat → List α} (hp : ∀ g, (p g).length = 4) : ∀ (l : List Nat) (i r : Nat), r < 4 → (h : i < l.length) → (l.flatMap p)[i * 4 + r]? = (p l[i])[r]?
  | x :: l, 0, r, hr, _ => by
    rw [List.flatMap_cons, List.getElem?_append_left (by rw [hp]; omega)]; simp
  | x :: l, i + 1, r, hr, h => by
    rw [List.flatMap_cons, List.getElem?_append_right (by rw [hp]; omega), hp]
    rw [show (i + 1) * 4 + r - 4 = i * 4 + r by omega, flat4 hp l i r hr (by simpa using h)]
    simp
theorem pl_len (f : Nat) (a b c : Int) (g : Nat) : (pl f a b c g).length = 4 := rfl
/-- Block g holds the addresses. -/
def Has (w : World) (f : Nat) (a b c : Int) (g : Nat) : Prop := ∀ i, (h : i < (Ico.fcs f a b c 20).length) →
  w.cell? ⟨g, i * 4, none⟩ = some (.int .i64 ((Ico.fcs f a b c 20)[i] : Nat)) ∧ w.cell? ⟨g, i * 4 + 1, none⟩ = some (.int .i64 (Ico.wt f a b c (Ico.cor (Ico.fcs f a b c 20)[i] 0))) ∧
  w.cell? ⟨g, i * 4 + 2, none⟩ = some (.int .i64 (Ico.wt f a b c (Ico.cor (Ico.fcs f a b c 20)[i] 1))) ∧ w.cell? ⟨g, i * 4 + 3, none⟩ = some (.int .i64 (Ico.wt f a b c (Ico.cor (Ico.fcs f a b c 20)[i] 2)))
theorem Has.keep {w w' : World} {f : Nat} {a b c : Int} {g : Nat} (h : Has w f a b c g) (hk : ∀ j, w'.cell? ⟨g, j, none⟩ = w.cell? ⟨g, j, none⟩) : Has w' f a b c g := fun i hi => by
  rw [hk, hk, hk, hk]; exact h i hi
theorem Has.under {w w' : World} {f : Nat} {a b c : Int} {g : Nat} (h : Has w f a b c g) (hg : g < w.heap.size) (hb : Below w.heap.size w w') : Has w' f a b c g := h.keep fun j => hb.cell (p := ⟨g, j, none⟩) hg
theorem own_open {w : World} {B size n : Nat} {e : TypeId} {v : Value} {xs : List Value} (h : w.ownsRow B e size v n xs) (hn : 0 < n) :
    ∃ g cap, v = .slice (some ⟨g, 0, none⟩) n cap ∧ B ≤ g ∧ g < w.heap.size ∧ n ≤ cap ∧ cap ≤ maxLen ∧ ∀ j u, xs[j]? = some u → w.cell? ⟨g, j, none⟩ = some u := by
  rcases h.2 with ⟨_, h0⟩ | ⟨g, cap, cur, rfl, hB, hg, hc, hm, _⟩
  · omega
  · refine ⟨g, cap, rfl, hB, (Array.getElem?_eq_some_iff.1 hg).1, hc, hm, fun j u hu => ?_⟩
    have e : (⟨g, 0, none⟩ : Addr).add j = ⟨g, j, none⟩ := by unfold Addr.add; cases j <;> simp
    have := h.cells (g := g) rfl j u hu
    rwa [e] at this
/-- What Addresses leaves: a list in a block of its own. -/
theorem addresses_open (f : Nat) (a b c : Int) (w : World) (hv : Ico.Vld f a b c) :
    Calls Tryz.prog 156 #[.agg #[.int .i64 f, .int .i64 a, .int .i64 b, .int .i64 c]] w fun e w' => ∃ g cap, e = .returned (.tuple #[.slice (some ⟨g, 0, none⟩) (Ico.fcs f a b c 20).length cap, .int .i64 0]) ∧ Below w.heap.size w w' ∧
      w.heap.size ≤ g ∧ g < w'.heap.size ∧ (Ico.fcs f a b c 20).length ≤ cap ∧ cap ≤ 9223372036854775807 ∧ Has w' f a b c g :=
  (addresses_yes f a b c w hv).mono fun e w' ⟨v, he, hb, ho⟩ => by
    obtain ⟨g, cap, rfl, h1, h2, h3, h4, h5⟩ := own_open ho (Ico.fcs_pos hv)
    refine ⟨g, cap, he, hb, h1, h2, h3, by unfold maxLen at h4; exact h4, fun i hi => ⟨?_, ?_, ?_, ?_⟩⟩
    · exact h5 _ _ ((flat4 (pl_len f a b c) _ i 0 (by omega) hi).trans rfl)
    · exact h5 _ _ ((flat4 (pl_len f a b c) _ i 1 (by omega) hi).trans rfl)
    · exact h5 _ _ ((flat4 (pl_len f a b c) _ i 2 (by omega) hi).trans rfl)
    · exact h5 _ _ ((flat4 (pl_len f a b c) _ i 3 (by omega) hi).trans rfl)
theorem nf_eq {f : Nat} {a b c : Int} (h : 0 < (Ico.fcs f a b c 20).length) : (Ico.fcs f a b c 20)[0] = Ico.nf f a b c := by
  unfold Ico.nf
  generalize Ico.fcs f a b c 20 = l at *
  cases l with
  | nil => simp at h
  | cons x l => rfl
/-- The normal place's weights. -/
def nw (f : Nat) (a b c : Int) (k : Nat) : Int := Ico.wt f a b c (Ico.cor (Ico.nf f a b c) k)
theorem Has.first {w : World} {f : Nat} {a b c : Int} {g : Nat} (h : Has w f a b c g) (hv : Ico.Vld f a b c) :
    w.cell? ⟨g, 0, none⟩ = some (.int .i64 (Ico.nf f a b c : Nat)) ∧ w.cell? ⟨g, 1, none⟩ = some (.int .i64 (nw f a b c 0)) ∧ w.cell? ⟨g, 2, none⟩ = some (.int .i64 (nw f a b c 1)) ∧ w.cell? ⟨g, 3, none⟩ = some (.int .i64 (nw f a b c 2)) := by
  have := h 0 (Ico.fcs_pos hv)
  rw [nf_eq (Ico.fcs_pos hv)] at this
  exact this
set_option maxHeartbeats 1000000 in
theorem normal_no (F a b c : Int) (w : World) (hv : vb F a b c = false) :
    Calls Tryz.prog 125 #[.agg #[.int .i64 F, .int .i64 a, .int .i64 b, .int .i64 c]] w fun e w' => e = .returned (.tuple #[.agg #[.int .i64 0, .int .i64 0, .int .i64 0, .int .i64 0], .int .i64 1]) ∧ Below w.heap.size w w' := by
  go_enter Tryz.func125, Tryz.ntmps125
  go_wp2_with fail
  refine (addresses_no _ _ _ _ _ hv).mono ?_
  rintro e w2 ⟨rfl, hb2⟩
  obtain ⟨hc, hz⟩ := bcell hb2
  go_wp2_with fail
  exact bodyPost_ret (v := .tuple #[.agg #[.int .i64 0, .int .i64 0, .int .i64 0, .int .i64 0], .int .i64 1]) (by simp [results, Tryz.results125, hc, go_sem]) rfl ⟨rfl, (((((((Below.refl _ _).alloc (Nat.le_refl _) _).alloc (by simp) _).trans (hb2.mono (by simp; omega))).setCell (by simp) _).setCell (by simp) _).setCell (by simp) _).setCell (by simp) _⟩
set_option maxHeartbeats 1000000 in
theorem normal_yes (f : Nat) (a b c : Int) (w : World) (hv : Ico.Vld f a b c) :
    Calls Tryz.prog 125 #[.agg #[.int .i64 f, .int .i64 a, .int .i64 b, .int .i64 c]] w fun e w' => e = .returned (.tuple #[.agg #[.int .i64 (Ico.nf f a b c : Nat), .int .i64 (nw f a b c 0), .int .i64 (nw f a b c 1), .int .i64 (nw f a b c 2)], .int .i64 0]) ∧ Below w.heap.size w w' := by
  have HV := Lib.hid hv; clear hv
  go_enter Tryz.func125, Tryz.ntmps125
  go_wp2_with fail
  refine (addresses_open _ _ _ _ _ HV.out).mono ?_
  rintro e w2 ⟨g, cap, rfl, hb2, g1, g2, g3, g4, hH⟩
  obtain ⟨hc, hz⟩ := bcell hb2
  obtain ⟨q0, q1, q2, q3⟩ := hH.first HV.out
  have hp := Ico.fcs_pos HV.out
  clear hH
  generalize (Ico.fcs f a b c 20).length = len at *
  have hge : w.heap.size + 2 ≤ g := by simp at g1; omega
  clear g1
  go_wp2_with fail
  exact bodyPost_ret (v := .tuple #[.agg #[.int .i64 (Ico.nf f a b c : Nat), .int .i64 (nw f a b c 0), .int .i64 (nw f a b c 1), .int .i64 (nw f a b c 2)], .int .i64 0]) (by simp [results, Tryz.results125, hc, go_sem]) rfl ⟨rfl, (((((((Below.refl _ _).alloc (Nat.le_refl _) _).alloc (by simp) _).trans (hb2.mono (by simp; omega))).setCell (by simp) _).setCell (by simp) _).setCell (by simp) _).setCell (by simp) _⟩
end Go.Proofs.YtfnlgfacadmjpaaGreatDoor.Pl
