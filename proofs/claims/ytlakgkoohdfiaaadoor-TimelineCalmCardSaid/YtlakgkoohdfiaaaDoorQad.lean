/- Texts of this proof. -/
import Derived.Test.YtlakgkoohdfiaaaDoorQac
import Derived.Laws.StructEq
import Derived.ChangeKeysEq
import Derived.Test.YtlakgkoohdfiaaaDoorPWts
import Derived.Deep.RegionHeld3
import Derived.Laws.OwnMore
import Derived.StillTailTactics
import Derived.OwnWalk
namespace Go.Proofs.YtlakgkoohdfiaaaDoor.Pl
open Go.RowKit

/-- Two places are compared field by field. -/
theorem eq_place (a b c d a' b' c' d' : Int) (w : World) :
    (Op.equalIn 10000 27 (.agg #[.int .i64 a, .int .i64 b, .int .i64 c, .int .i64 d]) (.agg #[.int .i64 a', .int .i64 b', .int .i64 c', .int .i64 d'])).run Tryd.prog w = .ok (a == a' && b == b' && c == c' && d == d') w := by
  have u3 := Tryd.underlying3
  have a3 := Tryd.isAgg3
  have z3 := Tryd.sizeOf3
  have hS : Tryd.prog.underlying 27 = some (.struct (Tryd.prog.fieldsOf 27)) := by kernel_rfl
  rw [show (10000 : Nat) = 9999 + 1 from rfl, run_equalIn_agg w 9999 27 _ _ hS (by kernel_rfl)]
  simp only [Program.fieldsOf, Tryd.underlying27]
  go_simp
  by_cases h1 : a = a' <;> by_cases h2 : b = b' <;> by_cases h3 : c = c' <;> by_cases h4 : d = d' <;> simp [h1, h2, h3, h4]
theorem cells_int : Tryd.prog.cellsOf 3 = 1 := by kernel_rfl
theorem info_int : (Tryd.prog.info? 3).isSome = true := by kernel_rfl
theorem plain_int : Tryd.prog.plainKey 3 = true := by kernel_rfl
/-- Numbers in a row. -/
theorem eq_items (d : Nat) (p q : Nat → Int) (xs ys : Array Value) (w : World) : ∀ is : List Nat, (∀ j ∈ is, xs[j]? = some (.int .i64 (p j)) ∧ ys[j]? = some (.int .i64 (q j))) →
    (Op.eqItems (d + 1) 3 (Tryd.prog.cellsOf 3) xs ys is).run Tryd.prog w = .ok (is.all fun j => p j == q j) w
  | [], _ => by simp [Op.eqItems]
  | j :: is, h => by
    have hj := h j (by simp)
    have h1 : (part 3 xs (j * Tryd.prog.cellsOf 3)).run Tryd.prog w = .ok (.int .i64 (p j)) w := run_part_plain _ plain_int (by rw [cells_int, Nat.mul_one]; exact hj.1)
    have h2 : (part 3 ys (j * Tryd.prog.cellsOf 3)).run Tryd.prog w = .ok (.int .i64 (q j)) w := run_part_plain _ plain_int (by rw [cells_int, Nat.mul_one]; exact hj.2)
    have h3 : (Op.equalIn (d + 1) 3 (.int .i64 (p j)) (.int .i64 (q j))).run Tryd.prog w = .ok (p j == q j) w := run_equalIn_int w d 3 .i64 .i64 _ _ Tryd.underlying3
    have ih := eq_items d p q xs ys w is fun k hk => h k (by simp [hk])
    simp only [Op.eqItems, Sem.run_bind, h1, h2, h3, Result.andThen_ok, List.all_cons]
    cases p j == q j
    · simp
    · simpa using ih
/-- The weights of two places are the same. -/
def sw (f : Nat) (a b c : Int) (g : Nat) (x y z : Int) : Bool := (List.range 12).all fun v => Ico.wt f a b c v == Ico.wt g x y z v
theorem eq_wa (f : Nat) (a b c : Int) (g : Nat) (x y z : Int) (w : World) :
    (Op.equalIn 10000 65 (.agg (wa f a b c)) (.agg (wa g x y z))).run Tryd.prog w = .ok (sw f a b c g x y z) w := by
  obtain ⟨i, hi⟩ := Option.isSome_iff_exists.1 info_int
  rw [show (10000 : Nat) = 9998 + 1 + 1 from rfl, run_equalIn_array w (9998 + 1) _ _ Tryd.underlying65 hi]
  exact eq_items 9998 _ _ _ _ w _ fun j hj => ⟨wa_at f a b c j (List.mem_range.1 hj), wa_at g x y z j (List.mem_range.1 hj)⟩
theorem sw_iff {f : Nat} {a b c : Int} {g : Nat} {x y z : Int} : sw f a b c g x y z = true ↔ ∀ v, v < 12 → Ico.wt f a b c v = Ico.wt g x y z v := by
  unfold sw; simp [List.all_eq_true]
theorem wt_far (f : Nat) (a b c : Int) (v : Nat) (h : ¬ v < 12) : Ico.wt f a b c v = 0 := by
  unfold Ico.wt
  have h0 := Ico.cor_lt f 0
  have h1 := Ico.cor_lt f 1
  have h2 := Ico.cor_lt f 2
  rw [if_neg (by omega), if_neg (by omega), if_neg (by omega)]
theorem sw_all {f : Nat} {a b c : Int} {g : Nat} {x y z : Int} : sw f a b c g x y z = true ↔ ∀ v, Ico.wt f a b c v = Ico.wt g x y z v := by
  rw [sw_iff]
  exact ⟨fun h v => by
    by_cases hv : v < 12
    · exact h v hv
    · rw [wt_far _ _ _ _ _ hv, wt_far _ _ _ _ _ hv], fun h v _ => h v⟩
/-- Three numbers in a row. -/
theorem eq_three (a b c a' b' c' : Int) (w : World) :
    (Op.equalIn 10000 192 (.agg #[.int .i64 a, .int .i64 b, .int .i64 c]) (.agg #[.int .i64 a', .int .i64 b', .int .i64 c'])).run Tryd.prog w = .ok (a == a' && b == b' && c == c') w := by
  obtain ⟨i, hi⟩ := Option.isSome_iff_exists.1 info_int
  rw [show (10000 : Nat) = 9998 + 1 + 1 from rfl, run_equalIn_array w (9998 + 1) _ _ Tryd.underlying192 hi]
  rw [eq_items 9998 (fun j => [a, b, c].getD j 0) (fun j => [a', b', c'].getD j 0) _ _ w _ fun j hj => by
    have : j < 3 := List.mem_range.1 hj
    have : j = 0 ∨ j = 1 ∨ j = 2 := by omega
    rcases this with rfl | rfl | rfl <;> exact ⟨rfl, rfl⟩]
  simp [List.range_succ, Bool.and_assoc]
end Go.Proofs.YtlakgkoohdfiaaaDoor.Pl


namespace Go.Proofs.YtlakgkoohdfiaaaDoor.Pl
open Go.RowKit

attribute [local go_sem] eq_wa
theorem vb_of {f : Nat} {a b c : Int} (h : Ico.Vld f a b c) : vb f a b c = true := by
  obtain ⟨h0, h1, h2, h3, h4, h5, h6, h7⟩ := h
  unfold vb; rw [decide_eq_true_eq]; exact ⟨by omega, by omega, h1, h2, h3, h4, h5, h6, h7⟩
theorem vb_to {F a b c : Int} (h : vb F a b c = true) : ∃ f : Nat, F = f ∧ Ico.Vld f a b c := by
  unfold vb at h; rw [decide_eq_true_eq] at h
  obtain ⟨h1, h2, h3, h4, h5, h6, h7, h8, h9⟩ := h
  exact ⟨F.toNat, by omega, by omega, h3, h4, h5, h6, h7, h8, h9⟩
theorem valid_is (F a b c : Int) (r : Bool) (w0 w : World) (hb : Below w0.heap.size w0 w) (hr : vb F a b c = r) :
    Calls Tryd.prog 137 #[.agg #[.int .i64 F, .int .i64 a, .int .i64 b, .int .i64 c]] w fun e w' => e = .returned (.bool r) ∧ Below w0.heap.size w0 w' :=
  (valid_any F a b c w).mono fun _ _ ⟨he, hg⟩ => ⟨hr ▸ he, hb.trans (hg.mono hb.size)⟩
theorem weights_is (f : Nat) (a b c : Int) (w0 w : World) (hb : Below w0.heap.size w0 w) (hf : f < 20) :
    Calls Tryd.prog 138 #[.agg #[.int .i64 f, .int .i64 a, .int .i64 b, .int .i64 c]] w fun e w' => e = .returned (.agg (wa f a b c)) ∧ Below w0.heap.size w0 w' :=
  (weights_any f a b c w hf).mono fun _ _ ⟨he, hg⟩ => ⟨he, hb.trans (hg.mono hb.size)⟩
/-- Both boxes. -/
theorem boxes {w w' : World} {g g' : Nat} {F a b c G x y z : Int} (hb : Below w.heap.size w w') (h : Row w g 27 #[.int .i64 F, .int .i64 a, .int .i64 b, .int .i64 c]) (k : Row w g' 27 #[.int .i64 G, .int .i64 x, .int .i64 y, .int .i64 z]) :
    (w'.cell? ⟨g, 0, none⟩ = some (.int .i64 F) ∧ w'.cell? ⟨g, 1, none⟩ = some (.int .i64 a) ∧ w'.cell? ⟨g, 2, none⟩ = some (.int .i64 b) ∧ w'.cell? ⟨g, 3, none⟩ = some (.int .i64 c)) ∧
    w'.cell? ⟨g', 0, none⟩ = some (.int .i64 G) ∧ w'.cell? ⟨g', 1, none⟩ = some (.int .i64 x) ∧ w'.cell? ⟨g', 2, none⟩ = some (.int .i64 y) ∧ w'.cell? ⟨g', 3, none⟩ = some (.int .i64 z) :=
  ⟨row4 (h.under hb), row4 (k.under hb)⟩
theorem valid_from (F a b c : Int) (w0 w : World) (hb : Below w0.heap.size w0 w) :
    Calls Tryd.prog 137 #[.agg #[.int .i64 F, .int .i64 a, .int .i64 b, .int .i64 c]] w fun e w' => e = .returned (.bool (vb F a b c)) ∧ Below w0.heap.size w0 w' :=
  valid_is F a b c _ w0 w hb rfl
end Go.Proofs.YtlakgkoohdfiaaaDoor.Pl


namespace Go.Proofs.YtlakgkoohdfiaaaDoor.Pl
open Go.RowKit

theorem own_ne {w : World} {base size n g : Nat} {e t : TypeId} {v : Value} {xs : List Value} {cs : Array Value} (h : w.ownsRow base e size v n xs) (hr : Row w g t cs) (hne : e ≠ t) : some g ≠ v.ownBlock := by
  rcases h.2 with ⟨rfl, _⟩ | ⟨g', cap, cur, rfl, _, hh, _⟩
  · simp [Value.ownBlock]
  · intro he
    have : g = g' := by simpa [Value.ownBlock] using he
    subst this
    unfold Row at hr
    rw [hr] at hh
    injection hh with hh
    injection hh with _ ht
    exact hne ht.symm
theorem own_under {w w' : World} {base size n : Nat} {e : TypeId} {v : Value} {xs : List Value} (h : w.ownsRow base e size v n xs) (hb : Below w.heap.size w w') : w'.ownsRow base e size v n xs := by
  refine h.kept (row := none) (grown_below hb) ?_
  cases hv : v.ownBlock
  · exact .inl rfl
  · exact .inr (by simp)
theorem below_own {a b c : World} {B size n : Nat} {e : TypeId} {v : Value} {xs : List Value} (h : Below B a b) (hB : B ≤ b.heap.size) (ho : b.ownsRow B e size v n xs) (k : b.grownBy c v.ownBlock) : Below B a c :=
  ⟨k.os.trans h.os, k.tape.trans h.tape, k.output.trans h.output, Nat.le_trans h.size k.size, fun i hi => (k.block i (by omega) (fun e => by have := (ho.lt i e.symm).1; omega)).trans (h.block i hi)⟩
/-- The address on g, as cells. -/
def pl (f : Nat) (a b c : Int) (g : Nat) : List Value := [.int .i64 g, .int .i64 (Ico.wt f a b c (Ico.cor g 0)), .int .i64 (Ico.wt f a b c (Ico.cor g 1)), .int .i64 (Ico.wt f a b c (Ico.cor g 2))]
/-- All cells below n. -/
def pls (f : Nat) (a b c : Int) (n : Nat) : List Value := (Ico.fcs f a b c n).flatMap (pl f a b c)
theorem pls_yes {f : Nat} {a b c : Int} {n : Nat} (h : Ico.ok f a b c n = true) : pls f a b c (n + 1) = pls f a b c n ++ pl f a b c n := by
  unfold pls; rw [Ico.fcs_succ_yes h, List.flatMap_append]; simp
theorem pls_no {f : Nat} {a b c : Int} {n : Nat} (h : Ico.ok f a b c n = false) : pls f a b c (n + 1) = pls f a b c n := by
  unfold pls; rw [Ico.fcs_succ_no h]
theorem len_yes {f : Nat} {a b c : Int} {n : Nat} (h : Ico.ok f a b c n = true) : (Ico.fcs f a b c (n + 1)).length = (Ico.fcs f a b c n).length + 1 := by rw [Ico.fcs_succ_yes h]; simp
theorem len_no {f : Nat} {a b c : Int} {n : Nat} (h : Ico.ok f a b c n = false) : (Ico.fcs f a b c (n + 1)).length = (Ico.fcs f a b c n).length := by rw [Ico.fcs_succ_no h]
/-- What is known while the faces are gone through. -/
structure Going (W : World) (f : Nat) (a b c : Int) (gw : Nat) (n : Nat) (v : Value) (w : World) : Prop where
  below : Below W.heap.size W w
  row : Row w gw 65 (wa f a b c)
  own : w.ownsRow W.heap.size 27 4 v (Ico.fcs f a b c n).length (pls f a b c n)
theorem Going.under {W w w' : World} {f gw n : Nat} {a b c : Int} {v : Value} (h : Going W f a b c gw n v w) (hb : Below w.heap.size w w') : Going W f a b c gw n v w' :=
  ⟨h.below.trans (hb.mono h.below.size), h.row.under hb, own_under h.own hb⟩
theorem Going.alloc {W w : World} {f gw n : Nat} {a b c : Int} {v : Value} (h : Going W f a b c gw n v w) (o : Obj) : Going W f a b c gw n v (w.alloc o) := h.under ((Below.refl _ _).alloc (Nat.le_refl _) o)
theorem Going.drew {W w : World} {f gw n : Nat} {a b c : Int} {v : Value} (h : Going W f a b c gw n v w) : Going W f a b c gw n v w.drew := ⟨h.below.drew, h.row, h.own⟩
theorem Going.no {W w : World} {f gw n : Nat} {a b c : Int} {v : Value} (h : Going W f a b c gw n v w) (ho : Ico.ok f a b c n = false) : Going W f a b c gw (n + 1) v w :=
  ⟨h.below, h.row, by rw [pls_no ho, len_no ho]; exact h.own⟩
theorem Going.yes {W w w' : World} {f gw n : Nat} {a b c : Int} {v v' : Value} (h : Going W f a b c gw n v w) (ho : Ico.ok f a b c n = true)
    (hown : w'.ownsRow W.heap.size 27 4 v' ((Ico.fcs f a b c n).length + 1) (pls f a b c n ++ pl f a b c n)) (hg : w.grownBy w' v.ownBlock) : Going W f a b c gw (n + 1) v' w' :=
  ⟨below_own h.below h.below.size h.own hg, h.row.grown hg (own_ne h.own h.row (by decide)), by rw [pls_yes ho, len_yes ho]; exact hown⟩
theorem vb_on {f n : Nat} {a b c : Int} (h : Ico.Vld f a b c) (hn : n < 20) : vb n (Ico.wt f a b c (Ico.cor n 0)) (Ico.wt f a b c (Ico.cor n 1)) (Ico.wt f a b c (Ico.cor n 2)) = Ico.ok f a b c n := by
  have h0 := Ico.wt_bd h (Ico.cor n 0)
  have h1 := Ico.wt_bd h (Ico.cor n 1)
  have h2 := Ico.wt_bd h (Ico.cor n 2)
  unfold vb Ico.ok Ico.sm
  rw [decide_eq_decide]
  exact ⟨fun k => k.2.2.2.2.2.2.2.2, fun k => ⟨by omega, by omega, h0.1, h0.2, h1.1, h1.2, h2.1, h2.2, k⟩⟩
theorem row_news {w : World} {g : Nat} {t : TypeId} {x y z u : Value} (h : Row w g t #[x, y, z, u]) : ∀ (j : Nat) (v : Value), [x, y, z, u][j]? = some v → w.cell? ((⟨g, 0, none⟩ : Addr).add j) = some v := by
  intro j v hv
  have e : (⟨g, 0, none⟩ : Addr).add j = ⟨g, j, none⟩ := by unfold Addr.add; cases j <;> simp
  rw [e, h.cell j, ← hv]
  simp
theorem pl_one (f : Nat) (a b c : Int) (g : Nat) : ∀ u ∈ pl f a b c g, u.oneCell' = true := by
  intro u hu
  simp only [pl, List.mem_cons, List.not_mem_nil, or_false] at hu
  rcases hu with rfl | rfl | rfl | rfl <;> rfl
theorem infoPlace : (Tryd.prog.info? 27).map (fun i => (i.zero, i.size, i.bytes)) = some (some (.agg #[.int .i64 0, .int .i64 0, .int .i64 0, .int .i64 0]), 4, 32) := by kernel_rfl

set_option maxRecDepth 100000 in
set_option maxHeartbeats 2000000 in
theorem addresses_no (F a b c : Int) (w : World) (hv : vb F a b c = false) :
    Calls Tryd.prog 118 #[.agg #[.int .i64 F, .int .i64 a, .int .i64 b, .int .i64 c]] w fun e w' => e = .returned (.tuple #[.slice none 0 0, .int .i64 1]) ∧ Below w.heap.size w w' := by
  go_enter Tryd.func118, Tryd.ntmps118
  go_wp2_with (go_at_call 137; refine (valid_from _ _ _ _ w _ ((Below.refl _ _).alloc (Nat.le_refl _) _)).mono ?_; rintro e w2 ⟨rfl, hb2⟩)
  go_ret2
  exact ⟨rfl, hb2⟩
set_option maxRecDepth 100000 in
set_option maxHeartbeats 2000000 in
theorem addresses_yes (f : Nat) (a b c : Int) (w : World) (hv : Ico.Vld f a b c) :
    Calls Tryd.prog 118 #[.agg #[.int .i64 f, .int .i64 a, .int .i64 b, .int .i64 c]] w fun e w' => ∃ v, e = .returned (.tuple #[v, .int .i64 0]) ∧ Below w.heap.size w w' ∧ w'.ownsRow w.heap.size 27 4 v (Ico.fcs f a b c 20).length (pls f a b c 20) := by
  obtain ⟨i0, hi, hz0, hz1, hz2⟩ := info_parts infoPlace
  have v1 := vb_of hv
  have HV := Lib.hid hv
  have hf := hv.1
  clear hv
  go_enter Tryd.func118, Tryd.ntmps118
  go_wp2_with fail
  have k0 := Row.new w #[.int .i64 f, .int .i64 a, .int .i64 b, .int .i64 c] 27
  refine (valid_from _ _ _ _ _ _ (Below.refl _ _)).mono ?_
  rintro e w2 ⟨rfl, hb2⟩
  have k2 := k0.under hb2
  have b2 : Below w.heap.size w w2 := ((Below.refl _ _).alloc (Nat.le_refl _) _).trans (hb2.mono (by simp))
  clear k0 hb2
  obtain ⟨p0, p1, p2, p3⟩ := row4 k2
  go_wp2_with fail
  refine (weights_is _ _ _ _ _ _ (Below.refl _ _) hf).mono ?_
  rintro e w3 ⟨rfl, hb3⟩
  have b3 := b2.trans (hb3.mono b2.size)
  clear b2 hb3 k2 p0 p1 p2 p3
  go_wp2_with fail
  have G0 : Going w f a b c w3.heap.size 0 (.slice none 0 0) (w3.alloc (.cells (wa f a b c) 65)) := ⟨b3.alloc b3.size _, Row.new _ _ _, World.ownsRow_nil _ _ _ _⟩
  clear b3
  generalize w3.heap.size = gw at *
  go_loopw [5, 14] (fun v i wr => ∃ n : Nat, n ≤ 20 ∧ i = .int .i64 n ∧ Going w f a b c gw n v wr) (fun _ i _ => 20 - (intOf i).toNat)
  case atStart => exact ⟨0, by omega, rfl, G0⟩
  case round =>
    clear G0
    obtain ⟨n, hn, rfl, G⟩ := hrel
    by_cases hlt : n < 20
    · go_upto_region 9 with (go_at_call 139; refine (cornersOf_any _ _ hlt).mono ?_; rintro e w4 ⟨rfl, hb4⟩)
      have G4 := (G.under hb4).alloc (.cells #[.int .i64 (Ico.cor n 0), .int .i64 (Ico.cor n 1), .int .i64 (Ico.cor n 2)] 192)
      have r4 := Row.new w4 #[.int .i64 (Ico.cor n 0), .int .i64 (Ico.cor n 1), .int .i64 (Ico.cor n 2)] 192
      refine forget (fun Y => Going w f a b c gw n «u5» Y ∧ Row Y w4.heap.size 192 #[.int .i64 (Ico.cor n 0), .int .i64 (Ico.cor n 1), .int .i64 (Ico.cor n 2)]) ⟨G4, r4⟩ ?_
      clear G G4 r4 hb4
      generalize w4.heap.size = go at *
      rintro Y ⟨G, r4⟩
      obtain ⟨q0, q1, q2⟩ := row3 r4
      have l0 := Ico.cor_lt n 0
      have l1 := Ico.cor_lt n 1
      have l2 := Ico.cor_lt n 2
      have m0 := (G.row.cell (Ico.cor n 0)).trans (wa_at f a b c _ l0)
      have m1 := (G.row.cell (Ico.cor n 1)).trans (wa_at f a b c _ l1)
      have m2 := (G.row.cell (Ico.cor n 2)).trans (wa_at f a b c _ l2)
      have n0 : (0 : Int) ≤ (Ico.cor n 0 : Int) ∧ (Ico.cor n 0 : Int) < 12 := by omega
      have n1 : (0 : Int) ≤ (Ico.cor n 1 : Int) ∧ (Ico.cor n 1 : Int) < 12 := by omega
      have n2 : (0 : Int) ≤ (Ico.cor n 2 : Int) ∧ (Ico.cor n 2 : Int) < 12 := by omega
      obtain ⟨n00, n01⟩ := n0
      obtain ⟨n10, n11⟩ := n1
      obtain ⟨n20, n21⟩ := n2
      go_region_held3 (fun w' => (w'.cell? ⟨go, 0, none⟩ = some (.int .i64 (Ico.cor n 0)) ∧ w'.cell? ⟨go, 1, none⟩ = some (.int .i64 (Ico.cor n 1)) ∧ w'.cell? ⟨go, 2, none⟩ = some (.int .i64 (Ico.cor n 2))) ∧ w'.cell? ⟨gw, Ico.cor n 0, none⟩ = some (.int .i64 (Ico.wt f a b c (Ico.cor n 0))) ∧ w'.cell? ⟨gw, Ico.cor n 1, none⟩ = some (.int .i64 (Ico.wt f a b c (Ico.cor n 1))) ∧ w'.cell? ⟨gw, Ico.cor n 2, none⟩ = some (.int .i64 (Ico.wt f a b c (Ico.cor n 2))))
        (go_keep) (fail)
      go_upto_region 10 with fail
      refine forget (fun Z => Going w f a b c gw n «u5» Z ∧ Row Z Y.heap.size 27 #[.int .i64 n, .int .i64 (Ico.wt f a b c (Ico.cor n 0)), .int .i64 (Ico.wt f a b c (Ico.cor n 1)), .int .i64 (Ico.wt f a b c (Ico.cor n 2))]) ⟨(G.alloc _).drew, (Row.new _ _ _).drew⟩ ?_
      clear G r4 q0 q1 q2 m0 m1 m2 n00 n01 n10 n11 n20 n21
      generalize Y.heap.size = gq at *
      rintro Z ⟨G, r⟩
      obtain ⟨q0, q1, q2, q3⟩ := row4 r
      cases ho : Ico.ok f a b c n
      · have V := Lib.hid ((vb_on HV.out hlt).trans ho); have HO := Lib.hid ho; clear ho
        go_wp2_with fail
        refine (valid_is _ _ _ _ _ _ _ (Below.refl _ _) V.out).mono ?_
        rintro e w5 ⟨rfl, hb5⟩
        go_wp2_with fail
        go_roundw
        case rel => exact ⟨n + 1, by omega, by go_num, (G.under hb5).no HO.out⟩
        case measure => simp [intOf]; omega
      · have V := Lib.hid ((vb_on HV.out hlt).trans ho); have HO := Lib.hid ho; clear ho
        go_wp2_with fail
        refine (valid_is _ _ _ _ _ _ _ (Below.refl _ _) V.out).mono ?_
        rintro e w5 ⟨rfl, hb5⟩
        have G5 := G.under hb5
        have r5 := r.under hb5
        clear G r q0 q1 q2 q3 hb5
        obtain ⟨q0, q1, q2, q3⟩ := row4 r5
        have G6 := G5.alloc (.cells #[.int .i64 n, .int .i64 (Ico.wt f a b c (Ico.cor n 0)), .int .i64 (Ico.wt f a b c (Ico.cor n 1)), .int .i64 (Ico.wt f a b c (Ico.cor n 2))] 27)
        have r6 := Row.new w5 #[.int .i64 n, .int .i64 (Ico.wt f a b c (Ico.cor n 0)), .int .i64 (Ico.wt f a b c (Ico.cor n 1)), .int .i64 (Ico.wt f a b c (Ico.cor n 2))] 27
        have R6 := Lib.hid r6; clear r6 r5
        have HG := Lib.hid G6; clear G6 G5
        have hl := Ico.fcs_len_le f a b c n
        go_wp2_with (at_builtin; refine wpList_append_own _ rfl (.tmp 35) (.tmp 37) 47 rfl w.heap.size 27 i0 _ 4 32 Tryd.underlying47 hi hz0 hz1 hz2 rfl (by decide) _ _ _ rfl HG.out.own ⟨w5.heap.size, 0, none⟩ 1 1 (pl f a b c n) rfl rfl (row_news R6.out) (pl_one f a b c n) (by unfold maxLen; omega) (by omega) HG.out.below.size ?_)
        intro v' w6 hown hgr _
        have G7 := HG.out.yes HO.out hown hgr
        clear hown hgr
        have HG7 := Lib.hid G7; clear G7
        go_wp2_with fail
        go_roundw
        case rel => exact ⟨n + 1, by omega, by go_num, HG7.out⟩
        case measure => simp [intOf]; omega
    · obtain rfl : n = 20 := by omega
      have HG := Lib.hid G; clear G
      go_wp2_with fail
      go_ret2
      exact ⟨_, rfl, HG.out.below, HG.out.own⟩
end Go.Proofs.YtlakgkoohdfiaaaDoor.Pl

