/- The contract of Same of the program. -/
import Derived.Test.YteccblhmpggcgaaDoorWts
import Derived.Test.YteccblhmpggcgaaDoorEqs
import Derived.Deep.RegionHeld3
namespace Go.Proofs.YteccblhmpggcgaaDoor
open Go.RowKit

attribute [local go_sem] eq_wa
theorem vb_of {f : Nat} {a b c : Int} (h : Ico.Vld f a b c) : vb f a b c = true := by
  obtain ⟨h0, h1, h2, h3, h4, h5, h6, h7⟩ := h
  unfold vb; rw [decide_eq_true_eq]; exact ⟨by omega, by omega, h1, h2, h3, h4, h5, h6, h7⟩
theorem vb_to {F a b c : Int} (h : vb F a b c = true) : ∃ f : Nat, F = f ∧ Ico.Vld f a b c := by
  unfold vb at h; rw [decide_eq_true_eq] at h
  obtain ⟨h1, h2, h3, h4, h5, h6, h7, h8, h9⟩ := h
  exact ⟨F.toNat, by omega, by omega, h3, h4, h5, h6, h7, h8, h9⟩
theorem valid_is (F a b c : Int) (r : Bool) (w0 w : World) (hb : Below w0.heap.size w0 w) (hr : vb F a b c = r) :
    Calls Tryd.prog 20 #[.agg #[.int .i64 F, .int .i64 a, .int .i64 b, .int .i64 c]] w fun e w' => e = .returned (.bool r) ∧ Below w0.heap.size w0 w' :=
  (valid_any F a b c w).mono fun _ _ ⟨he, hg⟩ => ⟨hr ▸ he, hb.trans (hg.mono hb.size)⟩
theorem weights_is (f : Nat) (a b c : Int) (w0 w : World) (hb : Below w0.heap.size w0 w) (hf : f < 20) :
    Calls Tryd.prog 33 #[.agg #[.int .i64 f, .int .i64 a, .int .i64 b, .int .i64 c]] w fun e w' => e = .returned (.agg (wa f a b c)) ∧ Below w0.heap.size w0 w' :=
  (weights_any f a b c w hf).mono fun _ _ ⟨he, hg⟩ => ⟨he, hb.trans (hg.mono hb.size)⟩
/-- Both boxes. -/
theorem boxes {w w' : World} {g g' : Nat} {F a b c G x y z : Int} (hb : Below w.heap.size w w') (h : Row w g 23 #[.int .i64 F, .int .i64 a, .int .i64 b, .int .i64 c]) (k : Row w g' 23 #[.int .i64 G, .int .i64 x, .int .i64 y, .int .i64 z]) :
    (w'.cell? ⟨g, 0, none⟩ = some (.int .i64 F) ∧ w'.cell? ⟨g, 1, none⟩ = some (.int .i64 a) ∧ w'.cell? ⟨g, 2, none⟩ = some (.int .i64 b) ∧ w'.cell? ⟨g, 3, none⟩ = some (.int .i64 c)) ∧
    w'.cell? ⟨g', 0, none⟩ = some (.int .i64 G) ∧ w'.cell? ⟨g', 1, none⟩ = some (.int .i64 x) ∧ w'.cell? ⟨g', 2, none⟩ = some (.int .i64 y) ∧ w'.cell? ⟨g', 3, none⟩ = some (.int .i64 z) :=
  ⟨row4 (h.under hb), row4 (k.under hb)⟩
theorem valid_from (F a b c : Int) (w0 w : World) (hb : Below w0.heap.size w0 w) :
    Calls Tryd.prog 20 #[.agg #[.int .i64 F, .int .i64 a, .int .i64 b, .int .i64 c]] w fun e w' => e = .returned (.bool (vb F a b c)) ∧ Below w0.heap.size w0 w' :=
  valid_is F a b c _ w0 w hb rfl
set_option maxHeartbeats 1000000 in
theorem same_both (f : Nat) (a b c : Int) (g : Nat) (x y z : Int) (w : World) (hp : Ico.Vld f a b c) (hq : Ico.Vld g x y z) :
    Calls Tryd.prog 22 #[.agg #[.int .i64 f, .int .i64 a, .int .i64 b, .int .i64 c], .agg #[.int .i64 g, .int .i64 x, .int .i64 y, .int .i64 z]] w fun e w' => e = .returned (.bool (sw f a b c g x y z)) ∧ Below w.heap.size w w' := by
  have v1 := vb_of hp
  have v2 := vb_of hq
  have f1 := hp.1
  have f2 := hq.1
  clear hp hq
  go_enter Tryd.func22, Tryd.ntmps22
  go_upto_region 1 with fail
  refine forget (fun Y => Below w.heap.size w Y ∧ Row Y w.heap.size 23 #[.int .i64 f, .int .i64 a, .int .i64 b, .int .i64 c] ∧ Row Y (w.heap.size + 1) 23 #[.int .i64 g, .int .i64 x, .int .i64 y, .int .i64 z]) ⟨((Below.refl _ _).alloc (Nat.le_refl _) _).alloc (by simp) _, (Row.new _ _ _).alloc _, Row.newAt (by simp)⟩ ?_
  rintro Y ⟨bY, r1, r2⟩
  generalize w.heap.size + 1 = g' at *
  obtain ⟨⟨p0, p1, p2, p3⟩, q0, q1, q2, q3⟩ := boxes (Below.refl _ _) r1 r2
  have R1 := Lib.hid r1
  have R2 := Lib.hid r2
  clear r1 r2
  have hb2 := Below.refl Y.drew.heap.size Y.drew
  go_region_held3 (fun w' => (w'.cell? ⟨w.heap.size, 0, none⟩ = some (.int .i64 f) ∧ w'.cell? ⟨w.heap.size, 1, none⟩ = some (.int .i64 a) ∧ w'.cell? ⟨w.heap.size, 2, none⟩ = some (.int .i64 b) ∧ w'.cell? ⟨w.heap.size, 3, none⟩ = some (.int .i64 c)) ∧
    w'.cell? ⟨g', 0, none⟩ = some (.int .i64 g) ∧ w'.cell? ⟨g', 1, none⟩ = some (.int .i64 x) ∧ w'.cell? ⟨g', 2, none⟩ = some (.int .i64 y) ∧ w'.cell? ⟨g', 3, none⟩ = some (.int .i64 z))
    (first | go_keep | exact boxes (w := Y.drew) hb2 R1.out R2.out)
    (first | (go_at_call 20; refine (valid_from _ _ _ _ Y.drew _ hb2).mono ?_; clear hb2; rintro e w2 ⟨rfl, hb2⟩) | (go_at_call 33; refine (weights_is _ _ _ _ Y.drew _ hb2 (by omega)).mono ?_; clear hb2; rintro e w2 ⟨rfl, hb2⟩))
  go_wp2
  go_ret
  exact ⟨rfl, bY.trans ((undrew hb2).mono bY.size)⟩
set_option maxHeartbeats 1000000 in
theorem same_no1 (f a b c g x y z : Int) (w : World) (v1 : vb f a b c = false) :
    Calls Tryd.prog 22 #[.agg #[.int .i64 f, .int .i64 a, .int .i64 b, .int .i64 c], .agg #[.int .i64 g, .int .i64 x, .int .i64 y, .int .i64 z]] w fun e w' => e = .returned (.bool false) ∧ Below w.heap.size w w' := by
  go_enter Tryd.func22, Tryd.ntmps22
  go_upto_region 1 with fail
  refine forget (fun Y => Below w.heap.size w Y ∧ Row Y w.heap.size 23 #[.int .i64 f, .int .i64 a, .int .i64 b, .int .i64 c] ∧ Row Y (w.heap.size + 1) 23 #[.int .i64 g, .int .i64 x, .int .i64 y, .int .i64 z]) ⟨((Below.refl _ _).alloc (Nat.le_refl _) _).alloc (by simp) _, (Row.new _ _ _).alloc _, Row.newAt (by simp)⟩ ?_
  rintro Y ⟨bY, r1, r2⟩
  generalize w.heap.size + 1 = g' at *
  obtain ⟨⟨p0, p1, p2, p3⟩, q0, q1, q2, q3⟩ := boxes (Below.refl _ _) r1 r2
  clear r1 r2
  go_region_with (go_at_call 20; refine (valid_from _ _ _ _ Y.drew _ (Below.refl _ _)).mono ?_; rintro e w2 ⟨rfl, hb2⟩)
  all_goals go_wp2
  all_goals go_ret
  all_goals exact ⟨rfl, bY.trans ((undrew hb2).mono bY.size)⟩
set_option maxHeartbeats 1000000 in
theorem same_no2 (f a b c g x y z : Int) (w : World) (v1 : vb f a b c = true) (v2 : vb g x y z = false) :
    Calls Tryd.prog 22 #[.agg #[.int .i64 f, .int .i64 a, .int .i64 b, .int .i64 c], .agg #[.int .i64 g, .int .i64 x, .int .i64 y, .int .i64 z]] w fun e w' => e = .returned (.bool false) ∧ Below w.heap.size w w' := by
  go_enter Tryd.func22, Tryd.ntmps22
  go_upto_region 1 with fail
  refine forget (fun Y => Below w.heap.size w Y ∧ Row Y w.heap.size 23 #[.int .i64 f, .int .i64 a, .int .i64 b, .int .i64 c] ∧ Row Y (w.heap.size + 1) 23 #[.int .i64 g, .int .i64 x, .int .i64 y, .int .i64 z]) ⟨((Below.refl _ _).alloc (Nat.le_refl _) _).alloc (by simp) _, (Row.new _ _ _).alloc _, Row.newAt (by simp)⟩ ?_
  rintro Y ⟨bY, r1, r2⟩
  generalize w.heap.size + 1 = g' at *
  obtain ⟨⟨p0, p1, p2, p3⟩, q0, q1, q2, q3⟩ := boxes (Below.refl _ _) r1 r2
  have R1 := Lib.hid r1
  have R2 := Lib.hid r2
  clear r1 r2
  have hb2 := Below.refl Y.drew.heap.size Y.drew
  go_region_with (go_at_call 20; refine (valid_from _ _ _ _ Y.drew _ hb2).mono ?_; clear hb2; rintro e w2 ⟨rfl, hb2⟩; obtain ⟨⟨s0, s1, s2, s3⟩, t0, t1, t2, t3⟩ := boxes (w := Y.drew) hb2 R1.out R2.out)
  all_goals go_wp2
  all_goals go_ret
  all_goals exact ⟨rfl, bY.trans ((undrew hb2).mono bY.size)⟩
end Go.Proofs.YteccblhmpggcgaaDoor
