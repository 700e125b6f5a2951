/- The contract of the reference's Format on a minute. -/
import Derived.Test.YtaohndjlaamdaaaDoorRefText
namespace Go.Proofs.YtaohndjlaamdaaaDoor
open Go.RowKit
/-- A number in two or four digits. -/
def dg (k n : Int) : List UInt8 := if k = 4 then dig4 n else dig2 n
theorem dg_four (n : Int) : dg 4 n = dig4 n := rfl
theorem dg_two (n : Int) : dg 2 n = dig2 n := rfl
theorem digitsU (W : World) (n k : Int) (w : World) (hb : Below W.heap.size W w) (h1 : 0 ≤ n) (h2 : (k = 2 ∧ n ≤ 99) ∨ (k = 4 ∧ n ≤ 9999)) :
    Calls Tryd.prog 42 #[.int .i64 n, .int .i64 k] w fun e w' => e = .returned (.string (S (dg k n))) ∧ Below W.heap.size W w' := by
  rcases h2 with ⟨rfl, h⟩ | ⟨rfl, h⟩
  · exact digits2 W n w hb h1 h
  · exact digits4 W n w hb h1 h
attribute [local go_sem] S_add S_size S_one dig2_length dig4_length dg_four dg_two
set_option maxHeartbeats 2000000 in
theorem refFormat_yes (n y m d h i : Int) (w : World) (hn : Cal.num y m d h i = n) (hv : Cal.vld y m d h i = true) :
    Calls Tryd.prog 29 #[.int .i64 n] w fun e w' => e = .returned (.tuple #[.string (S (txt y m d h i)), .int .i64 0]) ∧ Below w.heap.size w w' := by
  obtain ⟨⟨a1, a2, a3, a4⟩, a5, a6, a7, a8, a9, a10⟩ := Cal.vld_iff.1 hv
  have c2 := Cal.dim_bd y m
  have N := Lib.hid hn; clear hn
  go_enter Tryd.func29, Tryd.ntmps29
  go_upto_region 4 with (go_at_call 20; refine (refDate_yes _ _ _ _ _ _ _ N.out hv).mono ?_; rintro e w1 ⟨rfl, hb⟩)
  have hb1 := hb.alloc hb.size (.cells #[.int .i64 y, .int .i64 m, .int .i64 d, .int .i64 h, .int .i64 i] 23)
  refine forget (fun Y => Below w.heap.size w Y ∧ Box Y w1.heap.size y m d h i) ⟨hb1, Box.new w1 y m d h i⟩ ?_
  clear hb hb1
  generalize w1.heap.size = g at *
  rintro Y ⟨bY, BY⟩
  obtain ⟨⟨k0, k1, k2, k3, k4⟩, -⟩ := BY.facts
  have hb2 := Below.refl Y.drew.heap.size Y.drew
  go_region_held3 (fun w' => w'.cell? ⟨g, 0, none⟩ = some (.int .i64 y) ∧ w'.cell? ⟨g, 1, none⟩ = some (.int .i64 m) ∧ w'.cell? ⟨g, 2, none⟩ = some (.int .i64 d) ∧ w'.cell? ⟨g, 3, none⟩ = some (.int .i64 h) ∧ w'.cell? ⟨g, 4, none⟩ = some (.int .i64 i))
    (first | go_keep | exact (Box.under (w := Y.drew) BY hb2).facts.1)
    (first | (go_at_call 42; refine (digitsU Y.drew _ _ _ hb2 (by omega) (by omega)).mono ?_; clear hb2; rintro e w2 ⟨rfl, hb2⟩))
  go_wp2
  go_ret2
  exact ⟨ret_str2 (by simp [txt]), bY.trans ((undrew hb2).mono bY.size)⟩
end Go.Proofs.YtaohndjlaamdaaaDoor
