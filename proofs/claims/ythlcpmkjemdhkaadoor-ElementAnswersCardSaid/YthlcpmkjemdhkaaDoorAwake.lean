/- The sanity check of every statement of the layer. -/
import Derived.Test.YthlcpmkjemdhkaaDoorParse
namespace Go.Proofs.YthlcpmkjemdhkaaDoor
open Go.RowKit

def tP : ByteArray := S [80, 49, 48, 49, 51, 50]
def tE : ByteArray := S [69, 45, 48, 48, 53, 55]
theorem tP_is : S (Elt.txt 1 10132) = tP := by decide +kernel
theorem tE_is : S (Elt.txt 4 (-57)) = tE := by decide +kernel
theorem tP_same : (tP.toList == [80, 49, 48, 49, 51, 50]) = true := by rw [ByteArray.toList_eq]; rfl
theorem form_a (w : World) (hE : Env w) : Calls Tryd.prog 26 #[.agg #[.int .i64 1, .int .i64 10132]] w fun e w' => e = .returned (.tuple #[.string tP, .int .i64 0]) ∧ Below w.heap.size w w' := by
  have h := format_yes 1 10132 w hE (by decide +kernel)
  rw [tP_is] at h
  exact h
theorem form_b (w : World) (hE : Env w) : Calls Tryd.prog 26 #[.agg #[.int .i64 4, .int .i64 (-57)]] w fun e w' => e = .returned (.tuple #[.string tE, .int .i64 0]) ∧ Below w.heap.size w w' := by
  have h := format_yes 4 (-57) w hE (by decide +kernel)
  rw [tE_is] at h
  exact h
theorem parse_b (w : World) (hE : Env w) : Calls Tryd.prog 28 #[.string tE] w fun e w' => e = .returned (.tuple #[rdV 4 (-57), .int .i64 0]) ∧ Below w.heap.size w w' := by
  have h := parse_yes 4 (-57) w hE (by decide +kernel)
  rw [tE_is] at h
  exact h
theorem tE_same : (tE.toList == [69, 45, 48, 48, 53, 55]) = true := by rw [ByteArray.toList_eq]; rfl
theorem eq_reading (a b a' b' : Int) (w : World) :
    (Op.equalIn 10000 47 (.agg #[.int .i64 a, .int .i64 b]) (.agg #[.int .i64 a', .int .i64 b'])).run Tryd.prog w = .ok (a == a' && b == b') w := by
  have u3 := Tryd.underlying3
  have a3 := Tryd.isAgg3
  have z3 := Tryd.sizeOf3
  have hS : Tryd.prog.underlying 47 = some (.struct (Tryd.prog.fieldsOf 47)) := by kernel_rfl
  rw [show (10000 : Nat) = 9999 + 1 from rfl, run_equalIn_agg w 9999 47 _ _ hS (by kernel_rfl)]
  simp only [Program.fieldsOf, Tryd.underlying47]
  go_simp
  by_cases h1 : a = a' <;> by_cases h2 : b = b' <;> simp [h1, h2]
attribute [local go_sem] eq_reading
set_option maxRecDepth 100000 in
set_option maxHeartbeats 1000000 in
theorem awake_any (w : World) (hE : Env w) :
    Calls Tryd.prog 8 #[] w fun e w' => e = .returned (.bool true) ∧ Below w.heap.size w w' := by
  have s1 := tP_same
  have s2 := tE_same
  go_enter Tryd.func8, Tryd.ntmps8
  go_wp2_with fail
  refine (form_a _ hE).mono ?_
  rintro e w1 ⟨rfl, b1⟩
  have hE1 := hE.under b1
  go_wp2_with fail
  refine (form_b _ hE1).mono ?_
  rintro e w2 ⟨rfl, g2⟩
  have b2 := b1.trans (g2.mono b1.size)
  have hE2 := hE1.under g2
  clear g2 b1 hE1
  go_wp2_with fail
  refine (parse_b _ hE2).mono ?_
  rintro e w3 ⟨rfl, g3⟩
  have b3 := b2.trans (g3.mono b2.size)
  clear g3 b2 hE2
  generalize tP = xP at *
  generalize tE = xE at *
  have B3 := Lib.hid b3; clear b3
  go_wp2_with fail
  all_goals (go_ret; exact ⟨rfl, B3.out.alloc B3.out.size _⟩)
theorem awake_from {w0 : World} (X : World) (hE : Env X) (hb : Below w0.heap.size w0 X) :
    Calls Tryd.prog 8 #[] X fun e w' => e = .returned (.bool true) ∧ Below w0.heap.size w0 w' :=
  (awake_any X hE).mono fun _ _ ⟨he, hg⟩ => ⟨he, hb.trans (hg.mono hb.size)⟩
end Go.Proofs.YthlcpmkjemdhkaaDoor
