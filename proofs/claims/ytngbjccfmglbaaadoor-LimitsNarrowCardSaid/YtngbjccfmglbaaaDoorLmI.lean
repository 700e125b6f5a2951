/- The contract of the reference's Gross at single codes. -/
import Derived.Test.YtngbjccfmglbaaaDoorLmB
namespace Go.Proofs.YtngbjccfmglbaaaDoor
open Go.RowKit

set_option maxHeartbeats 2000000 in
theorem refGross9 (v : Int) (w : World) :
    Calls Tryd.prog 10 #[rdV 9 v] w fun e w' => e = .returned (.bool (decide ((2050 : Int) ≤ v ∧ v ≤ 2950))) ∧ Below w.heap.size w w' := by
  have b0 : Below w.heap.size w (w.alloc (.cells #[.int .i64 9, .int .i64 v] 30)) := (Below.refl _ _).alloc (Nat.le_refl _) _
  have r0 := Row.new w #[.int .i64 9, .int .i64 v] 30
  go_enter Tryd.func10, Tryd.ntmps10
  go_upto_region 4 with fail
  refine forget (fun Y => Below w.heap.size w Y ∧ Row Y w.heap.size 30 #[.int .i64 9, .int .i64 v] ∧ Row Y (w.heap.size + 2) 52 #[.int .i64 2050, .int .i64 2950]) ⟨(b0.alloc (by simp) _).alloc (by simp; omega) _, (r0.alloc _).alloc _, Row.newAt (by simp)⟩ ?_
  clear b0 r0
  rintro Y ⟨bY, rY, rZ⟩
  obtain ⟨p0, p1⟩ := row2 rY
  obtain ⟨q0, q1⟩ := row2 rZ
  have BY := Lib.hid bY; clear bY rY rZ
  by_cases h1 : (2050 : Int) ≤ v
  · by_cases h2 : v ≤ 2950
    · have HD : Hid (decide ((2050 : Int) ≤ v ∧ v ≤ 2950) = true) := Lib.hid (decide_eq_true ⟨h1, h2⟩)
      go_wp2_with fail
      go_ret
      exact ⟨ret_bool (by first | exact HD.out.symm | (simp; omega)), BY.out⟩
    · have HD : Hid (decide ((2050 : Int) ≤ v ∧ v ≤ 2950) = false) := Lib.hid (decide_eq_false fun h => h2 h.2)
      go_wp2_with fail
      go_ret
      exact ⟨ret_bool (by first | exact HD.out.symm | (simp; omega)), BY.out⟩
  · have HD : Hid (decide ((2050 : Int) ≤ v ∧ v ≤ 2950) = false) := Lib.hid (decide_eq_false fun h => h1 h.1)
    go_wp2_with fail
    go_ret
    exact ⟨ret_bool (by first | exact HD.out.symm | (simp; omega)), BY.out⟩
set_option maxHeartbeats 2000000 in
theorem refGross10 (v : Int) (w : World) :
    Calls Tryd.prog 10 #[rdV 10 v] w fun e w' => e = .returned (.bool (decide ((4700 : Int) ≤ v ∧ v ≤ 6050))) ∧ Below w.heap.size w w' := by
  have b0 : Below w.heap.size w (w.alloc (.cells #[.int .i64 10, .int .i64 v] 30)) := (Below.refl _ _).alloc (Nat.le_refl _) _
  have r0 := Row.new w #[.int .i64 10, .int .i64 v] 30
  go_enter Tryd.func10, Tryd.ntmps10
  go_upto_region 4 with fail
  refine forget (fun Y => Below w.heap.size w Y ∧ Row Y w.heap.size 30 #[.int .i64 10, .int .i64 v] ∧ Row Y (w.heap.size + 2) 52 #[.int .i64 4700, .int .i64 6050]) ⟨(b0.alloc (by simp) _).alloc (by simp; omega) _, (r0.alloc _).alloc _, Row.newAt (by simp)⟩ ?_
  clear b0 r0
  rintro Y ⟨bY, rY, rZ⟩
  obtain ⟨p0, p1⟩ := row2 rY
  obtain ⟨q0, q1⟩ := row2 rZ
  have BY := Lib.hid bY; clear bY rY rZ
  by_cases h1 : (4700 : Int) ≤ v
  · by_cases h2 : v ≤ 6050
    · have HD : Hid (decide ((4700 : Int) ≤ v ∧ v ≤ 6050) = true) := Lib.hid (decide_eq_true ⟨h1, h2⟩)
      go_wp2_with fail
      go_ret
      exact ⟨ret_bool (by first | exact HD.out.symm | (simp; omega)), BY.out⟩
    · have HD : Hid (decide ((4700 : Int) ≤ v ∧ v ≤ 6050) = false) := Lib.hid (decide_eq_false fun h => h2 h.2)
      go_wp2_with fail
      go_ret
      exact ⟨ret_bool (by first | exact HD.out.symm | (simp; omega)), BY.out⟩
  · have HD : Hid (decide ((4700 : Int) ≤ v ∧ v ≤ 6050) = false) := Lib.hid (decide_eq_false fun h => h1 h.1)
    go_wp2_with fail
    go_ret
    exact ⟨ret_bool (by first | exact HD.out.symm | (simp; omega)), BY.out⟩
set_option maxHeartbeats 2000000 in
theorem refGross11 (v : Int) (w : World) :
    Calls Tryd.prog 10 #[rdV 11 v] w fun e w' => e = .returned (.bool (decide ((2050 : Int) ≤ v ∧ v ≤ 2850))) ∧ Below w.heap.size w w' := by
  have b0 : Below w.heap.size w (w.alloc (.cells #[.int .i64 11, .int .i64 v] 30)) := (Below.refl _ _).alloc (Nat.le_refl _) _
  have r0 := Row.new w #[.int .i64 11, .int .i64 v] 30
  go_enter Tryd.func10, Tryd.ntmps10
  go_upto_region 4 with fail
  refine forget (fun Y => Below w.heap.size w Y ∧ Row Y w.heap.size 30 #[.int .i64 11, .int .i64 v] ∧ Row Y (w.heap.size + 2) 52 #[.int .i64 2050, .int .i64 2850]) ⟨(b0.alloc (by simp) _).alloc (by simp; omega) _, (r0.alloc _).alloc _, Row.newAt (by simp)⟩ ?_
  clear b0 r0
  rintro Y ⟨bY, rY, rZ⟩
  obtain ⟨p0, p1⟩ := row2 rY
  obtain ⟨q0, q1⟩ := row2 rZ
  have BY := Lib.hid bY; clear bY rY rZ
  by_cases h1 : (2050 : Int) ≤ v
  · by_cases h2 : v ≤ 2850
    · have HD : Hid (decide ((2050 : Int) ≤ v ∧ v ≤ 2850) = true) := Lib.hid (decide_eq_true ⟨h1, h2⟩)
      go_wp2_with fail
      go_ret
      exact ⟨ret_bool (by first | exact HD.out.symm | (simp; omega)), BY.out⟩
    · have HD : Hid (decide ((2050 : Int) ≤ v ∧ v ≤ 2850) = false) := Lib.hid (decide_eq_false fun h => h2 h.2)
      go_wp2_with fail
      go_ret
      exact ⟨ret_bool (by first | exact HD.out.symm | (simp; omega)), BY.out⟩
  · have HD : Hid (decide ((2050 : Int) ≤ v ∧ v ≤ 2850) = false) := Lib.hid (decide_eq_false fun h => h1 h.1)
    go_wp2_with fail
    go_ret
    exact ⟨ret_bool (by first | exact HD.out.symm | (simp; omega)), BY.out⟩
end Go.Proofs.YtngbjccfmglbaaaDoor

