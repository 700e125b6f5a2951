/- The contract of the reference's Gross at single codes. -/
import Derived.Test.YtngbjccfmglbaaaDoorLmB
namespace Go.Proofs.YtngbjccfmglbaaaDoor
open Go.RowKit

set_option maxHeartbeats 2000000 in
theorem refGross5 (v : Int) (w : World) :
    Calls Tryd.prog 10 #[rdV 5 v] w fun e w' => e = .returned (.bool (decide (((-900) : Int) ≤ v ∧ v ≤ 900))) ∧ Below w.heap.size w w' := by
  have b0 : Below w.heap.size w (w.alloc (.cells #[.int .i64 5, .int .i64 v] 30)) := (Below.refl _ _).alloc (Nat.le_refl _) _
  have r0 := Row.new w #[.int .i64 5, .int .i64 v] 30
  go_enter Tryd.func10, Tryd.ntmps10
  go_upto_region 4 with fail
  refine forget (fun Y => Below w.heap.size w Y ∧ Row Y w.heap.size 30 #[.int .i64 5, .int .i64 v] ∧ Row Y (w.heap.size + 2) 52 #[.int .i64 (-900), .int .i64 900]) ⟨(b0.alloc (by simp) _).alloc (by simp; omega) _, (r0.alloc _).alloc _, Row.newAt (by simp)⟩ ?_
  clear b0 r0
  rintro Y ⟨bY, rY, rZ⟩
  obtain ⟨p0, p1⟩ := row2 rY
  obtain ⟨q0, q1⟩ := row2 rZ
  have BY := Lib.hid bY; clear bY rY rZ
  by_cases h1 : ((-900) : Int) ≤ v
  · by_cases h2 : v ≤ 900
    · have HD : Hid (decide (((-900) : Int) ≤ v ∧ v ≤ 900) = true) := Lib.hid (decide_eq_true ⟨h1, h2⟩)
      go_wp2_with fail
      go_ret
      exact ⟨ret_bool (by first | exact HD.out.symm | (simp; omega)), BY.out⟩
    · have HD : Hid (decide (((-900) : Int) ≤ v ∧ v ≤ 900) = false) := Lib.hid (decide_eq_false fun h => h2 h.2)
      go_wp2_with fail
      go_ret
      exact ⟨ret_bool (by first | exact HD.out.symm | (simp; omega)), BY.out⟩
  · have HD : Hid (decide (((-900) : Int) ≤ v ∧ v ≤ 900) = false) := Lib.hid (decide_eq_false fun h => h1 h.1)
    go_wp2_with fail
    go_ret
    exact ⟨ret_bool (by first | exact HD.out.symm | (simp; omega)), BY.out⟩
set_option maxHeartbeats 2000000 in
theorem refGross6 (v : Int) (w : World) :
    Calls Tryd.prog 10 #[rdV 6 v] w fun e w' => e = .returned (.bool (decide ((1000 : Int) ≤ v ∧ v ≤ 1650))) ∧ Below w.heap.size w w' := by
  have b0 : Below w.heap.size w (w.alloc (.cells #[.int .i64 6, .int .i64 v] 30)) := (Below.refl _ _).alloc (Nat.le_refl _) _
  have r0 := Row.new w #[.int .i64 6, .int .i64 v] 30
  go_enter Tryd.func10, Tryd.ntmps10
  go_upto_region 4 with fail
  refine forget (fun Y => Below w.heap.size w Y ∧ Row Y w.heap.size 30 #[.int .i64 6, .int .i64 v] ∧ Row Y (w.heap.size + 2) 52 #[.int .i64 1000, .int .i64 1650]) ⟨(b0.alloc (by simp) _).alloc (by simp; omega) _, (r0.alloc _).alloc _, Row.newAt (by simp)⟩ ?_
  clear b0 r0
  rintro Y ⟨bY, rY, rZ⟩
  obtain ⟨p0, p1⟩ := row2 rY
  obtain ⟨q0, q1⟩ := row2 rZ
  have BY := Lib.hid bY; clear bY rY rZ
  by_cases h1 : (1000 : Int) ≤ v
  · by_cases h2 : v ≤ 1650
    · have HD : Hid (decide ((1000 : Int) ≤ v ∧ v ≤ 1650) = true) := Lib.hid (decide_eq_true ⟨h1, h2⟩)
      go_wp2_with fail
      go_ret
      exact ⟨ret_bool (by first | exact HD.out.symm | (simp; omega)), BY.out⟩
    · have HD : Hid (decide ((1000 : Int) ≤ v ∧ v ≤ 1650) = false) := Lib.hid (decide_eq_false fun h => h2 h.2)
      go_wp2_with fail
      go_ret
      exact ⟨ret_bool (by first | exact HD.out.symm | (simp; omega)), BY.out⟩
  · have HD : Hid (decide ((1000 : Int) ≤ v ∧ v ≤ 1650) = false) := Lib.hid (decide_eq_false fun h => h1 h.1)
    go_wp2_with fail
    go_ret
    exact ⟨ret_bool (by first | exact HD.out.symm | (simp; omega)), BY.out⟩
set_option maxHeartbeats 2000000 in
theorem refGross7 (v : Int) (w : World) :
    Calls Tryd.prog 10 #[rdV 7 v] w fun e w' => e = .returned (.bool (decide ((2100 : Int) ≤ v ∧ v ≤ 3150))) ∧ Below w.heap.size w w' := by
  have b0 : Below w.heap.size w (w.alloc (.cells #[.int .i64 7, .int .i64 v] 30)) := (Below.refl _ _).alloc (Nat.le_refl _) _
  have r0 := Row.new w #[.int .i64 7, .int .i64 v] 30
  go_enter Tryd.func10, Tryd.ntmps10
  go_upto_region 4 with fail
  refine forget (fun Y => Below w.heap.size w Y ∧ Row Y w.heap.size 30 #[.int .i64 7, .int .i64 v] ∧ Row Y (w.heap.size + 2) 52 #[.int .i64 2100, .int .i64 3150]) ⟨(b0.alloc (by simp) _).alloc (by simp; omega) _, (r0.alloc _).alloc _, Row.newAt (by simp)⟩ ?_
  clear b0 r0
  rintro Y ⟨bY, rY, rZ⟩
  obtain ⟨p0, p1⟩ := row2 rY
  obtain ⟨q0, q1⟩ := row2 rZ
  have BY := Lib.hid bY; clear bY rY rZ
  by_cases h1 : (2100 : Int) ≤ v
  · by_cases h2 : v ≤ 3150
    · have HD : Hid (decide ((2100 : Int) ≤ v ∧ v ≤ 3150) = true) := Lib.hid (decide_eq_true ⟨h1, h2⟩)
      go_wp2_with fail
      go_ret
      exact ⟨ret_bool (by first | exact HD.out.symm | (simp; omega)), BY.out⟩
    · have HD : Hid (decide ((2100 : Int) ≤ v ∧ v ≤ 3150) = false) := Lib.hid (decide_eq_false fun h => h2 h.2)
      go_wp2_with fail
      go_ret
      exact ⟨ret_bool (by first | exact HD.out.symm | (simp; omega)), BY.out⟩
  · have HD : Hid (decide ((2100 : Int) ≤ v ∧ v ≤ 3150) = false) := Lib.hid (decide_eq_false fun h => h1 h.1)
    go_wp2_with fail
    go_ret
    exact ⟨ret_bool (by first | exact HD.out.symm | (simp; omega)), BY.out⟩
set_option maxHeartbeats 2000000 in
theorem refGross8 (v : Int) (w : World) :
    Calls Tryd.prog 10 #[rdV 8 v] w fun e w' => e = .returned (.bool (decide ((2500 : Int) ≤ v ∧ v ≤ 3350))) ∧ Below w.heap.size w w' := by
  have b0 : Below w.heap.size w (w.alloc (.cells #[.int .i64 8, .int .i64 v] 30)) := (Below.refl _ _).alloc (Nat.le_refl _) _
  have r0 := Row.new w #[.int .i64 8, .int .i64 v] 30
  go_enter Tryd.func10, Tryd.ntmps10
  go_upto_region 4 with fail
  refine forget (fun Y => Below w.heap.size w Y ∧ Row Y w.heap.size 30 #[.int .i64 8, .int .i64 v] ∧ Row Y (w.heap.size + 2) 52 #[.int .i64 2500, .int .i64 3350]) ⟨(b0.alloc (by simp) _).alloc (by simp; omega) _, (r0.alloc _).alloc _, Row.newAt (by simp)⟩ ?_
  clear b0 r0
  rintro Y ⟨bY, rY, rZ⟩
  obtain ⟨p0, p1⟩ := row2 rY
  obtain ⟨q0, q1⟩ := row2 rZ
  have BY := Lib.hid bY; clear bY rY rZ
  by_cases h1 : (2500 : Int) ≤ v
  · by_cases h2 : v ≤ 3350
    · have HD : Hid (decide ((2500 : Int) ≤ v ∧ v ≤ 3350) = true) := Lib.hid (decide_eq_true ⟨h1, h2⟩)
      go_wp2_with fail
      go_ret
      exact ⟨ret_bool (by first | exact HD.out.symm | (simp; omega)), BY.out⟩
    · have HD : Hid (decide ((2500 : Int) ≤ v ∧ v ≤ 3350) = false) := Lib.hid (decide_eq_false fun h => h2 h.2)
      go_wp2_with fail
      go_ret
      exact ⟨ret_bool (by first | exact HD.out.symm | (simp; omega)), BY.out⟩
  · have HD : Hid (decide ((2500 : Int) ≤ v ∧ v ≤ 3350) = false) := Lib.hid (decide_eq_false fun h => h1 h.1)
    go_wp2_with fail
    go_ret
    exact ⟨ret_bool (by first | exact HD.out.symm | (simp; omega)), BY.out⟩
end Go.Proofs.YtngbjccfmglbaaaDoor

