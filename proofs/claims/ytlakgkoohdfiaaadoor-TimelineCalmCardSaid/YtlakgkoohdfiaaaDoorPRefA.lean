/- Contracts of the reference's Corners, Weights, Same. -/
import Derived.Test.YtlakgkoohdfiaaaDoorQae
namespace Go.Proofs.YtlakgkoohdfiaaaDoor.Pl
open Go.RowKit

set_option maxHeartbeats 400000 in
theorem refValid_any (F a b c : Int) (w : World) :
    Calls Tryd.prog 74 #[.agg #[.int .i64 F, .int .i64 a, .int .i64 b, .int .i64 c]] w fun e w' => e = .returned (.bool (vb F a b c)) ∧ Below w.heap.size w w' := by
  by_cases h1 : 0 ≤ F
  · by_cases h2 : F < 20
    · by_cases h3 : 0 ≤ a
      · by_cases h4 : a ≤ 840
        · by_cases h5 : 0 ≤ b
          · by_cases h6 : b ≤ 840
            · by_cases h7 : 0 ≤ c
              · by_cases h8 : c ≤ 840
                · have V : Hid (vb F a b c = decide (a + b + c = 840)) := Lib.hid (by unfold vb; rw [decide_eq_decide]; exact ⟨fun h => h.2.2.2.2.2.2.2.2, fun h => ⟨h1, h2, h3, h4, h5, h6, h7, h8, h⟩⟩)
                  go_enter Tryd.func74, Tryd.ntmps74
                  go_wp2
                  go_ret
                  exact ⟨ret_bool (by rw [V.out, Bool.eq_iff_iff]; simp), (Below.refl _ _).alloc (Nat.le_refl _) _⟩
                · go_enter Tryd.func74, Tryd.ntmps74
                  go_wp2
                  go_ret
                  exact ⟨ret_bool (by simp [vb]; omega), (Below.refl _ _).alloc (Nat.le_refl _) _⟩
              · go_enter Tryd.func74, Tryd.ntmps74
                go_wp2
                go_ret
                exact ⟨ret_bool (by simp [vb]; omega), (Below.refl _ _).alloc (Nat.le_refl _) _⟩
            · go_enter Tryd.func74, Tryd.ntmps74
              go_wp2
              go_ret
              exact ⟨ret_bool (by simp [vb]; omega), (Below.refl _ _).alloc (Nat.le_refl _) _⟩
          · go_enter Tryd.func74, Tryd.ntmps74
            go_wp2
            go_ret
            exact ⟨ret_bool (by simp [vb]; omega), (Below.refl _ _).alloc (Nat.le_refl _) _⟩
        · go_enter Tryd.func74, Tryd.ntmps74
          go_wp2
          go_ret
          exact ⟨ret_bool (by simp [vb]; omega), (Below.refl _ _).alloc (Nat.le_refl _) _⟩
      · go_enter Tryd.func74, Tryd.ntmps74
        go_wp2
        go_ret
        exact ⟨ret_bool (by simp [vb]; omega), (Below.refl _ _).alloc (Nat.le_refl _) _⟩
    · go_enter Tryd.func74, Tryd.ntmps74
      go_wp2
      go_ret
      exact ⟨ret_bool (by simp [vb]; omega), (Below.refl _ _).alloc (Nat.le_refl _) _⟩
  · go_enter Tryd.func74, Tryd.ntmps74
    go_wp2
    go_ret
    exact ⟨ret_bool (by simp [vb]; omega), (Below.refl _ _).alloc (Nat.le_refl _) _⟩



theorem ret_c3t {f : Nat} {a b c : Int} (h : a = (Ico.cor f 0 : Int) ∧ b = (Ico.cor f 1 : Int) ∧ c = (Ico.cor f 2 : Int)) : Ending.returned (.tuple #[.agg #[.int .i64 a, .int .i64 b, .int .i64 c], .int .i64 0]) = .returned (.tuple #[c3 f, .int .i64 0]) := by
  obtain ⟨rfl, rfl, rfl⟩ := h; rfl
set_option maxHeartbeats 1000000 in
theorem refCorners_yes (f : Nat) (w : World) (hf : f < 20) :
    Calls Tryd.prog 136 #[.int .i64 f] w fun e w' => e = .returned (.tuple #[c3 f, .int .i64 0]) ∧ Below w.heap.size w w' := by
  have hq : (f : Int) / 5 = 0 ∨ (f : Int) / 5 = 1 ∨ (f : Int) / 5 = 2 ∨ (f : Int) / 5 = 3 := by omega
  rcases hq with hq | hq | hq | hq
  · have C := Lib.hid (cor_form0 f hf (by omega))
    have q0 : ((f : Int) / 5 == 0) = true := by rw [hq]; rfl
    clear hq
    go_enter Tryd.func136, Tryd.ntmps136
    go_wp2
    exact bodyPost_ret (v := .tuple #[.agg #[.int .i64 0, .int .i64 (1 + (f : Int) % 5), .int .i64 (1 + ((f : Int) % 5 + 1) % 5)], .int .i64 0]) (by simp [results, Tryd.results136, go_sem]) rfl ⟨ret_c3t (by obtain ⟨c1, c2, c3⟩ := C.out; rw [c1, c2, c3]; omega), (Below.refl _ _).alloc (Nat.le_refl _) _⟩
  · have C := Lib.hid (cor_form1 f hf (by omega))
    have q0 : ((f : Int) / 5 == 0) = false := by rw [hq]; rfl
    have q1 : ((f : Int) / 5 == 1) = true := by rw [hq]; rfl
    clear hq
    go_enter Tryd.func136, Tryd.ntmps136
    go_wp2
    exact bodyPost_ret (v := .tuple #[.agg #[.int .i64 (1 + (f : Int) % 5), .int .i64 (6 + (f : Int) % 5), .int .i64 (1 + ((f : Int) % 5 + 1) % 5)], .int .i64 0]) (by simp [results, Tryd.results136, go_sem]) rfl ⟨ret_c3t (by obtain ⟨c1, c2, c3⟩ := C.out; rw [c1, c2, c3]; omega), (Below.refl _ _).alloc (Nat.le_refl _) _⟩
  · have C := Lib.hid (cor_form2 f hf (by omega))
    have q0 : ((f : Int) / 5 == 0) = false := by rw [hq]; rfl
    have q1 : ((f : Int) / 5 == 1) = false := by rw [hq]; rfl
    have q2 : ((f : Int) / 5 == 2) = true := by rw [hq]; rfl
    clear hq
    go_enter Tryd.func136, Tryd.ntmps136
    go_wp2
    exact bodyPost_ret (v := .tuple #[.agg #[.int .i64 (6 + (f : Int) % 5), .int .i64 (6 + ((f : Int) % 5 + 1) % 5), .int .i64 (1 + ((f : Int) % 5 + 1) % 5)], .int .i64 0]) (by simp [results, Tryd.results136, go_sem]) rfl ⟨ret_c3t (by obtain ⟨c1, c2, c3⟩ := C.out; rw [c1, c2, c3]; omega), (Below.refl _ _).alloc (Nat.le_refl _) _⟩
  · have C := Lib.hid (cor_form3 f hf (by omega))
    have q0 : ((f : Int) / 5 == 0) = false := by rw [hq]; rfl
    have q1 : ((f : Int) / 5 == 1) = false := by rw [hq]; rfl
    have q2 : ((f : Int) / 5 == 2) = false := by rw [hq]; rfl
    clear hq
    go_enter Tryd.func136, Tryd.ntmps136
    go_wp2
    exact bodyPost_ret (v := .tuple #[.agg #[.int .i64 11, .int .i64 (6 + ((f : Int) % 5 + 1) % 5), .int .i64 (6 + (f : Int) % 5)], .int .i64 0]) (by simp [results, Tryd.results136, go_sem]) rfl ⟨ret_c3t (by obtain ⟨c1, c2, c3⟩ := C.out; rw [c1, c2, c3]; omega), (Below.refl _ _).alloc (Nat.le_refl _) _⟩
set_option maxHeartbeats 400000 in
theorem refCorners_no (F : Int) (w : World) (hf : ¬ (0 ≤ F ∧ F < 20)) :
    Calls Tryd.prog 136 #[.int .i64 F] w fun e w' => e = .returned (.tuple #[.agg #[.int .i64 0, .int .i64 0, .int .i64 0], .int .i64 1]) ∧ Below w.heap.size w w' := by
  by_cases h1 : 0 ≤ F
  · have h2 : ¬ F < 20 := fun h => hf ⟨h1, h⟩
    clear hf
    go_enter Tryd.func136, Tryd.ntmps136
    go_wp2
    exact bodyPost_ret (v := .tuple #[.agg #[.int .i64 0, .int .i64 0, .int .i64 0], .int .i64 1]) (by simp [results, Tryd.results136, go_sem]) rfl ⟨rfl, (Below.refl _ _).alloc (Nat.le_refl _) _⟩
  · clear hf
    go_enter Tryd.func136, Tryd.ntmps136
    go_wp2
    exact bodyPost_ret (v := .tuple #[.agg #[.int .i64 0, .int .i64 0, .int .i64 0], .int .i64 1]) (by simp [results, Tryd.results136, go_sem]) rfl ⟨rfl, (Below.refl _ _).alloc (Nat.le_refl _) _⟩
end Go.Proofs.YtlakgkoohdfiaaaDoor.Pl

