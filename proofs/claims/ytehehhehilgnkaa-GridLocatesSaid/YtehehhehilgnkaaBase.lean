/- Contracts of Valid, cornersOf, Corners of the program. -/
import Derived.Test.YtehehhehilgnkaaChecked
import Derived.Test.YtehehhehilgnkaaIco
import Derived.WalkKit
import Derived.WalkSpells
import Derived.WalkLawsBesides
import Derived.Deep.QuietTactic
import Derived.BigQuiet
import Derived.Lib.Hide
import Derived.Outline
import Derived.Below
namespace Go.Proofs.Ytehehhehilgnkaa
open Go.RowKit

theorem bcell {W w1 : World} (hb : Below W.heap.size W w1) : (∀ b o, b < W.heap.size → w1.cell? ⟨b, o, none⟩ = W.cell? ⟨b, o, none⟩) ∧ (∀ b o, b < W.heap.size → w1.frozen? ⟨b, o, none⟩ = W.frozen? ⟨b, o, none⟩) :=
  ⟨fun b o h => hb.cell (p := ⟨b, o, none⟩) h, fun b o h => hb.frozen (p := ⟨b, o, none⟩) h⟩
/-- A valid place, asked of any numbers. -/
def vb (F a b c : Int) : Bool := decide (0 ≤ F ∧ F < 20 ∧ 0 ≤ a ∧ a ≤ 840 ∧ 0 ≤ b ∧ b ≤ 840 ∧ 0 ≤ c ∧ c ≤ 840 ∧ a + b + c = 840)
theorem ret_bool {a b : Bool} (h : a = b) : Ending.returned (.bool a) = .returned (.bool b) := by rw [h]
set_option maxHeartbeats 400000 in
theorem valid_any (F a b c : Int) (w : World) :
    Calls Try.prog 34 #[.agg #[.int .i64 F, .int .i64 a, .int .i64 b, .int .i64 c]] w fun e w' => e = .returned (.bool (vb F a b c)) ∧ Below w.heap.size w w' := by
  by_cases h1 : 0 ≤ F
  · by_cases h2 : F < 20
    · by_cases h3 : 0 ≤ a
      · by_cases h4 : a ≤ 840
        · by_cases h5 : 0 ≤ b
          · by_cases h6 : b ≤ 840
            · by_cases h7 : 0 ≤ c
              · by_cases h8 : c ≤ 840
                · have V : Hid (vb F a b c = decide (a + b + c = 840)) := Lib.hid (by unfold vb; rw [decide_eq_decide]; exact ⟨fun h => h.2.2.2.2.2.2.2.2, fun h => ⟨h1, h2, h3, h4, h5, h6, h7, h8, h⟩⟩)
                  go_enter Try.func34, Try.ntmps34
                  go_wp2
                  go_ret
                  exact ⟨ret_bool (by rw [V.out, Bool.eq_iff_iff]; simp), (Below.refl _ _).alloc (Nat.le_refl _) _⟩
                · go_enter Try.func34, Try.ntmps34
                  go_wp2
                  go_ret
                  exact ⟨ret_bool (by simp [vb]; omega), (Below.refl _ _).alloc (Nat.le_refl _) _⟩
              · go_enter Try.func34, Try.ntmps34
                go_wp2
                go_ret
                exact ⟨ret_bool (by simp [vb]; omega), (Below.refl _ _).alloc (Nat.le_refl _) _⟩
            · go_enter Try.func34, Try.ntmps34
              go_wp2
              go_ret
              exact ⟨ret_bool (by simp [vb]; omega), (Below.refl _ _).alloc (Nat.le_refl _) _⟩
          · go_enter Try.func34, Try.ntmps34
            go_wp2
            go_ret
            exact ⟨ret_bool (by simp [vb]; omega), (Below.refl _ _).alloc (Nat.le_refl _) _⟩
        · go_enter Try.func34, Try.ntmps34
          go_wp2
          go_ret
          exact ⟨ret_bool (by simp [vb]; omega), (Below.refl _ _).alloc (Nat.le_refl _) _⟩
      · go_enter Try.func34, Try.ntmps34
        go_wp2
        go_ret
        exact ⟨ret_bool (by simp [vb]; omega), (Below.refl _ _).alloc (Nat.le_refl _) _⟩
    · go_enter Try.func34, Try.ntmps34
      go_wp2
      go_ret
      exact ⟨ret_bool (by simp [vb]; omega), (Below.refl _ _).alloc (Nat.le_refl _) _⟩
  · go_enter Try.func34, Try.ntmps34
    go_wp2
    go_ret
    exact ⟨ret_bool (by simp [vb]; omega), (Below.refl _ _).alloc (Nat.le_refl _) _⟩

set_option maxHeartbeats 400000 in
theorem isFace_yes (F : Int) (w : World) (h1 : 0 ≤ F) (h2 : F < 20) :
    Calls Try.prog 59 #[.int .i64 F] w fun e w' => e = .returned (.bool true) ∧ w = w' := by
  go_enter Try.func59, Try.ntmps59
  go_wp2
  go_ret
  exact ⟨rfl, rfl⟩
set_option maxHeartbeats 400000 in
theorem isFace_no (F : Int) (w : World) (h : ¬ (0 ≤ F ∧ F < 20)) :
    Calls Try.prog 59 #[.int .i64 F] w fun e w' => e = .returned (.bool false) ∧ w = w' := by
  by_cases h1 : 0 ≤ F
  · have h2 : ¬ F < 20 := fun e => h ⟨h1, e⟩
    clear h
    go_enter Try.func59, Try.ntmps59
    go_wp2
    go_ret
    exact ⟨rfl, rfl⟩
  · clear h
    go_enter Try.func59, Try.ntmps59
    go_wp2
    go_ret
    exact ⟨rfl, rfl⟩
/-- The corners as a value. -/
abbrev c3 (f : Nat) : Value := .agg #[.int .i64 (Ico.cor f 0), .int .i64 (Ico.cor f 1), .int .i64 (Ico.cor f 2)]
theorem twenty {f : Nat} (h : f < 20) : f = 0 ∨ f = 1 ∨ f = 2 ∨ f = 3 ∨ f = 4 ∨ f = 5 ∨ f = 6 ∨ f = 7 ∨ f = 8 ∨ f = 9 ∨ f = 10 ∨ f = 11 ∨ f = 12 ∨ f = 13 ∨ f = 14 ∨ f = 15 ∨ f = 16 ∨ f = 17 ∨ f = 18 ∨ f = 19 := by omega
/-- What cornersOf computes. -/
theorem cor_form0 : ∀ f, f < 20 → f / 5 = 0 → Ico.cor f 0 = 0 ∧ Ico.cor f 1 = 1 + f % 5 ∧ Ico.cor f 2 = 1 + (f % 5 + 1) % 5 := by decide +kernel
theorem cor_form1 : ∀ f, f < 20 → f / 5 = 1 → Ico.cor f 0 = 1 + f % 5 ∧ Ico.cor f 1 = 6 + f % 5 ∧ Ico.cor f 2 = 1 + (f % 5 + 1) % 5 := by decide +kernel
theorem cor_form2 : ∀ f, f < 20 → f / 5 = 2 → Ico.cor f 0 = 6 + f % 5 ∧ Ico.cor f 1 = 6 + (f % 5 + 1) % 5 ∧ Ico.cor f 2 = 1 + (f % 5 + 1) % 5 := by decide +kernel
theorem cor_form3 : ∀ f, f < 20 → f / 5 = 3 → Ico.cor f 0 = 11 ∧ Ico.cor f 1 = 6 + (f % 5 + 1) % 5 ∧ Ico.cor f 2 = 6 + f % 5 := by decide +kernel
theorem ret_c3 {f : Nat} {a b c : Int} (h : a = (Ico.cor f 0 : Int) ∧ b = (Ico.cor f 1 : Int) ∧ c = (Ico.cor f 2 : Int)) : Ending.returned (.agg #[.int .i64 a, .int .i64 b, .int .i64 c]) = .returned (c3 f) := by
  obtain ⟨rfl, rfl, rfl⟩ := h; rfl
set_option maxHeartbeats 1000000 in
theorem cornersOf_any (f : Nat) (w : World) (hf : f < 20) :
    Calls Try.prog 117 #[.int .i64 f] w fun e w' => e = .returned (c3 f) ∧ Below w.heap.size w w' := by
  have hq : (f : Int) / 5 = 0 ∨ (f : Int) / 5 = 1 ∨ (f : Int) / 5 = 2 ∨ (f : Int) / 5 = 3 := by omega
  rcases hq with hq | hq | hq | hq
  · have C := Lib.hid (cor_form0 f hf (by omega))
    have q0 : ((f : Int) / 5 == 0) = true := by rw [hq]; rfl
    clear hq
    go_enter Try.func117, Try.ntmps117
    go_wp2
    exact bodyPost_ret (v := .agg #[.int .i64 0, .int .i64 (1 + (f : Int) % 5), .int .i64 (1 + ((f : Int) % 5 + 1) % 5)]) (by simp [results, Try.results117, go_sem]) rfl ⟨ret_c3 (by obtain ⟨c1, c2, c3⟩ := C.out; rw [c1, c2, c3]; omega), (Below.refl _ _).alloc (Nat.le_refl _) _⟩
  · have C := Lib.hid (cor_form1 f hf (by omega))
    have q0 : ((f : Int) / 5 == 0) = false := by rw [hq]; rfl
    have q1 : ((f : Int) / 5 == 1) = true := by rw [hq]; rfl
    clear hq
    go_enter Try.func117, Try.ntmps117
    go_wp2
    exact bodyPost_ret (v := .agg #[.int .i64 (1 + (f : Int) % 5), .int .i64 (6 + (f : Int) % 5), .int .i64 (1 + ((f : Int) % 5 + 1) % 5)]) (by simp [results, Try.results117, go_sem]) rfl ⟨ret_c3 (by obtain ⟨c1, c2, c3⟩ := C.out; rw [c1, c2, c3]; omega), (Below.refl _ _).alloc (Nat.le_refl _) _⟩
  · have C := Lib.hid (cor_form2 f hf (by omega))
    have q0 : ((f : Int) / 5 == 0) = false := by rw [hq]; rfl
    have q1 : ((f : Int) / 5 == 1) = false := by rw [hq]; rfl
    have q2 : ((f : Int) / 5 == 2) = true := by rw [hq]; rfl
    clear hq
    go_enter Try.func117, Try.ntmps117
    go_wp2
    exact bodyPost_ret (v := .agg #[.int .i64 (6 + (f : Int) % 5), .int .i64 (6 + ((f : Int) % 5 + 1) % 5), .int .i64 (1 + ((f : Int) % 5 + 1) % 5)]) (by simp [results, Try.results117, go_sem]) rfl ⟨ret_c3 (by obtain ⟨c1, c2, c3⟩ := C.out; rw [c1, c2, c3]; omega), (Below.refl _ _).alloc (Nat.le_refl _) _⟩
  · have C := Lib.hid (cor_form3 f hf (by omega))
    have q0 : ((f : Int) / 5 == 0) = false := by rw [hq]; rfl
    have q1 : ((f : Int) / 5 == 1) = false := by rw [hq]; rfl
    have q2 : ((f : Int) / 5 == 2) = false := by rw [hq]; rfl
    clear hq
    go_enter Try.func117, Try.ntmps117
    go_wp2
    exact bodyPost_ret (v := .agg #[.int .i64 11, .int .i64 (6 + ((f : Int) % 5 + 1) % 5), .int .i64 (6 + (f : Int) % 5)]) (by simp [results, Try.results117, go_sem]) rfl ⟨ret_c3 (by obtain ⟨c1, c2, c3⟩ := C.out; rw [c1, c2, c3]; omega), (Below.refl _ _).alloc (Nat.le_refl _) _⟩
set_option maxHeartbeats 400000 in
theorem corners_yes (f : Nat) (w : World) (hf : f < 20) :
    Calls Try.prog 97 #[.int .i64 f] w fun e w' => e = .returned (.tuple #[c3 f, .int .i64 0]) ∧ Below w.heap.size w w' := by
  go_enter Try.func97, Try.ntmps97
  go_wp2_with (first | (go_at_call 59; refine (isFace_yes _ _ (by omega) (by omega)).mono ?_; rintro e w1 ⟨rfl, rfl⟩) | (go_at_call 117; refine (cornersOf_any _ _ hf).mono ?_; rintro e w1 ⟨rfl, hb⟩; obtain ⟨hc, hfz⟩ := bcell hb))
  exact bodyPost_ret (v := .tuple #[c3 f, .int .i64 0]) (by simp [results, Try.results97, hc, go_sem]) rfl ⟨rfl, (((((Below.refl _ _).alloc (Nat.le_refl _) _).trans (hb.mono (by simp))).setCell (Nat.le_refl _) _).setCell (Nat.le_refl _) _).setCell (Nat.le_refl _) _⟩
set_option maxHeartbeats 400000 in
theorem corners_no (F : Int) (w : World) (hf : ¬ (0 ≤ F ∧ F < 20)) :
    Calls Try.prog 97 #[.int .i64 F] w fun e w' => e = .returned (.tuple #[.agg #[.int .i64 0, .int .i64 0, .int .i64 0], .int .i64 1]) ∧ Below w.heap.size w w' := by
  by_cases h1 : 0 ≤ F
  · have h2 : ¬ F < 20 := fun h => hf ⟨h1, h⟩
    clear hf
    go_enter Try.func97, Try.ntmps97
    go_wp2
    exact bodyPost_ret (v := .tuple #[.agg #[.int .i64 0, .int .i64 0, .int .i64 0], .int .i64 1]) (by simp [results, Try.results97, go_sem]) rfl ⟨rfl, (Below.refl _ _).alloc (Nat.le_refl _) _⟩
  · clear hf
    go_enter Try.func97, Try.ntmps97
    go_wp2
    exact bodyPost_ret (v := .tuple #[.agg #[.int .i64 0, .int .i64 0, .int .i64 0], .int .i64 1]) (by simp [results, Try.results97, go_sem]) rfl ⟨rfl, (Below.refl _ _).alloc (Nat.le_refl _) _⟩
end Go.Proofs.Ytehehhehilgnkaa
