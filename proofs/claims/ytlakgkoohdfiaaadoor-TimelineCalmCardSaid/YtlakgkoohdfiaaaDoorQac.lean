/- Texts of this proof. -/
import Derived.Test.YtlakgkoohdfiaaaDoorQaa
import Derived.Test.YtlakgkoohdfiaaaDoorPIco
import Derived.WalkKit
import Derived.WalkSpells
import Derived.WalkLawsBesides
import Derived.Deep.QuietTactic
import Derived.BigQuiet
import Derived.Lib.Hide
import Derived.Outline
import Derived.Below
namespace Go.Proofs.YtlakgkoohdfiaaaDoor.Pl
open Go.RowKit

/-- A valid place, asked of any numbers. -/
def vb (F a b c : Int) : Bool := decide (0 ≤ F ∧ F < 20 ∧ 0 ≤ a ∧ a ≤ 840 ∧ 0 ≤ b ∧ b ≤ 840 ∧ 0 ≤ c ∧ c ≤ 840 ∧ a + b + c = 840)
set_option maxHeartbeats 400000 in
theorem valid_any (F a b c : Int) (w : World) :
    Calls Tryd.prog 137 #[.agg #[.int .i64 F, .int .i64 a, .int .i64 b, .int .i64 c]] w fun e w' => e = .returned (.bool (vb F a b c)) ∧ Below w.heap.size w w' := by
  by_cases h1 : 0 ≤ F
  · by_cases h2 : F < 20
    · by_cases h3 : 0 ≤ a
      · by_cases h4 : a ≤ 840
        · by_cases h5 : 0 ≤ b
          · by_cases h6 : b ≤ 840
            · by_cases h7 : 0 ≤ c
              · by_cases h8 : c ≤ 840
                · have V : Hid (vb F a b c = decide (a + b + c = 840)) := Lib.hid (by unfold vb; rw [decide_eq_decide]; exact ⟨fun h => h.2.2.2.2.2.2.2.2, fun h => ⟨h1, h2, h3, h4, h5, h6, h7, h8, h⟩⟩)
                  go_enter Tryd.func137, Tryd.ntmps137
                  go_wp2
                  go_ret
                  exact ⟨ret_bool (by rw [V.out, Bool.eq_iff_iff]; simp), (Below.refl _ _).alloc (Nat.le_refl _) _⟩
                · go_enter Tryd.func137, Tryd.ntmps137
                  go_wp2
                  go_ret
                  exact ⟨ret_bool (by simp [vb]; omega), (Below.refl _ _).alloc (Nat.le_refl _) _⟩
              · go_enter Tryd.func137, Tryd.ntmps137
                go_wp2
                go_ret
                exact ⟨ret_bool (by simp [vb]; omega), (Below.refl _ _).alloc (Nat.le_refl _) _⟩
            · go_enter Tryd.func137, Tryd.ntmps137
              go_wp2
              go_ret
              exact ⟨ret_bool (by simp [vb]; omega), (Below.refl _ _).alloc (Nat.le_refl _) _⟩
          · go_enter Tryd.func137, Tryd.ntmps137
            go_wp2
            go_ret
            exact ⟨ret_bool (by simp [vb]; omega), (Below.refl _ _).alloc (Nat.le_refl _) _⟩
        · go_enter Tryd.func137, Tryd.ntmps137
          go_wp2
          go_ret
          exact ⟨ret_bool (by simp [vb]; omega), (Below.refl _ _).alloc (Nat.le_refl _) _⟩
      · go_enter Tryd.func137, Tryd.ntmps137
        go_wp2
        go_ret
        exact ⟨ret_bool (by simp [vb]; omega), (Below.refl _ _).alloc (Nat.le_refl _) _⟩
    · go_enter Tryd.func137, Tryd.ntmps137
      go_wp2
      go_ret
      exact ⟨ret_bool (by simp [vb]; omega), (Below.refl _ _).alloc (Nat.le_refl _) _⟩
  · go_enter Tryd.func137, Tryd.ntmps137
    go_wp2
    go_ret
    exact ⟨ret_bool (by simp [vb]; omega), (Below.refl _ _).alloc (Nat.le_refl _) _⟩

set_option maxHeartbeats 400000 in
theorem isFace_yes (F : Int) (w : World) (h1 : 0 ≤ F) (h2 : F < 20) :
    Calls Tryd.prog 161 #[.int .i64 F] w fun e w' => e = .returned (.bool true) ∧ w = w' := by
  go_enter Tryd.func161, Tryd.ntmps161
  go_wp2
  go_ret
  exact ⟨rfl, rfl⟩
set_option maxHeartbeats 400000 in
theorem isFace_no (F : Int) (w : World) (h : ¬ (0 ≤ F ∧ F < 20)) :
    Calls Tryd.prog 161 #[.int .i64 F] w fun e w' => e = .returned (.bool false) ∧ w = w' := by
  by_cases h1 : 0 ≤ F
  · have h2 : ¬ F < 20 := fun e => h ⟨h1, e⟩
    clear h
    go_enter Tryd.func161, Tryd.ntmps161
    go_wp2
    go_ret
    exact ⟨rfl, rfl⟩
  · clear h
    go_enter Tryd.func161, Tryd.ntmps161
    go_wp2
    go_ret
    exact ⟨rfl, rfl⟩
/-- The corners as a value. -/
abbrev c3 (f : Nat) : Value := .agg #[.int .i64 (Ico.cor f 0), .int .i64 (Ico.cor f 1), .int .i64 (Ico.cor f 2)]
theorem twenty {f : Nat} (h : f < 20) : f = 0 ∨ f = 1 ∨ f = 2 ∨ f = 3 ∨ f = 4 ∨ f = 5 ∨ f = 6 ∨ f = 7 ∨ f = 8 ∨ f = 9 ∨ f = 10 ∨ f = 11 ∨ f = 12 ∨ f = 13 ∨ f = 14 ∨ f = 15 ∨ f = 16 ∨ f = 17 ∨ f = 18 ∨ f = 19 := by omega
/-- What cornersOf computes. -/
theorem cor_form0 : ∀ f, f < 20 → f / 5 = 0 → Ico.cor f 0 = 0 ∧ Ico.cor f 1 = 1 + f % 5 ∧ Ico.cor f 2 = 1 + (f % 5 + 1) % 5 := by decide +kernel
theorem cor_form1 : ∀ f, f < 20 → f / 5 = 1 → Ico.cor f 0 = 1 + f % 5 ∧ Ico.cor f 1 = 6 + f % 5 ∧ Ico.cor f 2 = 1 + (f % 5 + 1) % 5 := by decide +kernel
theorem cor_form2 : ∀ f, f < 20 → f / 5 = 2 → Ico.cor f 0 = 6 + f % 5 ∧ Ico.cor f 1 = 6 + (f % 5 + 1) % 5 ∧ Ico.cor f 2 = 1 + (f % 5 + 1) % 5 := by decide +kernel
theorem cor_form3 : ∀ f, f < 20 → f / 5 = 3 → Ico.cor f 0 = 11 ∧ Ico.cor f 1 = 6 + (f % 5 + 1) % 5 ∧ Ico.cor f 2 = 6 + f % 5 := by decide +kernel
theorem ret_c3 {f : Nat} {a b c : Int} (h : a = (Ico.cor f 0 : Int) ∧ b = (Ico.cor f 1 : Int) ∧ c = (Ico.cor f 2 : Int)) : Ending.returned (.agg #[.int .i64 a, .int .i64 b, .int .i64 c]) = .returned (c3 f) := by
  obtain ⟨rfl, rfl, rfl⟩ := h; rfl
set_option maxHeartbeats 1000000 in
theorem cornersOf_any (f : Nat) (w : World) (hf : f < 20) :
    Calls Tryd.prog 139 #[.int .i64 f] w fun e w' => e = .returned (c3 f) ∧ Below w.heap.size w w' := by
  have hq : (f : Int) / 5 = 0 ∨ (f : Int) / 5 = 1 ∨ (f : Int) / 5 = 2 ∨ (f : Int) / 5 = 3 := by omega
  rcases hq with hq | hq | hq | hq
  · have C := Lib.hid (cor_form0 f hf (by omega))
    have q0 : ((f : Int) / 5 == 0) = true := by rw [hq]; rfl
    clear hq
    go_enter Tryd.func139, Tryd.ntmps139
    go_wp2
    exact bodyPost_ret (v := .agg #[.int .i64 0, .int .i64 (1 + (f : Int) % 5), .int .i64 (1 + ((f : Int) % 5 + 1) % 5)]) (by simp [results, Tryd.results139, go_sem]) rfl ⟨ret_c3 (by obtain ⟨c1, c2, c3⟩ := C.out; rw [c1, c2, c3]; omega), (Below.refl _ _).alloc (Nat.le_refl _) _⟩
  · have C := Lib.hid (cor_form1 f hf (by omega))
    have q0 : ((f : Int) / 5 == 0) = false := by rw [hq]; rfl
    have q1 : ((f : Int) / 5 == 1) = true := by rw [hq]; rfl
    clear hq
    go_enter Tryd.func139, Tryd.ntmps139
    go_wp2
    exact bodyPost_ret (v := .agg #[.int .i64 (1 + (f : Int) % 5), .int .i64 (6 + (f : Int) % 5), .int .i64 (1 + ((f : Int) % 5 + 1) % 5)]) (by simp [results, Tryd.results139, go_sem]) rfl ⟨ret_c3 (by obtain ⟨c1, c2, c3⟩ := C.out; rw [c1, c2, c3]; omega), (Below.refl _ _).alloc (Nat.le_refl _) _⟩
  · have C := Lib.hid (cor_form2 f hf (by omega))
    have q0 : ((f : Int) / 5 == 0) = false := by rw [hq]; rfl
    have q1 : ((f : Int) / 5 == 1) = false := by rw [hq]; rfl
    have q2 : ((f : Int) / 5 == 2) = true := by rw [hq]; rfl
    clear hq
    go_enter Tryd.func139, Tryd.ntmps139
    go_wp2
    exact bodyPost_ret (v := .agg #[.int .i64 (6 + (f : Int) % 5), .int .i64 (6 + ((f : Int) % 5 + 1) % 5), .int .i64 (1 + ((f : Int) % 5 + 1) % 5)]) (by simp [results, Tryd.results139, go_sem]) rfl ⟨ret_c3 (by obtain ⟨c1, c2, c3⟩ := C.out; rw [c1, c2, c3]; omega), (Below.refl _ _).alloc (Nat.le_refl _) _⟩
  · have C := Lib.hid (cor_form3 f hf (by omega))
    have q0 : ((f : Int) / 5 == 0) = false := by rw [hq]; rfl
    have q1 : ((f : Int) / 5 == 1) = false := by rw [hq]; rfl
    have q2 : ((f : Int) / 5 == 2) = false := by rw [hq]; rfl
    clear hq
    go_enter Tryd.func139, Tryd.ntmps139
    go_wp2
    exact bodyPost_ret (v := .agg #[.int .i64 11, .int .i64 (6 + ((f : Int) % 5 + 1) % 5), .int .i64 (6 + (f : Int) % 5)]) (by simp [results, Tryd.results139, go_sem]) rfl ⟨ret_c3 (by obtain ⟨c1, c2, c3⟩ := C.out; rw [c1, c2, c3]; omega), (Below.refl _ _).alloc (Nat.le_refl _) _⟩
end Go.Proofs.YtlakgkoohdfiaaaDoor.Pl


namespace Go.Proofs.YtlakgkoohdfiaaaDoor.Pl
open Go.RowKit

/-- The first place of v among three numbers. -/
def at3 (v x0 x1 x2 : Int) : Int := if v = x0 then 0 else if v = x1 then 1 else if v = x2 then 2 else -1
theorem at3_bd (v x0 x1 x2 : Int) : (at3 v x0 x1 x2 = -1 ∧ ¬ (v = x0 ∨ v = x1 ∨ v = x2)) ∨ (0 ≤ at3 v x0 x1 x2 ∧ (v = x0 ∨ v = x1 ∨ v = x2)) := by
  unfold at3
  by_cases h0 : v = x0
  · rw [if_pos h0]; exact .inr ⟨by omega, .inl h0⟩
  · rw [if_neg h0]
    by_cases h1 : v = x1
    · rw [if_pos h1]; exact .inr ⟨by omega, .inr (.inl h1)⟩
    · rw [if_neg h1]
      by_cases h2 : v = x2
      · rw [if_pos h2]; exact .inr ⟨by omega, .inr (.inr h2)⟩
      · rw [if_neg h2]; exact .inl ⟨rfl, fun h => by rcases h with h | h | h <;> contradiction⟩
theorem has_eq (g v : Nat) : (decide ((v : Int) = (Ico.cor g 0 : Int)) || (decide ((v : Int) = (Ico.cor g 1 : Int)) || decide ((v : Int) = (Ico.cor g 2 : Int)))) = Ico.has g v := by
  unfold Ico.has
  rw [Bool.eq_iff_iff]; simp only [decide_eq_true_eq, Bool.or_eq_true]; omega
/-- The face n lies on the other side. -/
def opp (f k n : Nat) : Bool := decide (n ≠ f) && Ico.has n (Ico.cor f ((k + 1) % 3)) && Ico.has n (Ico.cor f ((k + 2) % 3))
/-- The last of them below n. -/
def acT (f k : Nat) : Nat → Nat
  | 0 => 0
  | n + 1 => if opp f k n then n else acT f k n
/-- The face across. -/
def acr (f k : Nat) : Nat := acT f k 20
theorem acT_yes {f k n : Nat} (h : opp f k n = true) : acT f k (n + 1) = n := by unfold acT; rw [if_pos h]
theorem acT_no {f k n : Nat} (h : opp f k n = false) : acT f k (n + 1) = acT f k n := by rw [acT, if_neg (by simp [h])]
theorem acT_lt (f k : Nat) : ∀ n, n ≤ 20 → acT f k n < 20
  | 0, _ => by unfold acT; omega
  | n + 1, h => by
    rw [acT]; split
    · omega
    · exact acT_lt f k n (by omega)
end Go.Proofs.YtlakgkoohdfiaaaDoor.Pl


namespace Go.Proofs.YtlakgkoohdfiaaaDoor.Pl
open Go.RowKit

/-- The weights of all vertices. -/
abbrev wa (f : Nat) (a b c : Int) : Array Value := #[.int .i64 (Ico.wt f a b c 0), .int .i64 (Ico.wt f a b c 1), .int .i64 (Ico.wt f a b c 2), .int .i64 (Ico.wt f a b c 3), .int .i64 (Ico.wt f a b c 4), .int .i64 (Ico.wt f a b c 5), .int .i64 (Ico.wt f a b c 6), .int .i64 (Ico.wt f a b c 7), .int .i64 (Ico.wt f a b c 8), .int .i64 (Ico.wt f a b c 9), .int .i64 (Ico.wt f a b c 10), .int .i64 (Ico.wt f a b c 11)]
abbrev z12 : Array Value := #[.int .i64 0, .int .i64 0, .int .i64 0, .int .i64 0, .int .i64 0, .int .i64 0, .int .i64 0, .int .i64 0, .int .i64 0, .int .i64 0, .int .i64 0, .int .i64 0]
theorem wa_of {f : Nat} (hf : f < 20) (a b c : Int) :
    ((z12.setIfInBounds (Ico.cor f 0) (.int .i64 a)).setIfInBounds (Ico.cor f 1) (.int .i64 b)).setIfInBounds (Ico.cor f 2) (.int .i64 c) = wa f a b c := by
  rcases twenty hf with rfl | rfl | rfl | rfl | rfl | rfl | rfl | rfl | rfl | rfl | rfl | rfl | rfl | rfl | rfl | rfl | rfl | rfl | rfl | rfl <;> rfl
theorem z12_at (j : Nat) (h : j < 12) : z12[j]? = some (.int .i64 0) := by
  have : j = 0 ∨ j = 1 ∨ j = 2 ∨ j = 3 ∨ j = 4 ∨ j = 5 ∨ j = 6 ∨ j = 7 ∨ j = 8 ∨ j = 9 ∨ j = 10 ∨ j = 11 := by omega
  rcases this with rfl | rfl | rfl | rfl | rfl | rfl | rfl | rfl | rfl | rfl | rfl | rfl <;> rfl
theorem wa_at (f : Nat) (a b c : Int) (j : Nat) (h : j < 12) : (wa f a b c)[j]? = some (.int .i64 (Ico.wt f a b c j)) := by
  have : j = 0 ∨ j = 1 ∨ j = 2 ∨ j = 3 ∨ j = 4 ∨ j = 5 ∨ j = 6 ∨ j = 7 ∨ j = 8 ∨ j = 9 ∨ j = 10 ∨ j = 11 := by omega
  rcases this with rfl | rfl | rfl | rfl | rfl | rfl | rfl | rfl | rfl | rfl | rfl | rfl <;> rfl
theorem row12 {w : World} {b : Nat} {t : TypeId} {x0 x1 x2 x3 x4 x5 x6 x7 x8 x9 x10 x11 : Value} (h : Row w b t #[x0, x1, x2, x3, x4, x5, x6, x7, x8, x9, x10, x11]) :
    (w.cell? ⟨b, 0, none⟩ = some x0 ∧ w.cell? ⟨b, 1, none⟩ = some x1 ∧ w.cell? ⟨b, 2, none⟩ = some x2 ∧ w.cell? ⟨b, 3, none⟩ = some x3 ∧ w.cell? ⟨b, 4, none⟩ = some x4 ∧ w.cell? ⟨b, 5, none⟩ = some x5) ∧
    (w.cell? ⟨b, 6, none⟩ = some x6 ∧ w.cell? ⟨b, 7, none⟩ = some x7 ∧ w.cell? ⟨b, 8, none⟩ = some x8 ∧ w.cell? ⟨b, 9, none⟩ = some x9 ∧ w.cell? ⟨b, 10, none⟩ = some x10 ∧ w.cell? ⟨b, 11, none⟩ = some x11) :=
  ⟨⟨(h.cell 0).trans rfl, (h.cell 1).trans rfl, (h.cell 2).trans rfl, (h.cell 3).trans rfl, (h.cell 4).trans rfl, (h.cell 5).trans rfl⟩, ⟨(h.cell 6).trans rfl, (h.cell 7).trans rfl, (h.cell 8).trans rfl, (h.cell 9).trans rfl, (h.cell 10).trans rfl, (h.cell 11).trans rfl⟩⟩
theorem put12 {w : World} {b : Nat} {t : TypeId} {x0 x1 x2 x3 x4 x5 x6 x7 x8 x9 x10 x11 : Value} (u0 u1 u2 u3 u4 u5 u6 u7 u8 u9 u10 u11 : Value) (h : Row w b t #[x0, x1, x2, x3, x4, x5, x6, x7, x8, x9, x10, x11]) :
    Row ((((((((((((w.setCell ⟨b, 0, none⟩ u0).setCell ⟨b, 1, none⟩ u1).setCell ⟨b, 2, none⟩ u2).setCell ⟨b, 3, none⟩ u3).setCell ⟨b, 4, none⟩ u4).setCell ⟨b, 5, none⟩ u5).setCell ⟨b, 6, none⟩ u6).setCell ⟨b, 7, none⟩ u7).setCell ⟨b, 8, none⟩ u8).setCell ⟨b, 9, none⟩ u9).setCell ⟨b, 10, none⟩ u10).setCell ⟨b, 11, none⟩ u11) b t #[u0, u1, u2, u3, u4, u5, u6, u7, u8, u9, u10, u11] := by
  have h0 : Row (w.setCell ⟨b, 0, none⟩ u0) b t #[u0, x1, x2, x3, x4, x5, x6, x7, x8, x9, x10, x11] := h.put 0 u0
  have h1 : Row ((w.setCell ⟨b, 0, none⟩ u0).setCell ⟨b, 1, none⟩ u1) b t #[u0, u1, x2, x3, x4, x5, x6, x7, x8, x9, x10, x11] := h0.put 1 u1
  have h2 : Row (((w.setCell ⟨b, 0, none⟩ u0).setCell ⟨b, 1, none⟩ u1).setCell ⟨b, 2, none⟩ u2) b t #[u0, u1, u2, x3, x4, x5, x6, x7, x8, x9, x10, x11] := h1.put 2 u2
  have h3 : Row ((((w.setCell ⟨b, 0, none⟩ u0).setCell ⟨b, 1, none⟩ u1).setCell ⟨b, 2, none⟩ u2).setCell ⟨b, 3, none⟩ u3) b t #[u0, u1, u2, u3, x4, x5, x6, x7, x8, x9, x10, x11] := h2.put 3 u3
  have h4 : Row (((((w.setCell ⟨b, 0, none⟩ u0).setCell ⟨b, 1, none⟩ u1).setCell ⟨b, 2, none⟩ u2).setCell ⟨b, 3, none⟩ u3).setCell ⟨b, 4, none⟩ u4) b t #[u0, u1, u2, u3, u4, x5, x6, x7, x8, x9, x10, x11] := h3.put 4 u4
  have h5 : Row ((((((w.setCell ⟨b, 0, none⟩ u0).setCell ⟨b, 1, none⟩ u1).setCell ⟨b, 2, none⟩ u2).setCell ⟨b, 3, none⟩ u3).setCell ⟨b, 4, none⟩ u4).setCell ⟨b, 5, none⟩ u5) b t #[u0, u1, u2, u3, u4, u5, x6, x7, x8, x9, x10, x11] := h4.put 5 u5
  have h6 : Row (((((((w.setCell ⟨b, 0, none⟩ u0).setCell ⟨b, 1, none⟩ u1).setCell ⟨b, 2, none⟩ u2).setCell ⟨b, 3, none⟩ u3).setCell ⟨b, 4, none⟩ u4).setCell ⟨b, 5, none⟩ u5).setCell ⟨b, 6, none⟩ u6) b t #[u0, u1, u2, u3, u4, u5, u6, x7, x8, x9, x10, x11] := h5.put 6 u6
  have h7 : Row ((((((((w.setCell ⟨b, 0, none⟩ u0).setCell ⟨b, 1, none⟩ u1).setCell ⟨b, 2, none⟩ u2).setCell ⟨b, 3, none⟩ u3).setCell ⟨b, 4, none⟩ u4).setCell ⟨b, 5, none⟩ u5).setCell ⟨b, 6, none⟩ u6).setCell ⟨b, 7, none⟩ u7) b t #[u0, u1, u2, u3, u4, u5, u6, u7, x8, x9, x10, x11] := h6.put 7 u7
  have h8 : Row (((((((((w.setCell ⟨b, 0, none⟩ u0).setCell ⟨b, 1, none⟩ u1).setCell ⟨b, 2, none⟩ u2).setCell ⟨b, 3, none⟩ u3).setCell ⟨b, 4, none⟩ u4).setCell ⟨b, 5, none⟩ u5).setCell ⟨b, 6, none⟩ u6).setCell ⟨b, 7, none⟩ u7).setCell ⟨b, 8, none⟩ u8) b t #[u0, u1, u2, u3, u4, u5, u6, u7, u8, x9, x10, x11] := h7.put 8 u8
  have h9 : Row ((((((((((w.setCell ⟨b, 0, none⟩ u0).setCell ⟨b, 1, none⟩ u1).setCell ⟨b, 2, none⟩ u2).setCell ⟨b, 3, none⟩ u3).setCell ⟨b, 4, none⟩ u4).setCell ⟨b, 5, none⟩ u5).setCell ⟨b, 6, none⟩ u6).setCell ⟨b, 7, none⟩ u7).setCell ⟨b, 8, none⟩ u8).setCell ⟨b, 9, none⟩ u9) b t #[u0, u1, u2, u3, u4, u5, u6, u7, u8, u9, x10, x11] := h8.put 9 u9
  have h10 : Row (((((((((((w.setCell ⟨b, 0, none⟩ u0).setCell ⟨b, 1, none⟩ u1).setCell ⟨b, 2, none⟩ u2).setCell ⟨b, 3, none⟩ u3).setCell ⟨b, 4, none⟩ u4).setCell ⟨b, 5, none⟩ u5).setCell ⟨b, 6, none⟩ u6).setCell ⟨b, 7, none⟩ u7).setCell ⟨b, 8, none⟩ u8).setCell ⟨b, 9, none⟩ u9).setCell ⟨b, 10, none⟩ u10) b t #[u0, u1, u2, u3, u4, u5, u6, u7, u8, u9, u10, x11] := h9.put 10 u10
  have h11 : Row ((((((((((((w.setCell ⟨b, 0, none⟩ u0).setCell ⟨b, 1, none⟩ u1).setCell ⟨b, 2, none⟩ u2).setCell ⟨b, 3, none⟩ u3).setCell ⟨b, 4, none⟩ u4).setCell ⟨b, 5, none⟩ u5).setCell ⟨b, 6, none⟩ u6).setCell ⟨b, 7, none⟩ u7).setCell ⟨b, 8, none⟩ u8).setCell ⟨b, 9, none⟩ u9).setCell ⟨b, 10, none⟩ u10).setCell ⟨b, 11, none⟩ u11) b t #[u0, u1, u2, u3, u4, u5, u6, u7, u8, u9, u10, u11] := h10.put 11 u11
  exact h11
theorem below12 {w0 w : World} {B b : Nat} (u0 u1 u2 u3 u4 u5 u6 u7 u8 u9 u10 u11 : Value) (h : Below B w0 w) (hB : B ≤ b) :
    Below B w0 ((((((((((((w.setCell ⟨b, 0, none⟩ u0).setCell ⟨b, 1, none⟩ u1).setCell ⟨b, 2, none⟩ u2).setCell ⟨b, 3, none⟩ u3).setCell ⟨b, 4, none⟩ u4).setCell ⟨b, 5, none⟩ u5).setCell ⟨b, 6, none⟩ u6).setCell ⟨b, 7, none⟩ u7).setCell ⟨b, 8, none⟩ u8).setCell ⟨b, 9, none⟩ u9).setCell ⟨b, 10, none⟩ u10).setCell ⟨b, 11, none⟩ u11) := ((((((((((((h.setCell (p := ⟨b, 0, none⟩) hB _).setCell (p := ⟨b, 1, none⟩) hB _).setCell (p := ⟨b, 2, none⟩) hB _).setCell (p := ⟨b, 3, none⟩) hB _).setCell (p := ⟨b, 4, none⟩) hB _).setCell (p := ⟨b, 5, none⟩) hB _).setCell (p := ⟨b, 6, none⟩) hB _).setCell (p := ⟨b, 7, none⟩) hB _).setCell (p := ⟨b, 8, none⟩) hB _).setCell (p := ⟨b, 9, none⟩) hB _).setCell (p := ⟨b, 10, none⟩) hB _).setCell (p := ⟨b, 11, none⟩) hB _)
end Go.Proofs.YtlakgkoohdfiaaaDoor.Pl

