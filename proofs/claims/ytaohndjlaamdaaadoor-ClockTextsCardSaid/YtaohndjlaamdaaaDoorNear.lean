/- The minute nearest to another one with a day of the month and a time of day, as plain arithmetic: months are counted through, and of any two that follow each other one has the day. No program, no memory. -/
import Derived.Test.YtaohndjlaamdaaaDoorCal
namespace Go.Proofs.YtaohndjlaamdaaaDoor

/-- The distance of two minutes. -/
def dist (a b : Int) : Int := max (a - b) (b - a)
def okM (day h i M : Int) : Bool := Cal.vld (M / 12) (M % 12 + 1) day h i
def valM (day h i M : Int) : Int := Cal.num (M / 12) (M % 12 + 1) day h i
def Nearest (day h i near a : Int) : Prop :=
  (∃ M, okM day h i M = true ∧ a = valM day h i M) ∧ ∀ M, okM day h i M = true → dist a near < dist (valM day h i M) near ∨ (dist a near = dist (valM day h i M) near ∧ a ≤ valM day h i M)
/-- What is known when the months from lo to before k have been looked at. -/
def Best (day h i near lo k b : Int) (f : Bool) : Prop :=
  (f = false ∧ ∀ M, lo ≤ M → M < k → okM day h i M = false) ∨
  (f = true ∧ ∃ A, lo ≤ A ∧ A < k ∧ okM day h i A = true ∧ b = valM day h i A ∧
    ∀ M, lo ≤ M → M < k → okM day h i M = true → dist b near < dist (valM day h i M) near ∨ (dist b near = dist (valM day h i M) near ∧ b ≤ valM day h i M))

theorem okM_iff {day h i M : Int} : okM day h i M = true ↔ (24000 ≤ M ∧ M ≤ 25199) ∧ 1 ≤ day ∧ day ≤ Cal.dim (M / 12) (M % 12 + 1) ∧ 0 ≤ h ∧ h ≤ 23 ∧ 0 ≤ i ∧ i ≤ 59 := by
  unfold okM; rw [Cal.vld_iff]; omega
theorem okM_bd {day h i M : Int} (h0 : okM day h i M = true) : 0 ≤ valM day h i M ∧ valM day h i M ≤ 52595999 := Cal.num_bd h0
theorem valM_eq (day h i M : Int) : valM day h i M = Cal.dnum (M / 12) (M % 12 + 1) day * 1440 + h * 60 + i := rfl
/-- Later months give later minutes. -/
theorem valM_lt {day h i A B : Int} (ha : okM day h i A = true) (hb : okM day h i B = true) (hab : A < B) : valM day h i A < valM day h i B := by
  have a := okM_iff.1 ha
  have b := okM_iff.1 hb
  have := @Cal.dnum_lt (A / 12) (A % 12 + 1) day (B / 12) (B % 12 + 1) day (by omega) (by omega) (by omega) (by omega) (by omega) (by omega) (by omega)
  rw [valM_eq, valM_eq]; omega
section
variable {y m d p q day h i A : Int}
theorem valM_before (hv : Cal.vld y m d p q = true) (ha : okM day h i A = true) (hlt : A < y * 12 + m - 1) : valM day h i A < Cal.num y m d p q := by
  obtain ⟨⟨a1, a2, a3, a4⟩, a5, a6, a7, a8, a9, a10⟩ := Cal.vld_iff.1 hv
  have a := okM_iff.1 ha
  have := @Cal.dnum_lt (A / 12) (A % 12 + 1) day y m d (by omega) (by omega) (by omega) (by omega) (by omega) (by omega) (by omega)
  rw [valM_eq, Cal.num_dnum]; omega
theorem valM_behind (hv : Cal.vld y m d p q = true) (ha : okM day h i A = true) (hlt : y * 12 + m - 1 < A) : Cal.num y m d p q < valM day h i A := by
  obtain ⟨⟨a1, a2, a3, a4⟩, a5, a6, a7, a8, a9, a10⟩ := Cal.vld_iff.1 hv
  have a := okM_iff.1 ha
  have := @Cal.dnum_lt y m d (A / 12) (A % 12 + 1) day (by omega) (by omega) (by omega) (by omega) (by omega) (by omega) (by omega)
  rw [valM_eq, Cal.num_dnum]; omega
end
/-- Of two months that follow each other one has the day. -/
theorem dim_two (y y' m m' : Int) (h1 : 1 ≤ m ∧ m ≤ 12) (h2 : m' = m + 1 ∨ (m = 12 ∧ m' = 1)) : Cal.dim y m = 31 ∨ Cal.dim y' m' = 31 := by
  have h : m = 1 ∨ m = 2 ∨ m = 3 ∨ m = 4 ∨ m = 5 ∨ m = 6 ∨ m = 7 ∨ m = 8 ∨ m = 9 ∨ m = 10 ∨ m = 11 ∨ m = 12 := by omega
  rcases h2 with h2 | ⟨_, h2⟩ <;> subst h2 <;> rcases h with h | h | h | h | h | h | h | h | h | h | h | h <;> subst h <;> simp [Cal.dim]
theorem ok_two {day h i A : Int} (hA : 24000 ≤ A) (hB : A ≤ 25198) (hd : 1 ≤ day ∧ day ≤ 31) (ht : Cal.tod h i = true) : okM day h i A = true ∨ okM day h i (A + 1) = true := by
  have ht' : 0 ≤ h ∧ h ≤ 23 ∧ 0 ≤ i ∧ i ≤ 59 := by unfold Cal.tod at ht; simpa using ht
  rcases dim_two (A / 12) ((A + 1) / 12) (A % 12 + 1) ((A + 1) % 12 + 1) (by omega) (by omega) with k | k
  · exact .inl (okM_iff.2 (by omega))
  · exact .inr (okM_iff.2 (by omega))

section
variable {day h i near lo k b : Int} {f : Bool}
theorem Best.start : Best day h i near lo lo 0 false := .inl ⟨rfl, fun M h1 h2 => by omega⟩
theorem Best.skip (hB : Best day h i near lo k b f) (hk : okM day h i k = false) : Best day h i near lo (k + 1) b f := by
  rcases hB with ⟨hf, hn⟩ | ⟨hf, A, h1, h2, h3, h4, h5⟩
  · refine .inl ⟨hf, fun M m1 m2 => ?_⟩
    by_cases e : M = k
    · rw [e]; exact hk
    · exact hn M m1 (by omega)
  · refine .inr ⟨hf, A, h1, by omega, h3, h4, fun M m1 m2 m3 => ?_⟩
    by_cases e : M = k
    · rw [e, hk] at m3; cases m3
    · exact h5 M m1 (by omega) m3
theorem Best.first (hB : Best day h i near lo k b false) (hlo : lo ≤ k) (hk : okM day h i k = true) : Best day h i near lo (k + 1) (valM day h i k) true := by
  rcases hB with ⟨_, hn⟩ | ⟨hf, _⟩
  · refine .inr ⟨rfl, k, hlo, by omega, hk, rfl, fun M m1 m2 m3 => ?_⟩
    by_cases e : M = k
    · rw [e]; exact .inr ⟨rfl, Int.le_refl _⟩
    · rw [hn M m1 (by omega)] at m3; cases m3
  · cases hf
theorem Best.better (hB : Best day h i near lo k b true) (hlo : lo ≤ k) (hk : okM day h i k = true) (hd : dist (valM day h i k) near < dist b near) : Best day h i near lo (k + 1) (valM day h i k) true := by
  rcases hB with ⟨hf, _⟩ | ⟨_, A, h1, h2, h3, h4, h5⟩
  · cases hf
  · refine .inr ⟨rfl, k, hlo, by omega, hk, rfl, fun M m1 m2 m3 => ?_⟩
    by_cases e : M = k
    · rw [e]; exact .inr ⟨rfl, Int.le_refl _⟩
    · have := h5 M m1 (by omega) m3
      omega
theorem Best.keep (hB : Best day h i near lo k b true) (hk : okM day h i k = true) (hd : ¬ dist (valM day h i k) near < dist b near) : Best day h i near lo (k + 1) b true := by
  rcases hB with ⟨hf, _⟩ | ⟨_, A, h1, h2, h3, h4, h5⟩
  · cases hf
  · refine .inr ⟨rfl, A, h1, by omega, h3, h4, fun M m1 m2 m3 => ?_⟩
    by_cases e : M = k
    · rw [e]
      have := valM_lt h3 hk h2
      omega
    · exact h5 M m1 (by omega) m3
theorem Best.nearest {y m d p q : Int} (hB : Best day h i near lo k b f) (hv : Cal.vld y m d p q = true) (hn : Cal.num y m d p q = near) (hlo : lo ≤ y * 12 + m - 1 - 2) (hhi : y * 12 + m - 1 + 3 ≤ k)
    (hd : 1 ≤ day ∧ day ≤ 31) (ht : Cal.tod h i = true) : Nearest day h i near b := by
  obtain ⟨⟨a1, a2, a3, a4⟩, -, -, -, -, -, -⟩ := Cal.vld_iff.1 hv
  generalize hM0 : y * 12 + m - 1 = M0 at hlo hhi
  have r1 : 24000 ≤ M0 := by omega
  have r2 : M0 ≤ 25199 := by omega
  have some_ok : ∃ A, lo ≤ A ∧ A < k ∧ okM day h i A = true := by
    by_cases e : M0 = 24000
    · rcases ok_two (A := M0) (by omega) (by omega) hd ht with h | h
      · exact ⟨_, by omega, by omega, h⟩
      · exact ⟨_, by omega, by omega, h⟩
    · rcases ok_two (A := M0 - 1) (by omega) (by omega) hd ht with h | h
      · exact ⟨_, by omega, by omega, h⟩
      · exact ⟨_, by omega, by omega, h⟩
  rcases hB with ⟨_, hno⟩ | ⟨_, A, h1, h2, h3, h4, h5⟩
  · obtain ⟨A, x1, x2, x3⟩ := some_ok
    rw [hno A x1 x2] at x3; cases x3
  · refine ⟨⟨A, h3, h4⟩, fun M hM => ?_⟩
    have hMr := (okM_iff.1 hM).1
    by_cases c1 : M < lo
    · have far : ∃ B, lo ≤ B ∧ B < k ∧ M < B ∧ B < M0 ∧ okM day h i B = true := by
        rcases ok_two (A := M0 - 2) (by omega) (by omega) hd ht with h | h
        · exact ⟨_, by omega, by omega, by omega, by omega, h⟩
        · exact ⟨_, by omega, by omega, by omega, by omega, h⟩
      obtain ⟨B, b1, b2, b3, b4, b5⟩ := far
      have e1 := valM_lt hM b5 b3
      have e2 := valM_before hv b5 (by omega)
      have e3 := h5 B b1 b2 b5
      rw [hn] at e2
      left
      have e4 : dist (valM day h i B) near < dist (valM day h i M) near := by unfold dist; omega
      omega
    · by_cases c2 : M < k
      · exact h5 M (by omega) c2 hM
      · have far : ∃ B, lo ≤ B ∧ B < k ∧ B < M ∧ M0 < B ∧ okM day h i B = true := by
          rcases ok_two (A := M0 + 1) (by omega) (by omega) hd ht with h | h
          · exact ⟨_, by omega, by omega, by omega, by omega, h⟩
          · exact ⟨_, by omega, by omega, by omega, by omega, h⟩
        obtain ⟨B, b1, b2, b3, b4, b5⟩ := far
        have e1 := valM_lt b5 hM b3
        have e2 := valM_behind hv b5 (by omega)
        have e3 := h5 B b1 b2 b5
        rw [hn] at e2
        left
        have e4 : dist (valM day h i B) near < dist (valM day h i M) near := by unfold dist; omega
        omega
end
theorem Nearest.unique {day h i near a b : Int} (ha : Nearest day h i near a) (hb : Nearest day h i near b) : a = b := by
  obtain ⟨⟨A, a1, a2⟩, a3⟩ := ha
  obtain ⟨⟨B, b1, b2⟩, b3⟩ := hb
  have x := a3 B b1
  have z := b3 A a1
  rw [← b2] at x
  rw [← a2] at z
  omega
theorem Nearest.bd {day h i near a : Int} (ha : Nearest day h i near a) : 0 ≤ a ∧ a ≤ 52595999 := by
  obtain ⟨⟨A, a1, a2⟩, _⟩ := ha
  rw [a2]; exact okM_bd a1
/-- A minute less than 14 days away is the nearest one with its day and time. -/
theorem nearest_near {y m d h i near : Int} (hv : Cal.vld y m d h i = true) (h1 : near - 20160 < Cal.num y m d h i) (h2 : Cal.num y m d h i < near + 20160) : Nearest d h i near (Cal.num y m d h i) := by
  obtain ⟨⟨a1, a2, a3, a4⟩, a5, a6, a7, a8, a9, a10⟩ := Cal.vld_iff.1 hv
  have hM : okM d h i (y * 12 + m - 1) = true := by
    unfold okM
    rw [show (y * 12 + m - 1) / 12 = y by omega, show (y * 12 + m - 1) % 12 + 1 = m by omega]; exact hv
  have hV : valM d h i (y * 12 + m - 1) = Cal.num y m d h i := by
    unfold valM
    rw [show (y * 12 + m - 1) / 12 = y by omega, show (y * 12 + m - 1) % 12 + 1 = m by omega]
  refine ⟨⟨_, hM, hV.symm⟩, fun M hm => ?_⟩
  have mono : ∀ A B, okM d h i A = true → okM d h i B = true → A < B → valM d h i A + 28 * 1440 ≤ valM d h i B := by
    intro A B hA hB hab
    have a := okM_iff.1 hA
    have b := okM_iff.1 hB
    have key : Cal.dnum (A / 12) (A % 12 + 1) d + Cal.dim (A / 12) (A % 12 + 1) ≤ Cal.dnum (B / 12) (B % 12 + 1) d := by
      by_cases e : A / 12 = B / 12
      · rw [← e]
        have := Cal.cum_lt (A / 12) (A % 12 + 1) (B % 12 + 1) (by omega) (by omega) (by omega)
        unfold Cal.dnum; omega
      · have x1 := Cal.cum_lt (A / 12) (A % 12 + 1) 13 (by omega) (by omega) (by omega)
        have x2 := Cal.dby_lt (A / 12) (B / 12) (by omega) (by omega)
        have x3 := Cal.cum_bd (B / 12) (B % 12 + 1) (by omega) (by omega)
        rw [Cal.cum_13] at x1
        unfold Cal.dnum; omega
    have := Cal.dim_bd (A / 12) (A % 12 + 1)
    rw [valM_eq, valM_eq]; omega
  by_cases c : M = y * 12 + m - 1
  · rw [c, hV]; exact .inr ⟨rfl, Int.le_refl _⟩
  · left
    rcases Int.lt_or_gt_of_ne c with c | c
    · have := mono _ _ hm hM c
      rw [hV] at this
      unfold dist; omega
    · have := mono _ _ hM hm c
      rw [hV] at this
      unfold dist; omega
end Go.Proofs.YtaohndjlaamdaaaDoor
