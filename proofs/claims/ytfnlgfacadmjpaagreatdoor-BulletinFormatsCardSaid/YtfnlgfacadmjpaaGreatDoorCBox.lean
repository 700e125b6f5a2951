/- The calendar of the years 2000 to 2099 as plain arithmetic: days of months, the number of a date's minute, and that both determine each other. No program, no memory. The minute nearest to another one with a day of the month and a time of day, as plain arithmetic: months are counted through, and of any two that follow each other one has the day. No program, no memory. Contracts of the functions over plain numbers: days of a month, times of day, days before a year, distances, remainders. Contracts of the functions over dates: Valid, Minutes, Date of the program. Blocks of memory that hold a date, known whole, and what stays known of a world while they are written. -/
import Derived.Lib.Hide
import Derived.Test.YtfnlgfacadmjpaaGreatDoorSrc
import Derived.WalkKit
import Derived.WalkSpells
import Derived.WalkLawsBesides
import Derived.Deep.QuietTactic
import Derived.BigQuiet
import Derived.Outline
import Derived.Lib.SmallJoins
namespace Go.Proofs.YtfnlgfacadmjpaaGreatDoor.Ck.Cal

def leap (y : Int) : Int := if y % 4 = 0 then 1 else 0
def dim (y m : Int) : Int := if m = 2 then 28 + leap y else if m = 4 ∨ m = 6 ∨ m = 9 ∨ m = 11 then 30 else 31
def days (y m : Int) : Int := if 2000 ≤ y ∧ y ≤ 2099 ∧ 1 ≤ m ∧ m ≤ 12 then dim y m else 0
def vld (y m d h i : Int) : Bool := decide (1 ≤ d ∧ d ≤ days y m ∧ 0 ≤ h ∧ h ≤ 23 ∧ 0 ≤ i ∧ i ≤ 59)
/-- A time of day. -/
def tod (h i : Int) : Bool := decide (0 ≤ h ∧ h ≤ 23 ∧ 0 ≤ i ∧ i ≤ 59)
/-- A number of a minute. -/
def rng (n : Int) : Bool := decide (0 ≤ n ∧ n ≤ 52595999)
theorem rng_yes {n : Int} (h0 : 0 ≤ n) (h1 : n ≤ 52595999) : rng n = true := by unfold rng; simp [h0, h1]
theorem rng_no {n : Int} (h : n < 0 ∨ 52595999 < n) : rng n = false := by unfold rng; simp; omega
def dby (y : Int) : Int := 365 * (y - 2000) + (y - 2000 + 3) / 4
def cum (y m : Int) : Int :=
  if m ≤ 1 then 0 else if m = 2 then 31 else leap y + (if m = 3 then 59 else if m = 4 then 90 else if m = 5 then 120 else if m = 6 then 151 else if m = 7 then 181 else
    if m = 8 then 212 else if m = 9 then 243 else if m = 10 then 273 else if m = 11 then 304 else if m = 12 then 334 else 365)
def num (y m d h i : Int) : Int := (dby y + cum y m + d - 1) * 1440 + h * 60 + i

theorem leap_01 (y : Int) : 0 ≤ leap y ∧ leap y ≤ 1 := by unfold leap; split <;> omega
theorem dim_bd (y m : Int) : 28 ≤ dim y m ∧ dim y m ≤ 31 := by
  have := leap_01 y
  unfold dim; split
  · omega
  · split <;> omega
theorem days_bd (y m : Int) : 0 ≤ days y m ∧ days y m ≤ 31 := by
  have := dim_bd y m
  unfold days; split <;> omega
theorem days_in {y m : Int} (h : 2000 ≤ y ∧ y ≤ 2099 ∧ 1 ≤ m ∧ m ≤ 12) : days y m = dim y m := by unfold days; rw [if_pos h]
theorem days_out {y m : Int} (h : ¬ (2000 ≤ y ∧ y ≤ 2099 ∧ 1 ≤ m ∧ m ≤ 12)) : days y m = 0 := by unfold days; rw [if_neg h]
theorem vld_iff {y m d h i : Int} : vld y m d h i = true ↔ (2000 ≤ y ∧ y ≤ 2099 ∧ 1 ≤ m ∧ m ≤ 12) ∧ 1 ≤ d ∧ d ≤ dim y m ∧ 0 ≤ h ∧ h ≤ 23 ∧ 0 ≤ i ∧ i ≤ 59 := by
  unfold vld
  by_cases hc : 2000 ≤ y ∧ y ≤ 2099 ∧ 1 ≤ m ∧ m ≤ 12
  · rw [days_in hc]; simp [hc]
  · rw [days_out hc]; simp only [decide_eq_true_eq]
    constructor
    · intro h; omega
    · intro h; exact absurd h.1 hc
theorem vld_eq (y m d h i : Int) : vld y m d h i = (decide (1 ≤ d) && decide (d ≤ days y m) && tod h i) := by
  unfold vld tod
  rw [Bool.eq_iff_iff]; simp; omega
theorem vld_tod {y m d h i : Int} (hv : vld y m d h i = true) : tod h i = true := by
  rw [vld_eq] at hv; simp at hv; exact hv.2
theorem vld_days {y m d h i : Int} (hv : vld y m d h i = true) : 1 ≤ d ∧ d ≤ days y m := by
  rw [vld_eq] at hv; simp at hv; exact hv.1
theorem cum_succ (y m : Int) (h1 : 1 ≤ m) (h2 : m ≤ 12) : cum y (m + 1) = cum y m + dim y m := by
  have h : m = 1 ∨ m = 2 ∨ m = 3 ∨ m = 4 ∨ m = 5 ∨ m = 6 ∨ m = 7 ∨ m = 8 ∨ m = 9 ∨ m = 10 ∨ m = 11 ∨ m = 12 := by omega
  rcases h with h | h | h | h | h | h | h | h | h | h | h | h <;> subst h <;> simp [cum, dim] <;> omega
theorem cum_one (y : Int) : cum y 1 = 0 := by simp [cum]
theorem cum_13 (y : Int) : cum y 13 = 365 + leap y := by simp [cum]; omega
theorem cum_bd (y m : Int) (h1 : 1 ≤ m) (h2 : m ≤ 13) : 0 ≤ cum y m ∧ cum y m ≤ 366 := by
  have := leap_01 y
  have h : m = 1 ∨ m = 2 ∨ m = 3 ∨ m = 4 ∨ m = 5 ∨ m = 6 ∨ m = 7 ∨ m = 8 ∨ m = 9 ∨ m = 10 ∨ m = 11 ∨ m = 12 ∨ m = 13 := by omega
  rcases h with h | h | h | h | h | h | h | h | h | h | h | h | h <;> subst h <;> simp [cum] <;> omega
/-- Months further on begin at least a month's days later. -/
theorem cum_lt (y a b : Int) (h1 : 1 ≤ a) (h : a < b) (h2 : b ≤ 13) : cum y a + dim y a ≤ cum y b := by
  have key : ∀ k : Nat, ∀ b : Int, b = a + 1 + k → b ≤ 13 → cum y a + dim y a ≤ cum y b := by
    intro k
    induction k with
    | zero => intro b hb hb2; rw [hb]; have := cum_succ y a h1 (by omega); simp only [Int.natCast_zero, Int.add_zero]; omega
    | succ k ih =>
      intro b hb hb2
      have e : b = (b - 1) + 1 := by omega
      have h3 := ih (b - 1) (by omega) (by omega)
      have h4 := cum_succ y (b - 1) (by omega) (by omega)
      have h5 := dim_bd y (b - 1)
      rw [← e] at h4
      omega
  exact key (b - a - 1).toNat b (by omega) h2
theorem dby_succ (y : Int) (_h : 2000 ≤ y) : dby (y + 1) = dby y + 365 + leap y := by
  unfold dby leap; split <;> omega
theorem dby_bd (y : Int) (h1 : 2000 ≤ y) (h2 : y ≤ 2100) : 0 ≤ dby y ∧ dby y ≤ 36525 := by unfold dby; omega
theorem dby_lt (a b : Int) (_h1 : 2000 ≤ a) (h : a < b) : dby a + 365 + leap a ≤ dby b := by
  unfold dby leap; split <;> omega
theorem doy_bd {y m d : Int} (hm : 1 ≤ m ∧ m ≤ 12) (hd : 1 ≤ d ∧ d ≤ dim y m) : 0 ≤ cum y m + d - 1 ∧ cum y m + d - 1 < 365 + leap y := by
  have h1 := cum_bd y m (by omega) (by omega)
  have h2 : cum y m + dim y m ≤ cum y 13 := cum_lt y m 13 (by omega) (by omega) (by omega)
  rw [cum_13] at h2
  omega
/-- The day's number, split off. -/
def dnum (y m d : Int) : Int := dby y + cum y m + d - 1
theorem num_dnum (y m d h i : Int) : num y m d h i = dnum y m d * 1440 + h * 60 + i := rfl
theorem dnum_bd {y m d : Int} (hy : 2000 ≤ y ∧ y ≤ 2099) (hm : 1 ≤ m ∧ m ≤ 12) (hd : 1 ≤ d ∧ d ≤ dim y m) : 0 ≤ dnum y m d ∧ dnum y m d ≤ 36524 := by
  have h1 := doy_bd hm hd
  have h2 := dby_bd y (by omega) (by omega)
  have h3 := dby_lt y (y + 1) (by omega) (by omega)
  have h4 := dby_bd (y + 1) (by omega) (by omega)
  unfold dnum; omega
theorem num_bd {y m d h i : Int} (hv : vld y m d h i = true) : 0 ≤ num y m d h i ∧ num y m d h i ≤ 52595999 := by
  obtain ⟨⟨a, b, c, e⟩, f, g, k⟩ := vld_iff.1 hv
  have := dnum_bd ⟨a, b⟩ ⟨c, e⟩ ⟨f, g⟩
  rw [num_dnum]; omega
/-- The order of days is that of their fields. -/
theorem dnum_lt {y m d y' m' d' : Int} (hy : 2000 ≤ y ∧ y ≤ 2099) (hm : 1 ≤ m ∧ m ≤ 12) (hd : 1 ≤ d ∧ d ≤ dim y m)
    (hy' : 2000 ≤ y' ∧ y' ≤ 2099) (hm' : 1 ≤ m' ∧ m' ≤ 12) (hd' : 1 ≤ d' ∧ d' ≤ dim y' m')
    (h : y < y' ∨ (y = y' ∧ (m < m' ∨ (m = m' ∧ d < d')))) : dnum y m d < dnum y' m' d' := by
  have h1 := doy_bd hm hd
  have h2 := doy_bd hm' hd'
  rcases h with h | ⟨rfl, h | ⟨rfl, h⟩⟩
  · have := dby_lt y y' (by omega) h
    unfold dnum; omega
  · have := cum_lt y m m' (by omega) h (by omega)
    unfold dnum; omega
  · unfold dnum; omega
theorem dnum_inj {y m d y' m' d' : Int} (hy : 2000 ≤ y ∧ y ≤ 2099) (hm : 1 ≤ m ∧ m ≤ 12) (hd : 1 ≤ d ∧ d ≤ dim y m)
    (hy' : 2000 ≤ y' ∧ y' ≤ 2099) (hm' : 1 ≤ m' ∧ m' ≤ 12) (hd' : 1 ≤ d' ∧ d' ≤ dim y' m')
    (h : dnum y m d = dnum y' m' d') : y = y' ∧ m = m' ∧ d = d' := by
  have h1 : ¬ (y < y' ∨ (y = y' ∧ (m < m' ∨ (m = m' ∧ d < d')))) := fun hh => by have := dnum_lt hy hm hd hy' hm' hd' hh; omega
  have h2 : ¬ (y' < y ∨ (y' = y ∧ (m' < m ∨ (m' = m ∧ d' < d)))) := fun hh => by have := dnum_lt hy' hm' hd' hy hm hd hh; omega
  omega
/-- Each day's number is that of a date. -/
theorem dnum_of (n : Int) (h1 : 0 ≤ n) (h2 : n ≤ 36524) : ∃ y m d : Int, (2000 ≤ y ∧ y ≤ 2099) ∧ (1 ≤ m ∧ m ≤ 12) ∧ (1 ≤ d ∧ d ≤ dim y m) ∧ dnum y m d = n ∧ y = 2000 + 4 * n / 1461 := by
  have hy : dby (2000 + 4 * n / 1461) ≤ n ∧ n < dby (2000 + 4 * n / 1461 + 1) := by unfold dby; omega
  have hy2 : 2000 ≤ 2000 + 4 * n / 1461 ∧ 2000 + 4 * n / 1461 ≤ 2099 := by omega
  generalize 2000 + 4 * n / 1461 = y at *
  have hs := dby_succ y (by omega)
  have h13 := cum_13 y
  have key : ∀ k : Nat, k ≤ 11 → (∃ m : Int, 1 ≤ m ∧ m ≤ 12 ∧ cum y m ≤ n - dby y ∧ n - dby y < cum y (m + 1)) ∨ cum y (k + 2) ≤ n - dby y := by
    intro k
    induction k with
    | zero =>
      intro _
      by_cases hc : n - dby y < cum y (1 + 1)
      · exact .inl ⟨1, by omega, by omega, by rw [cum_one]; omega, hc⟩
      · right; simp only [Int.natCast_zero]; have : (0 : Int) + 2 = 1 + 1 := by omega
        rw [this]; omega
    | succ k ih =>
      intro hk
      rcases ih (by omega) with h | h
      · exact .inl h
      · by_cases hc : n - dby y < cum y ((k : Int) + 2 + 1)
        · exact .inl ⟨k + 2, by omega, by omega, h, hc⟩
        · right
          have : ((k + 1 : Nat) : Int) + 2 = (k : Int) + 2 + 1 := by omega
          rw [this]; omega
  rcases key 11 (by omega) with ⟨m, hm1, hm2, ha, hb⟩ | h
  · have := cum_succ y m hm1 hm2
    exact ⟨y, m, n - dby y - cum y m + 1, hy2, ⟨hm1, hm2⟩, ⟨by omega, by omega⟩, by unfold dnum; omega, rfl⟩
  · have e : ((11 : Nat) : Int) + 2 = 13 := by omega
    rw [e] at h; omega
theorem num_of (n : Int) (h1 : 0 ≤ n) (h2 : n ≤ 52595999) : ∃ y m d h i : Int, vld y m d h i = true ∧ num y m d h i = n ∧ y = 2000 + 4 * (n / 1440) / 1461 ∧ dnum y m d = n / 1440 ∧ h = n % 1440 / 60 ∧ i = n % 1440 % 60 := by
  obtain ⟨y, m, d, a, b, c, e, f⟩ := dnum_of (n / 1440) (by omega) (by omega)
  exact ⟨y, m, d, n % 1440 / 60, n % 1440 % 60, vld_iff.2 ⟨⟨a.1, a.2, b.1, b.2⟩, c.1, c.2, by omega, by omega, by omega, by omega⟩, by rw [num_dnum]; omega, f, e, rfl, rfl⟩
theorem year_of {y m d : Int} (hy : 2000 ≤ y ∧ y ≤ 2099) (hm : 1 ≤ m ∧ m ≤ 12) (hd : 1 ≤ d ∧ d ≤ dim y m) : 2000 + 4 * dnum y m d / 1461 = y := by
  have hb := dnum_bd hy hm hd
  obtain ⟨y', m', d', a, b, c, e, f⟩ := dnum_of _ hb.1 hb.2
  have := dnum_inj a b c hy hm hd e
  omega
theorem num_inj {y m d h i y' m' d' h' i' : Int} (hv : vld y m d h i = true) (hv' : vld y' m' d' h' i' = true) (he : num y m d h i = num y' m' d' h' i') :
    y = y' ∧ m = m' ∧ d = d' ∧ h = h' ∧ i = i' := by
  obtain ⟨⟨a, b, c, e⟩, f, g, k⟩ := vld_iff.1 hv
  obtain ⟨⟨a', b', c', e'⟩, f', g', k'⟩ := vld_iff.1 hv'
  rw [num_dnum, num_dnum] at he
  have := dnum_inj ⟨a, b⟩ ⟨c, e⟩ ⟨f, g⟩ ⟨a', b'⟩ ⟨c', e'⟩ ⟨f', g'⟩ (by omega)
  omega
end Go.Proofs.YtfnlgfacadmjpaaGreatDoor.Ck.Cal
namespace Go.Proofs.YtfnlgfacadmjpaaGreatDoor.Ck

/-- The distance of two minutes. -/
def dist (a b : Int) : Int := max (a - b) (b - a)
def okM (day h i M : Int) : Bool := Cal.vld (M / 12) (M % 12 + 1) day h i
def valM (day h i M : Int) : Int := Cal.num (M / 12) (M % 12 + 1) day h i
def Nearest (day h i near a : Int) : Prop :=
  (∃ M, okM day h i M = true ∧ a = valM day h i M) ∧ ∀ M, okM day h i M = true → dist a near < dist (valM day h i M) near ∨ (dist a near = dist (valM day h i M) near ∧ a ≤ valM day h i M)
/-- What is known when the months from lo to before k have been looked at. -/
def Best (day h i near lo k b : Int) (f : Bool) : Prop :=
  (f = false ∧ ∀ M, lo ≤ M → M < k → okM day h i M = false) ∨
  (f = true ∧ ∃ A, lo ≤ A ∧ A < k ∧ okM day h i A = true ∧ b = valM day h i A ∧
    ∀ M, lo ≤ M → M < k → okM day h i M = true → dist b near < dist (valM day h i M) near ∨ (dist b near = dist (valM day h i M) near ∧ b ≤ valM day h i M))

theorem okM_iff {day h i M : Int} : okM day h i M = true ↔ (24000 ≤ M ∧ M ≤ 25199) ∧ 1 ≤ day ∧ day ≤ Cal.dim (M / 12) (M % 12 + 1) ∧ 0 ≤ h ∧ h ≤ 23 ∧ 0 ≤ i ∧ i ≤ 59 := by
  unfold okM; rw [Cal.vld_iff]; omega
theorem okM_bd {day h i M : Int} (h0 : okM day h i M = true) : 0 ≤ valM day h i M ∧ valM day h i M ≤ 52595999 := Cal.num_bd h0
theorem valM_eq (day h i M : Int) : valM day h i M = Cal.dnum (M / 12) (M % 12 + 1) day * 1440 + h * 60 + i := rfl
/-- Later months give later minutes. -/
theorem valM_lt {day h i A B : Int} (ha : okM day h i A = true) (hb : okM day h i B = true) (hab : A < B) : valM day h i A < valM day h i B := by
  have a := okM_iff.1 ha
  have b := okM_iff.1 hb
  have := @Cal.dnum_lt (A / 12) (A % 12 + 1) day (B / 12) (B % 12 + 1) day (by omega) (by omega) (by omega) (by omega) (by omega) (by omega) (by omega)
  rw [valM_eq, valM_eq]; omega
section
variable {y m d p q day h i A : Int}
theorem valM_before (hv : Cal.vld y m d p q = true) (ha : okM day h i A = true) (hlt : A < y * 12 + m - 1) : valM day h i A < Cal.num y m d p q := by
  obtain ⟨⟨a1, a2, a3, a4⟩, a5, a6, a7, a8, a9, a10⟩ := Cal.vld_iff.1 hv
  have a := okM_iff.1 ha
  have := @Cal.dnum_lt (A / 12) (A % 12 + 1) day y m d (by omega) (by omega) (by omega) (by omega) (by omega) (by omega) (by omega)
  rw [valM_eq, Cal.num_dnum]; omega
theorem valM_behind (hv : Cal.vld y m d p q = true) (ha : okM day h i A = true) (hlt : y * 12 + m - 1 < A) : Cal.num y m d p q < valM day h i A := by
  obtain ⟨⟨a1, a2, a3, a4⟩, a5, a6, a7, a8, a9, a10⟩ := Cal.vld_iff.1 hv
  have a := okM_iff.1 ha
  have := @Cal.dnum_lt y m d (A / 12) (A % 12 + 1) day (by omega) (by omega) (by omega) (by omega) (by omega) (by omega) (by omega)
  rw [valM_eq, Cal.num_dnum]; omega
end
/-- Of two months that follow each other one has the day. -/
theorem dim_two (y y' m m' : Int) (h1 : 1 ≤ m ∧ m ≤ 12) (h2 : m' = m + 1 ∨ (m = 12 ∧ m' = 1)) : Cal.dim y m = 31 ∨ Cal.dim y' m' = 31 := by
  have h : m = 1 ∨ m = 2 ∨ m = 3 ∨ m = 4 ∨ m = 5 ∨ m = 6 ∨ m = 7 ∨ m = 8 ∨ m = 9 ∨ m = 10 ∨ m = 11 ∨ m = 12 := by omega
  rcases h2 with h2 | ⟨_, h2⟩ <;> subst h2 <;> rcases h with h | h | h | h | h | h | h | h | h | h | h | h <;> subst h <;> simp [Cal.dim]
theorem ok_two {day h i A : Int} (hA : 24000 ≤ A) (hB : A ≤ 25198) (hd : 1 ≤ day ∧ day ≤ 31) (ht : Cal.tod h i = true) : okM day h i A = true ∨ okM day h i (A + 1) = true := by
  have ht' : 0 ≤ h ∧ h ≤ 23 ∧ 0 ≤ i ∧ i ≤ 59 := by unfold Cal.tod at ht; simpa using ht
  rcases dim_two (A / 12) ((A + 1) / 12) (A % 12 + 1) ((A + 1) % 12 + 1) (by omega) (by omega) with k | k
  · exact .inl (okM_iff.2 (by omega))
  · exact .inr (okM_iff.2 (by omega))

section
variable {day h i near lo k b : Int} {f : Bool}
theorem Best.start : Best day h i near lo lo 0 false := .inl ⟨rfl, fun M h1 h2 => by omega⟩
theorem Best.skip (hB : Best day h i near lo k b f) (hk : okM day h i k = false) : Best day h i near lo (k + 1) b f := by
  rcases hB with ⟨hf, hn⟩ | ⟨hf, A, h1, h2, h3, h4, h5⟩
  · refine .inl ⟨hf, fun M m1 m2 => ?_⟩
    by_cases e : M = k
    · rw [e]; exact hk
    · exact hn M m1 (by omega)
  · refine .inr ⟨hf, A, h1, by omega, h3, h4, fun M m1 m2 m3 => ?_⟩
    by_cases e : M = k
    · rw [e, hk] at m3; cases m3
    · exact h5 M m1 (by omega) m3
theorem Best.first (hB : Best day h i near lo k b false) (hlo : lo ≤ k) (hk : okM day h i k = true) : Best day h i near lo (k + 1) (valM day h i k) true := by
  rcases hB with ⟨_, hn⟩ | ⟨hf, _⟩
  · refine .inr ⟨rfl, k, hlo, by omega, hk, rfl, fun M m1 m2 m3 => ?_⟩
    by_cases e : M = k
    · rw [e]; exact .inr ⟨rfl, Int.le_refl _⟩
    · rw [hn M m1 (by omega)] at m3; cases m3
  · cases hf
theorem Best.better (hB : Best day h i near lo k b true) (hlo : lo ≤ k) (hk : okM day h i k = true) (hd : dist (valM day h i k) near < dist b near) : Best day h i near lo (k + 1) (valM day h i k) true := by
  rcases hB with ⟨hf, _⟩ | ⟨_, A, h1, h2, h3, h4, h5⟩
  · cases hf
  · refine .inr ⟨rfl, k, hlo, by omega, hk, rfl, fun M m1 m2 m3 => ?_⟩
    by_cases e : M = k
    · rw [e]; exact .inr ⟨rfl, Int.le_refl _⟩
    · have := h5 M m1 (by omega) m3
      omega
theorem Best.keep (hB : Best day h i near lo k b true) (hk : okM day h i k = true) (hd : ¬ dist (valM day h i k) near < dist b near) : Best day h i near lo (k + 1) b true := by
  rcases hB with ⟨hf, _⟩ | ⟨_, A, h1, h2, h3, h4, h5⟩
  · cases hf
  · refine .inr ⟨rfl, A, h1, by omega, h3, h4, fun M m1 m2 m3 => ?_⟩
    by_cases e : M = k
    · rw [e]
      have := valM_lt h3 hk h2
      omega
    · exact h5 M m1 (by omega) m3
theorem Best.nearest {y m d p q : Int} (hB : Best day h i near lo k b f) (hv : Cal.vld y m d p q = true) (hn : Cal.num y m d p q = near) (hlo : lo ≤ y * 12 + m - 1 - 2) (hhi : y * 12 + m - 1 + 3 ≤ k)
    (hd : 1 ≤ day ∧ day ≤ 31) (ht : Cal.tod h i = true) : Nearest day h i near b := by
  obtain ⟨⟨a1, a2, a3, a4⟩, -, -, -, -, -, -⟩ := Cal.vld_iff.1 hv
  generalize hM0 : y * 12 + m - 1 = M0 at hlo hhi
  have r1 : 24000 ≤ M0 := by omega
  have r2 : M0 ≤ 25199 := by omega
  have some_ok : ∃ A, lo ≤ A ∧ A < k ∧ okM day h i A = true := by
    by_cases e : M0 = 24000
    · rcases ok_two (A := M0) (by omega) (by omega) hd ht with h | h
      · exact ⟨_, by omega, by omega, h⟩
      · exact ⟨_, by omega, by omega, h⟩
    · rcases ok_two (A := M0 - 1) (by omega) (by omega) hd ht with h | h
      · exact ⟨_, by omega, by omega, h⟩
      · exact ⟨_, by omega, by omega, h⟩
  rcases hB with ⟨_, hno⟩ | ⟨_, A, h1, h2, h3, h4, h5⟩
  · obtain ⟨A, x1, x2, x3⟩ := some_ok
    rw [hno A x1 x2] at x3; cases x3
  · refine ⟨⟨A, h3, h4⟩, fun M hM => ?_⟩
    have hMr := (okM_iff.1 hM).1
    by_cases c1 : M < lo
    · have far : ∃ B, lo ≤ B ∧ B < k ∧ M < B ∧ B < M0 ∧ okM day h i B = true := by
        rcases ok_two (A := M0 - 2) (by omega) (by omega) hd ht with h | h
        · exact ⟨_, by omega, by omega, by omega, by omega, h⟩
        · exact ⟨_, by omega, by omega, by omega, by omega, h⟩
      obtain ⟨B, b1, b2, b3, b4, b5⟩ := far
      have e1 := valM_lt hM b5 b3
      have e2 := valM_before hv b5 (by omega)
      have e3 := h5 B b1 b2 b5
      rw [hn] at e2
      left
      have e4 : dist (valM day h i B) near < dist (valM day h i M) near := by unfold dist; omega
      omega
    · by_cases c2 : M < k
      · exact h5 M (by omega) c2 hM
      · have far : ∃ B, lo ≤ B ∧ B < k ∧ B < M ∧ M0 < B ∧ okM day h i B = true := by
          rcases ok_two (A := M0 + 1) (by omega) (by omega) hd ht with h | h
          · exact ⟨_, by omega, by omega, by omega, by omega, h⟩
          · exact ⟨_, by omega, by omega, by omega, by omega, h⟩
        obtain ⟨B, b1, b2, b3, b4, b5⟩ := far
        have e1 := valM_lt b5 hM b3
        have e2 := valM_behind hv b5 (by omega)
        have e3 := h5 B b1 b2 b5
        rw [hn] at e2
        left
        have e4 : dist (valM day h i B) near < dist (valM day h i M) near := by unfold dist; omega
        omega
end
theorem Nearest.unique {day h i near a b : Int} (ha : Nearest day h i near a) (hb : Nearest day h i near b) : a = b := by
  obtain ⟨⟨A, a1, a2⟩, a3⟩ := ha
  obtain ⟨⟨B, b1, b2⟩, b3⟩ := hb
  have x := a3 B b1
  have z := b3 A a1
  rw [← b2] at x
  rw [← a2] at z
  omega
theorem Nearest.bd {day h i near a : Int} (ha : Nearest day h i near a) : 0 ≤ a ∧ a ≤ 52595999 := by
  obtain ⟨⟨A, a1, a2⟩, _⟩ := ha
  rw [a2]; exact okM_bd a1
/-- A minute less than 14 days away is the nearest one with its day and time. -/
theorem nearest_near {y m d h i near : Int} (hv : Cal.vld y m d h i = true) (h1 : near - 20160 < Cal.num y m d h i) (h2 : Cal.num y m d h i < near + 20160) : Nearest d h i near (Cal.num y m d h i) := by
  obtain ⟨⟨a1, a2, a3, a4⟩, a5, a6, a7, a8, a9, a10⟩ := Cal.vld_iff.1 hv
  have hM : okM d h i (y * 12 + m - 1) = true := by
    unfold okM
    rw [show (y * 12 + m - 1) / 12 = y by omega, show (y * 12 + m - 1) % 12 + 1 = m by omega]; exact hv
  have hV : valM d h i (y * 12 + m - 1) = Cal.num y m d h i := by
    unfold valM
    rw [show (y * 12 + m - 1) / 12 = y by omega, show (y * 12 + m - 1) % 12 + 1 = m by omega]
  refine ⟨⟨_, hM, hV.symm⟩, fun M hm => ?_⟩
  have mono : ∀ A B, okM d h i A = true → okM d h i B = true → A < B → valM d h i A + 28 * 1440 ≤ valM d h i B := by
    intro A B hA hB hab
    have a := okM_iff.1 hA
    have b := okM_iff.1 hB
    have key : Cal.dnum (A / 12) (A % 12 + 1) d + Cal.dim (A / 12) (A % 12 + 1) ≤ Cal.dnum (B / 12) (B % 12 + 1) d := by
      by_cases e : A / 12 = B / 12
      · rw [← e]
        have := Cal.cum_lt (A / 12) (A % 12 + 1) (B % 12 + 1) (by omega) (by omega) (by omega)
        unfold Cal.dnum; omega
      · have x1 := Cal.cum_lt (A / 12) (A % 12 + 1) 13 (by omega) (by omega) (by omega)
        have x2 := Cal.dby_lt (A / 12) (B / 12) (by omega) (by omega)
        have x3 := Cal.cum_bd (B / 12) (B % 12 + 1) (by omega) (by omega)
        rw [Cal.cum_13] at x1
        unfold Cal.dnum; omega
    have := Cal.dim_bd (A / 12) (A % 12 + 1)
    rw [valM_eq, valM_eq]; omega
  by_cases c : M = y * 12 + m - 1
  · rw [c, hV]; exact .inr ⟨rfl, Int.le_refl _⟩
  · left
    rcases Int.lt_or_gt_of_ne c with c | c
    · have := mono _ _ hm hM c
      rw [hV] at this
      unfold dist; omega
    · have := mono _ _ hM hm c
      rw [hV] at this
      unfold dist; omega
end Go.Proofs.YtfnlgfacadmjpaaGreatDoor.Ck
namespace Go.Proofs.YtfnlgfacadmjpaaGreatDoor.Ck
open Go.RowKit

/-- The table of the months' lengths lies in its variable. -/
def lens : List Int := [31, 28, 31, 30, 31, 30, 31, 31, 30, 31, 30, 31]
def Tab (w : World) : Prop := ∀ i : Nat, i < 12 → w.cell? ⟨2, i, none⟩ = some (.int .i64 (lens.getD i 0))
theorem lens_dim (y m : Int) (h1 : 1 ≤ m) (h2 : m ≤ 12) (h : ¬ (m = 2 ∧ y % 4 = 0)) : lens.getD (m.toNat - 1) 0 = Cal.dim y m := by
  have h : m = 1 ∨ m = 2 ∨ m = 3 ∨ m = 4 ∨ m = 5 ∨ m = 6 ∨ m = 7 ∨ m = 8 ∨ m = 9 ∨ m = 10 ∨ m = 11 ∨ m = 12 := by omega
  rcases h with h | h | h | h | h | h | h | h | h | h | h | h <;> subst h <;> simp_all [Cal.dim, Cal.leap, lens]

set_option maxHeartbeats 400000 in
theorem timeOfDay_any (h i : Int) (w : World) :
    Calls Tryz.prog 131 #[.int .i64 h, .int .i64 i] w fun e w' => e = .returned (.bool (Cal.tod h i)) ∧ w = w' := by
  by_cases h1 : 0 ≤ h
  · by_cases h2 : h ≤ 23
    · by_cases h3 : 0 ≤ i
      · by_cases h4 : i ≤ 59
        all_goals
          go_enter Tryz.func131, Tryz.ntmps131
          go_wp2
          go_ret
          exact ⟨by simp [Cal.tod]; omega, rfl⟩
      · go_enter Tryz.func131, Tryz.ntmps131
        go_wp2
        go_ret
        exact ⟨by simp [Cal.tod]; omega, rfl⟩
    · go_enter Tryz.func131, Tryz.ntmps131
      go_wp2
      go_ret
      exact ⟨by simp [Cal.tod]; omega, rfl⟩
  · go_enter Tryz.func131, Tryz.ntmps131
    go_wp2
    go_ret
    exact ⟨by simp [Cal.tod]; omega, rfl⟩

set_option maxHeartbeats 400000 in
theorem inRange_any (n : Int) (w : World) :
    Calls Tryz.prog 128 #[.int .i64 n] w fun e w' => e = .returned (.bool (Cal.rng n)) ∧ w = w' := by
  by_cases h1 : 0 ≤ n
  · by_cases h2 : n ≤ 52595999
    all_goals
      go_enter Tryz.func128, Tryz.ntmps128
      go_wp2
      go_ret
      exact ⟨by simp [Cal.rng]; omega, rfl⟩
  · go_enter Tryz.func128, Tryz.ntmps128
    go_wp2
    go_ret
    exact ⟨by simp [Cal.rng]; omega, rfl⟩
set_option maxHeartbeats 400000 in
theorem refIn_any (n : Int) (w : World) :
    Calls Tryz.prog 46 #[.int .i64 n] w fun e w' => e = .returned (.bool (Cal.rng n)) ∧ w = w' := by
  by_cases h1 : 0 ≤ n
  · by_cases h2 : n ≤ 52595999
    all_goals
      go_enter Tryz.func46, Tryz.ntmps46
      go_wp2
      go_ret
      exact ⟨by simp [Cal.rng]; omega, rfl⟩
  · go_enter Tryz.func46, Tryz.ntmps46
    go_wp2
    go_ret
    exact ⟨by simp [Cal.rng]; omega, rfl⟩

set_option maxHeartbeats 400000 in
theorem days_any (y m : Int) (w : World) (hT : Tab w) :
    Calls Tryz.prog 130 #[.int .i64 y, .int .i64 m] w fun e w' => e = .returned (.int .i64 (Cal.days y m)) ∧ w = w' := by
  by_cases hin : 2000 ≤ y ∧ y ≤ 2099 ∧ 1 ≤ m ∧ m ≤ 12
  · obtain ⟨h1, h2, h3, h4⟩ := hin
    have hd := Cal.days_in ⟨h1, h2, h3, h4⟩
    by_cases hm : m = 2
    · subst hm
      by_cases hy : y % 4 = 0
      · have H := Lib.hid hy; clear hy
        have e1 : Cal.days y 2 = 29 := by rw [hd]; unfold Cal.dim Cal.leap; rw [if_pos rfl, if_pos H.out]; omega
        have E := Lib.hid e1; clear e1 hd
        have hb : (y % 4 == 0) = true := beq_iff_eq.2 H.out
        go_enter Tryz.func130, Tryz.ntmps130
        go_wp2
        go_ret
        exact ⟨ret_i64 E.out.symm, rfl⟩
      · have e1 : Cal.days y 2 = 28 := by rw [hd]; unfold Cal.dim Cal.leap; rw [if_pos rfl, if_neg hy]; omega
        have E := Lib.hid e1; clear e1 hd
        have hb : (y % 4 == 0) = false := beq_eq_false_iff_ne.2 hy
        have hc := hT 1 (by omega)
        clear hy
        go_enter Tryz.func130, Tryz.ntmps130
        go_wp2
        go_ret
        exact ⟨ret_i64 E.out.symm, rfl⟩
    · have e1 := lens_dim y m h3 h4 (fun h => hm h.1)
      have e2 : Cal.days y m = lens.getD (m.toNat - 1) 0 := by rw [hd, e1]
      have E := Lib.hid e2; clear e1 e2 hd
      have hc := hT (m.toNat - 1) (by omega)
      have hb : (m == 2) = false := beq_eq_false_iff_ne.2 hm
      clear hm
      go_enter Tryz.func130, Tryz.ntmps130
      go_wp2
      go_ret
      exact ⟨ret_i64 E.out.symm, rfl⟩
  · have E := Lib.hid (Cal.days_out hin)
    by_cases h1 : y < 2000
    · go_enter Tryz.func130, Tryz.ntmps130
      go_wp2
      go_ret
      exact ⟨ret_i64 E.out.symm, rfl⟩
    · by_cases h2 : 2099 < y
      · go_enter Tryz.func130, Tryz.ntmps130
        go_wp2
        go_ret
        exact ⟨ret_i64 E.out.symm, rfl⟩
      · by_cases h3 : m < 1
        · go_enter Tryz.func130, Tryz.ntmps130
          go_wp2
          go_ret
          exact ⟨ret_i64 E.out.symm, rfl⟩
        · have h4 : 12 < m := by omega
          clear hin
          go_enter Tryz.func130, Tryz.ntmps130
          go_wp2
          go_ret
          exact ⟨ret_i64 E.out.symm, rfl⟩

set_option maxHeartbeats 400000 in
theorem daysBefore_any (y : Int) (w : World) (h1 : 2000 ≤ y) (h2 : y ≤ 2100) :
    Calls Tryz.prog 129 #[.int .i64 y] w fun e w' => e = .returned (.int .i64 (Cal.dby y)) ∧ w = w' := by
  go_enter Tryz.func129, Tryz.ntmps129
  go_wp2
  go_ret
  exact ⟨ret_i64 (by unfold Cal.dby; omega), rfl⟩
set_option maxHeartbeats 400000 in
theorem distance_any (a b : Int) (w : World) (h1 : 0 ≤ a) (h2 : a ≤ 52595999) (h3 : 0 ≤ b) (h4 : b ≤ 52595999) :
    Calls Tryz.prog 133 #[.int .i64 a, .int .i64 b] w fun e w' => e = .returned (.int .i64 (dist a b)) ∧ w = w' := by
  go_enter Tryz.func133, Tryz.ntmps133
  go_wp2
  all_goals go_ret
  all_goals exact ⟨ret_i64 (by unfold dist; omega), rfl⟩
set_option maxHeartbeats 400000 in
theorem refDistance_any (a b : Int) (w : World) (h1 : 0 ≤ a) (h2 : a ≤ 52595999) (h3 : 0 ≤ b) (h4 : b ≤ 52595999) :
    Calls Tryz.prog 159 #[.int .i64 a, .int .i64 b] w fun e w' => e = .returned (.int .i64 (dist a b)) ∧ w = w' := by
  go_enter Tryz.func159, Tryz.ntmps159
  go_wp2
  all_goals go_ret
  all_goals exact ⟨ret_i64 (by unfold dist; omega), rfl⟩
end Go.Proofs.YtfnlgfacadmjpaaGreatDoor.Ck
namespace Go.Proofs.YtfnlgfacadmjpaaGreatDoor.Ck
open Go.RowKit

theorem quiet_left {P : Program} {f : FuncId} {args : Array Value} {w : World} {n : Nat} {v : Value}
    (h : Calls P f args (w.drewN n) fun e w' => e = .returned v ∧ w.drewN n = w') : Calls P f args (w.drewN n) fun e w'' => e = .returned v ∧ ∃ m, w'' = w.drewN m :=
  h.mono fun _ _ ⟨he, hm⟩ => ⟨he, n, hm.symm⟩
theorem Tab.pos {w : World} (h : Tab w) : 2 < w.heap.size := World.block_lt_of_cell? w ⟨2, 0, none⟩ (h 0 (by omega))
theorem Tab.below {w w' : World} {B : Nat} (h : Tab w) (hb : Below B w w') (hB : 2 < B) : Tab w' := fun i hi => (hb.cell (p := ⟨2, i, none⟩) hB).trans (h i hi)
theorem Tab.under {w w' : World} (h : Tab w) (hb : Below w.heap.size w w') : Tab w' := h.below hb h.pos
theorem Tab.alloc {w : World} (h : Tab w) (o : Obj) : Tab (w.alloc o) := h.under ((Below.refl _ _).alloc (Nat.le_refl _) o)
theorem Tab.drewN {w : World} (h : Tab w) (n : Nat) : Tab (w.drewN n) := h

/-- A struct of five cells that the call has boxed, behind a callee. -/
theorem box5 {w w1 : World} {a b c d e : Value} {t : TypeId} (hb : Below (w.alloc (.cells #[a, b, c, d, e] t)).heap.size (w.alloc (.cells #[a, b, c, d, e] t)) w1) :
    (w1.cell? ⟨w.heap.size, 0, none⟩ = some a ∧ w1.cell? ⟨w.heap.size, 1, none⟩ = some b ∧ w1.cell? ⟨w.heap.size, 2, none⟩ = some c ∧ w1.cell? ⟨w.heap.size, 3, none⟩ = some d ∧ w1.cell? ⟨w.heap.size, 4, none⟩ = some e) ∧ Below w.heap.size w w1 := by
  have key : ∀ i, w1.cell? ⟨w.heap.size, i, none⟩ = (w.alloc (.cells #[a, b, c, d, e] t)).cell? ⟨w.heap.size, i, none⟩ := fun i => hb.cell (p := ⟨w.heap.size, i, none⟩) (by simp)
  refine ⟨⟨?_, ?_, ?_, ?_, ?_⟩, ((Below.refl _ _).alloc (Nat.le_refl _) _).trans (hb.mono (by simp))⟩
  all_goals (rw [key]; go_simp)
/-- A date as the program holds it. -/
def civil (y m d h i : Int) : Value := .agg #[.int .i64 y, .int .i64 m, .int .i64 d, .int .i64 h, .int .i64 i]

theorem ret_i2 {a b c : Int} (h : a = b) : Ending.returned (.tuple #[.int .i64 a, .int .i64 c]) = .returned (.tuple #[.int .i64 b, .int .i64 c]) := by rw [h]
set_option maxHeartbeats 400000 in
theorem valid_any (y m d h i : Int) (w : World) (hT : Tab w) :
    Calls Tryz.prog 158 #[.agg #[.int .i64 y, .int .i64 m, .int .i64 d, .int .i64 h, .int .i64 i]] w fun e w' => e = .returned (.bool (Cal.vld y m d h i)) ∧ Below w.heap.size w w' := by
  have E := Lib.hid (Cal.vld_eq y m d h i)
  by_cases h1 : 1 ≤ d
  · by_cases h2 : d ≤ Cal.days y m
    · go_enter Tryz.func158, Tryz.ntmps158
      go_wp2
      go_quiet ((first | (go_at_call 130; exact quiet_left (days_any _ _ _ ((hT.alloc _).drewN _))) | (go_at_call 131; exact quiet_left (timeOfDay_any _ _ _))))
      go_wp2
      go_ret
      exact ⟨ret_bool (by rw [E.out]; simp [h1, h2]), below_drewN ((Below.refl _ _).alloc (Nat.le_refl _) _) _⟩
    · have hd : decide (d ≤ Cal.days y m) = false := by simpa using h2
      go_enter Tryz.func158, Tryz.ntmps158
      go_wp2
      go_quiet ((go_at_call 130; exact quiet_left (days_any _ _ _ ((hT.alloc _).drewN _))))
      go_wp2
      go_ret
      exact ⟨ret_bool (by rw [E.out, hd]; simp), below_drewN ((Below.refl _ _).alloc (Nat.le_refl _) _) _⟩
  · have hd : decide (1 ≤ d) = false := by simpa using h1
    go_enter Tryz.func158, Tryz.ntmps158
    go_wp2
    go_quiet (fail)
    go_wp2
    go_ret
    exact ⟨ret_bool (by rw [E.out, hd]; simp), below_drewN ((Below.refl _ _).alloc (Nat.le_refl _) _) _⟩

set_option maxHeartbeats 400000 in
theorem minutes_no (y m d h i : Int) (w : World) (hT : Tab w) (hv : Cal.vld y m d h i = false) :
    Calls Tryz.prog 132 #[.agg #[.int .i64 y, .int .i64 m, .int .i64 d, .int .i64 h, .int .i64 i]] w fun e w' => e = .returned (.tuple #[.int .i64 0, .int .i64 1]) ∧ Below w.heap.size w w' := by
  go_enter Tryz.func132, Tryz.ntmps132
  go_wp2_with (go_at_call 158; refine (valid_any _ _ _ _ _ _ (hT.alloc _)).mono ?_; rintro e w1 ⟨rfl, hb⟩)
  go_ret2
  exact ⟨rfl, ((Below.refl _ _).alloc (Nat.le_refl _) _).trans (hb.mono (by simp))⟩

set_option maxHeartbeats 400000 in
theorem minutes_yes (y m d h i : Int) (w : World) (hT : Tab w) (hv : Cal.vld y m d h i = true) :
    Calls Tryz.prog 132 #[.agg #[.int .i64 y, .int .i64 m, .int .i64 d, .int .i64 h, .int .i64 i]] w fun e w' => e = .returned (.tuple #[.int .i64 (Cal.num y m d h i), .int .i64 0]) ∧ Below w.heap.size w w' := by
  obtain ⟨⟨a1, a2, a3, a4⟩, a5, a6, a7, a8, a9, a10⟩ := Cal.vld_iff.1 hv
  have c1 := Cal.cum_bd y m (by omega) (by omega)
  have c2 := Cal.dim_bd y m
  have c3 := Cal.dby_bd y (by omega) (by omega)
  go_enter Tryz.func132, Tryz.ntmps132
  go_wp2_with (go_at_call 158; refine (valid_any _ _ _ _ _ _ (hT.alloc _)).mono ?_; rintro e w1 ⟨rfl, hb⟩)
  obtain ⟨⟨k0, k1, k2, k3, k4⟩, hb1⟩ := box5 hb
  clear hb
  have hT1 := hT.under hb1
  go_quiet ((go_at_call 129; exact quiet_left (daysBefore_any _ _ (by omega) (by omega))))
  go_wp2
  go_loop [4, 5] (fun s q => ∃ k : Int, 1 ≤ k ∧ k ≤ m ∧ q = .int .i64 k ∧ s = .int .i64 (Cal.dby y + d - 1 + Cal.cum y k)) (fun _ q => (13 - intOf q).toNat)
  case atStart => exact ⟨1, by omega, by omega, rfl, by rw [Cal.cum_one, Int.add_zero]⟩
  case round =>
    obtain ⟨k, hk1, hk2, rfl, rfl⟩ := hrel
    have c4 := Cal.cum_bd y k (by omega) (by omega)
    have c5 := Cal.dim_bd y k
    have hd := Cal.days_in ⟨a1, a2, hk1, (by omega : k ≤ 12)⟩
    have C := Lib.hid (Cal.cum_succ y k hk1 (by omega))
    by_cases hlt : k < m
    · go_wp2_with (go_at_call 130; refine (days_any _ _ _ (hT1.drewN _)).mono ?_; rintro e w2 ⟨rfl, rfl⟩)
      go_round
      case rel => exact ⟨k + 1, by omega, by omega, rfl, by rw [C.out]; congr 1; omega⟩
      case measure => simp [intOf]; omega
    · have hkm : k = m := by omega
      subst hkm
      go_wp2
      go_ret2
      exact ⟨ret_i2 (by unfold Cal.num; omega), below_drewN hb1 _⟩

set_option maxHeartbeats 400000 in
theorem date_no (n : Int) (w : World) (hr : Cal.rng n = false) :
    Calls Tryz.prog 78 #[.int .i64 n] w fun e w' => e = .returned (.tuple #[.agg #[.int .i64 0, .int .i64 0, .int .i64 0, .int .i64 0, .int .i64 0], .int .i64 1]) ∧ Below w.heap.size w w' := by
  go_enter Tryz.func78, Tryz.ntmps78
  go_wp2_with (go_at_call 128; refine (inRange_any _ _).mono ?_; rintro e w1 ⟨rfl, rfl⟩)
  exact bodyPost_ret (v := .tuple #[.agg #[.int .i64 0, .int .i64 0, .int .i64 0, .int .i64 0, .int .i64 0], .int .i64 1]) (by simp [results, Tryz.results78, go_sem]) rfl ⟨rfl, (Below.refl _ _).alloc (Nat.le_refl _) _⟩
theorem ret_civil {a b c d e a' b' c' d' e' : Int} (h1 : a = a') (h2 : b = b') (h3 : c = c') (h4 : d = d') (h5 : e = e') :
    Ending.returned (.tuple #[.agg #[.int .i64 a, .int .i64 b, .int .i64 c, .int .i64 d, .int .i64 e], .int .i64 0]) = .returned (.tuple #[.agg #[.int .i64 a', .int .i64 b', .int .i64 c', .int .i64 d', .int .i64 e'], .int .i64 0]) := by rw [h1, h2, h3, h4, h5]
set_option maxHeartbeats 400000 in
theorem date_yes (n y m d h i : Int) (w : World) (hT : Tab w) (hn : Cal.num y m d h i = n) (hv : Cal.vld y m d h i = true) :
    Calls Tryz.prog 78 #[.int .i64 n] w fun e w' => e = .returned (.tuple #[.agg #[.int .i64 y, .int .i64 m, .int .i64 d, .int .i64 h, .int .i64 i], .int .i64 0]) ∧ Below w.heap.size w w' := by
  obtain ⟨n1, n2⟩ := Cal.num_bd hv
  obtain ⟨⟨a1, a2, a3, a4⟩, a5, a6, a7, a8, a9, a10⟩ := Cal.vld_iff.1 hv
  obtain ⟨p1, p2⟩ := Cal.dnum_bd ⟨a1, a2⟩ ⟨a3, a4⟩ ⟨a5, a6⟩
  have p3 := Cal.num_dnum y m d h i
  rw [hn] at n1 n2 p3
  have q1 : n / 1440 = Cal.dnum y m d := by omega
  have q2 : n % 1440 = h * 60 + i := by omega
  have q3 : 2000 + 4 * Cal.dnum y m d / 1461 = y := Cal.year_of ⟨a1, a2⟩ ⟨a3, a4⟩ ⟨a5, a6⟩
  have r1 : (h * 60 + i) / 60 = h := by omega
  have r2 : (h * 60 + i) % 60 = i := by omega
  have hr : Cal.rng n = true := Cal.rng_yes n1 n2
  have c3 := Cal.dby_bd y (by omega) (by omega)
  have D := Lib.hid (show Cal.dnum y m d = Cal.dby y + Cal.cum y m + d - 1 from rfl)
  generalize Cal.dnum y m d = t at *
  clear p3 hn
  have ht := hT.alloc (.cells #[.int .i64 0, .int .i64 0, .int .i64 0, .int .i64 0, .int .i64 0] 95)
  go_enter Tryz.func78, Tryz.ntmps78
  go_wp2_with (first | (go_at_call 128; refine (inRange_any _ _).mono ?_; rintro e w1 ⟨rfl, rfl⟩) | (go_at_call 129; refine (daysBefore_any _ _ (by omega) (by omega)).mono ?_; rintro e w1 ⟨rfl, rfl⟩))
  clear q1 q2 q3
  go_loop [4, 7] (fun s q => ∃ k : Int, 1 ≤ k ∧ k ≤ m ∧ q = .int .i64 k ∧ s = .int .i64 (t - Cal.dby y - Cal.cum y k)) (fun _ q => (13 - intOf q).toNat)
  case atStart => exact ⟨1, by omega, by omega, rfl, by rw [Cal.cum_one]; congr 1; omega⟩
  case round =>
    obtain ⟨k, hk1, hk2, rfl, rfl⟩ := hrel
    have c4 := Cal.cum_bd y k (by omega) (by omega)
    have c5 := Cal.dim_bd y k
    have C := Lib.hid (Cal.cum_succ y k hk1 (by omega))
    have hd := Cal.days_in ⟨a1, a2, hk1, (by omega : k ≤ 12)⟩
    by_cases hlt : k < m
    · have hge : Cal.dim y k ≤ t - Cal.dby y - Cal.cum y k := by
        have e1 := Cal.cum_lt y k m hk1 hlt (by omega)
        have e2 := D.out
        omega
      go_wp2_with (go_at_call 130; refine (days_any _ _ _ ht).mono ?_; rintro e w2 ⟨rfl, rfl⟩)
      go_round
      case rel => exact ⟨k + 1, by omega, by omega, rfl, by rw [C.out]; congr 1; omega⟩
      case measure => simp [intOf]; omega
    · have hkm : k = m := by omega
      subst hkm
      have hge : t - Cal.dby y - Cal.cum y k < Cal.dim y k := by
        have e2 := D.out
        omega
      have E := Lib.hid (show t - Cal.dby y - Cal.cum y k + 1 = d by have e2 := D.out; omega)
      go_wp2_with (go_at_call 130; refine (days_any _ _ _ ht).mono ?_; rintro e w2 ⟨rfl, rfl⟩)
      refine bodyPost_ret (v := .tuple #[.agg #[.int .i64 y, .int .i64 k, .int .i64 (t - Cal.dby y - Cal.cum y k + 1), .int .i64 h, .int .i64 i], .int .i64 0]) (by simp [results, Tryz.results78, go_sem]) rfl ⟨ret_civil rfl rfl E.out rfl rfl, ?_⟩
      exact (Below.refl _ _).alloc (Nat.le_refl _) _
end Go.Proofs.YtfnlgfacadmjpaaGreatDoor.Ck
namespace Go.Proofs.YtfnlgfacadmjpaaGreatDoor.Ck
open Go.RowKit

theorem Tab.set {w : World} (h : Tab w) {a : Addr} (ha : 2 < a.block) (u : Value) : Tab (w.setCell a u) := fun i hi => (World.cell?_setCell_other w a _ u (fun e => by subst e; exact absurd ha (Nat.lt_irrefl _))).trans (h i hi)
/-- A block of a date, known whole. -/
def Box (w : World) (g : Nat) (y m d h i : Int) : Prop := w.heap[g]? = some (.cells #[.int .i64 y, .int .i64 m, .int .i64 d, .int .i64 h, .int .i64 i] 95 (0, 0))
theorem Box.lt {w : World} {g : Nat} {y m d h i : Int} (hB : Box w g y m d h i) : g < w.heap.size := by
  rcases Nat.lt_or_ge g w.heap.size with hlt | hge
  · exact hlt
  · unfold Box at hB; rw [Array.getElem?_eq_none hge] at hB; cases hB
theorem Box.under {w w' : World} {g : Nat} {y m d h i : Int} (hB : Box w g y m d h i) (hb : Below w.heap.size w w') : Box w' g y m d h i := (hb.block g hB.lt).trans hB
theorem Box.facts {w : World} {g : Nat} {y m d h i : Int} (hB : Box w g y m d h i) :
    (w.cell? ⟨g, 0, none⟩ = some (.int .i64 y) ∧ w.cell? ⟨g, 1, none⟩ = some (.int .i64 m) ∧ w.cell? ⟨g, 2, none⟩ = some (.int .i64 d) ∧ w.cell? ⟨g, 3, none⟩ = some (.int .i64 h) ∧ w.cell? ⟨g, 4, none⟩ = some (.int .i64 i)) ∧
    (w.frozen? ⟨g, 0, none⟩ = false ∧ w.frozen? ⟨g, 1, none⟩ = false ∧ w.frozen? ⟨g, 2, none⟩ = false ∧ w.frozen? ⟨g, 3, none⟩ = false ∧ w.frozen? ⟨g, 4, none⟩ = false) := by
  unfold Box at hB
  simp [World.cell?, World.frozen?, hB]
theorem Box.setAt {w : World} {g : Nat} {y m d h i : Int} (hB : Box w g y m d h i) (j : Nat) (u : Int) :
    (w.setCell ⟨g, j, none⟩ (.int .i64 u)).heap[g]? = some (.cells (#[.int .i64 y, .int .i64 m, .int .i64 d, .int .i64 h, .int .i64 i].setIfInBounds j (.int .i64 u)) 95 (0, 0)) := by
  unfold Box at hB
  simp [World.setCell, Array.getElem?_modify, hB]
section
variable {w : World} {g : Nat} {y m d h i : Int} (hB : Box w g y m d h i) (u : Int)
include hB
theorem Box.set0 : Box (w.setCell ⟨g, 0, none⟩ (.int .i64 u)) g u m d h i := hB.setAt 0 u
theorem Box.set1 : Box (w.setCell ⟨g, 1, none⟩ (.int .i64 u)) g y u d h i := hB.setAt 1 u
theorem Box.set2 : Box (w.setCell ⟨g, 2, none⟩ (.int .i64 u)) g y m u h i := hB.setAt 2 u
theorem Box.set3 : Box (w.setCell ⟨g, 3, none⟩ (.int .i64 u)) g y m d u i := hB.setAt 3 u
theorem Box.set4 : Box (w.setCell ⟨g, 4, none⟩ (.int .i64 u)) g y m d h u := hB.setAt 4 u
theorem Box.alloc (o : Obj) : Box (w.alloc o) g y m d h i := (Below.heap_alloc w o g hB.lt).trans hB
end
theorem Box.newAt {w : World} {g : Nat} (hg : w.heap.size = g) (y m d h i : Int) : Box (w.alloc (.cells #[.int .i64 y, .int .i64 m, .int .i64 d, .int .i64 h, .int .i64 i] 95)) g y m d h i := hg ▸ heap_alloc_new w _
theorem Box.far {w : World} {g : Nat} {y m d h i : Int} (hB : Box w g y m d h i) {p : Addr} (hp : p.block ≠ g) (u : Value) : Box (w.setCell p u) g y m d h i := (Below.heap_setCell w p u g (Ne.symm hp)).trans hB
theorem Box.drewN {w : World} {g : Nat} {y m d h i : Int} (hB : Box w g y m d h i) (n : Nat) : Box (w.drewN n) g y m d h i := hB
/-- What stays known of the world while the date is counted on: nothing old has turned, and both dates' blocks. -/
structure Two (W : World) (g g' : Nat) (y m d h i y' m' d' h' i' : Int) (w : World) : Prop where
  below : Below W.heap.size W w
  base : W.heap.size ≤ g
  ne : g ≠ g'
  one : Box w g y m d h i
  two : Box w g' y' m' d' h' i'
section
variable {W w : World} {g g' : Nat} {y m d h i y' m' d' h' i' : Int}
theorem Two.frozen (t : Two W g g' y m d h i y' m' d' h' i' w) : w.frozen? ⟨g', 0, none⟩ = false ∧ w.frozen? ⟨g', 1, none⟩ = false ∧ w.frozen? ⟨g', 2, none⟩ = false ∧ w.frozen? ⟨g', 3, none⟩ = false ∧ w.frozen? ⟨g', 4, none⟩ = false := t.two.facts.2
theorem Two.facts (t : Two W g g' y m d h i y' m' d' h' i' w) :
    ((w.cell? ⟨g, 0, none⟩ = some (.int .i64 y) ∧ w.cell? ⟨g, 1, none⟩ = some (.int .i64 m) ∧ w.cell? ⟨g, 2, none⟩ = some (.int .i64 d) ∧ w.cell? ⟨g, 3, none⟩ = some (.int .i64 h) ∧ w.cell? ⟨g, 4, none⟩ = some (.int .i64 i)) ∧
    (w.frozen? ⟨g, 0, none⟩ = false ∧ w.frozen? ⟨g, 1, none⟩ = false ∧ w.frozen? ⟨g, 2, none⟩ = false ∧ w.frozen? ⟨g, 3, none⟩ = false ∧ w.frozen? ⟨g, 4, none⟩ = false)) ∧
    (w.cell? ⟨g', 0, none⟩ = some (.int .i64 y') ∧ w.cell? ⟨g', 1, none⟩ = some (.int .i64 m') ∧ w.cell? ⟨g', 2, none⟩ = some (.int .i64 d') ∧ w.cell? ⟨g', 3, none⟩ = some (.int .i64 h') ∧ w.cell? ⟨g', 4, none⟩ = some (.int .i64 i')) := ⟨t.one.facts, t.two.facts.1⟩
theorem Two.drewN (t : Two W g g' y m d h i y' m' d' h' i' w) (n : Nat) : Two W g g' y m d h i y' m' d' h' i' (w.drewN n) := ⟨below_drewN t.below n, t.base, t.ne, t.one.drewN n, t.two.drewN n⟩
theorem Two.set0 (t : Two W g g' y m d h i y' m' d' h' i' w) (u : Int) : Two W g g' u m d h i y' m' d' h' i' (w.setCell ⟨g, 0, none⟩ (.int .i64 u)) := ⟨t.below.setCell t.base _, t.base, t.ne, t.one.set0 u, t.two.far t.ne _⟩
theorem Two.set1 (t : Two W g g' y m d h i y' m' d' h' i' w) (u : Int) : Two W g g' y u d h i y' m' d' h' i' (w.setCell ⟨g, 1, none⟩ (.int .i64 u)) := ⟨t.below.setCell t.base _, t.base, t.ne, t.one.set1 u, t.two.far t.ne _⟩
theorem Two.set2 (t : Two W g g' y m d h i y' m' d' h' i' w) (u : Int) : Two W g g' y m u h i y' m' d' h' i' (w.setCell ⟨g, 2, none⟩ (.int .i64 u)) := ⟨t.below.setCell t.base _, t.base, t.ne, t.one.set2 u, t.two.far t.ne _⟩
theorem Two.set3 (t : Two W g g' y m d h i y' m' d' h' i' w) (u : Int) : Two W g g' y m d u i y' m' d' h' i' (w.setCell ⟨g, 3, none⟩ (.int .i64 u)) := ⟨t.below.setCell t.base _, t.base, t.ne, t.one.set3 u, t.two.far t.ne _⟩
theorem Two.set4 (t : Two W g g' y m d h i y' m' d' h' i' w) (u : Int) : Two W g g' y m d h u y' m' d' h' i' (w.setCell ⟨g, 4, none⟩ (.int .i64 u)) := ⟨t.below.setCell t.base _, t.base, t.ne, t.one.set4 u, t.two.far t.ne _⟩
end
theorem Box.new (w : World) (y m d h i : Int) : Box (w.alloc (.cells #[.int .i64 y, .int .i64 m, .int .i64 d, .int .i64 h, .int .i64 i] 95)) w.heap.size y m d h i := heap_alloc_new w _

end Go.Proofs.YtfnlgfacadmjpaaGreatDoor.Ck
