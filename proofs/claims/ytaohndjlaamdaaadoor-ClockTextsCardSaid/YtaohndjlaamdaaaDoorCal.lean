/- The calendar of the years 2000 to 2099 as plain arithmetic: days of months, the number of a date's minute, and that both determine each other. No program, no memory. -/
import Derived.Lib.Hide
namespace Go.Proofs.YtaohndjlaamdaaaDoor.Cal

def leap (y : Int) : Int := if y % 4 = 0 then 1 else 0
def dim (y m : Int) : Int := if m = 2 then 28 + leap y else if m = 4 ∨ m = 6 ∨ m = 9 ∨ m = 11 then 30 else 31
def days (y m : Int) : Int := if 2000 ≤ y ∧ y ≤ 2099 ∧ 1 ≤ m ∧ m ≤ 12 then dim y m else 0
def vld (y m d h i : Int) : Bool := decide (1 ≤ d ∧ d ≤ days y m ∧ 0 ≤ h ∧ h ≤ 23 ∧ 0 ≤ i ∧ i ≤ 59)
/-- A time of day. -/
def tod (h i : Int) : Bool := decide (0 ≤ h ∧ h ≤ 23 ∧ 0 ≤ i ∧ i ≤ 59)
/-- A number of a minute. -/
def rng (n : Int) : Bool := decide (0 ≤ n ∧ n ≤ 52595999)
theorem rng_yes {n : Int} (h0 : 0 ≤ n) (h1 : n ≤ 52595999) : rng n = true := by unfold rng; simp [h0, h1]
theorem rng_no {n : Int} (h : n < 0 ∨ 52595999 < n) : rng n = false := by unfold rng; simp; omega
def dby (y : Int) : Int := 365 * (y - 2000) + (y - 2000 + 3) / 4
def cum (y m : Int) : Int :=
  if m ≤ 1 then 0 else if m = 2 then 31 else leap y + (if m = 3 then 59 else if m = 4 then 90 else if m = 5 then 120 else if m = 6 then 151 else if m = 7 then 181 else
    if m = 8 then 212 else if m = 9 then 243 else if m = 10 then 273 else if m = 11 then 304 else if m = 12 then 334 else 365)
def num (y m d h i : Int) : Int := (dby y + cum y m + d - 1) * 1440 + h * 60 + i

theorem leap_01 (y : Int) : 0 ≤ leap y ∧ leap y ≤ 1 := by unfold leap; split <;> omega
theorem dim_bd (y m : Int) : 28 ≤ dim y m ∧ dim y m ≤ 31 := by
  have := leap_01 y
  unfold dim; split
  · omega
  · split <;> omega
theorem days_bd (y m : Int) : 0 ≤ days y m ∧ days y m ≤ 31 := by
  have := dim_bd y m
  unfold days; split <;> omega
theorem days_in {y m : Int} (h : 2000 ≤ y ∧ y ≤ 2099 ∧ 1 ≤ m ∧ m ≤ 12) : days y m = dim y m := by unfold days; rw [if_pos h]
theorem days_out {y m : Int} (h : ¬ (2000 ≤ y ∧ y ≤ 2099 ∧ 1 ≤ m ∧ m ≤ 12)) : days y m = 0 := by unfold days; rw [if_neg h]
theorem vld_iff {y m d h i : Int} : vld y m d h i = true ↔ (2000 ≤ y ∧ y ≤ 2099 ∧ 1 ≤ m ∧ m ≤ 12) ∧ 1 ≤ d ∧ d ≤ dim y m ∧ 0 ≤ h ∧ h ≤ 23 ∧ 0 ≤ i ∧ i ≤ 59 := by
  unfold vld
  by_cases hc : 2000 ≤ y ∧ y ≤ 2099 ∧ 1 ≤ m ∧ m ≤ 12
  · rw [days_in hc]; simp [hc]
  · rw [days_out hc]; simp only [decide_eq_true_eq]
    constructor
    · intro h; omega
    · intro h; exact absurd h.1 hc
theorem vld_eq (y m d h i : Int) : vld y m d h i = (decide (1 ≤ d) && decide (d ≤ days y m) && tod h i) := by
  unfold vld tod
  rw [Bool.eq_iff_iff]; simp; omega
theorem vld_tod {y m d h i : Int} (hv : vld y m d h i = true) : tod h i = true := by
  rw [vld_eq] at hv; simp at hv; exact hv.2
theorem vld_days {y m d h i : Int} (hv : vld y m d h i = true) : 1 ≤ d ∧ d ≤ days y m := by
  rw [vld_eq] at hv; simp at hv; exact hv.1
theorem cum_succ (y m : Int) (h1 : 1 ≤ m) (h2 : m ≤ 12) : cum y (m + 1) = cum y m + dim y m := by
  have h : m = 1 ∨ m = 2 ∨ m = 3 ∨ m = 4 ∨ m = 5 ∨ m = 6 ∨ m = 7 ∨ m = 8 ∨ m = 9 ∨ m = 10 ∨ m = 11 ∨ m = 12 := by omega
  rcases h with h | h | h | h | h | h | h | h | h | h | h | h <;> subst h <;> simp [cum, dim] <;> omega
theorem cum_one (y : Int) : cum y 1 = 0 := by simp [cum]
theorem cum_13 (y : Int) : cum y 13 = 365 + leap y := by simp [cum]; omega
theorem cum_bd (y m : Int) (h1 : 1 ≤ m) (h2 : m ≤ 13) : 0 ≤ cum y m ∧ cum y m ≤ 366 := by
  have := leap_01 y
  have h : m = 1 ∨ m = 2 ∨ m = 3 ∨ m = 4 ∨ m = 5 ∨ m = 6 ∨ m = 7 ∨ m = 8 ∨ m = 9 ∨ m = 10 ∨ m = 11 ∨ m = 12 ∨ m = 13 := by omega
  rcases h with h | h | h | h | h | h | h | h | h | h | h | h | h <;> subst h <;> simp [cum] <;> omega
/-- Months further on begin at least a month's days later. -/
theorem cum_lt (y a b : Int) (h1 : 1 ≤ a) (h : a < b) (h2 : b ≤ 13) : cum y a + dim y a ≤ cum y b := by
  have key : ∀ k : Nat, ∀ b : Int, b = a + 1 + k → b ≤ 13 → cum y a + dim y a ≤ cum y b := by
    intro k
    induction k with
    | zero => intro b hb hb2; rw [hb]; have := cum_succ y a h1 (by omega); simp only [Int.natCast_zero, Int.add_zero]; omega
    | succ k ih =>
      intro b hb hb2
      have e : b = (b - 1) + 1 := by omega
      have h3 := ih (b - 1) (by omega) (by omega)
      have h4 := cum_succ y (b - 1) (by omega) (by omega)
      have h5 := dim_bd y (b - 1)
      rw [← e] at h4
      omega
  exact key (b - a - 1).toNat b (by omega) h2
theorem dby_succ (y : Int) (_h : 2000 ≤ y) : dby (y + 1) = dby y + 365 + leap y := by
  unfold dby leap; split <;> omega
theorem dby_bd (y : Int) (h1 : 2000 ≤ y) (h2 : y ≤ 2100) : 0 ≤ dby y ∧ dby y ≤ 36525 := by unfold dby; omega
theorem dby_lt (a b : Int) (_h1 : 2000 ≤ a) (h : a < b) : dby a + 365 + leap a ≤ dby b := by
  unfold dby leap; split <;> omega
theorem doy_bd {y m d : Int} (hm : 1 ≤ m ∧ m ≤ 12) (hd : 1 ≤ d ∧ d ≤ dim y m) : 0 ≤ cum y m + d - 1 ∧ cum y m + d - 1 < 365 + leap y := by
  have h1 := cum_bd y m (by omega) (by omega)
  have h2 : cum y m + dim y m ≤ cum y 13 := cum_lt y m 13 (by omega) (by omega) (by omega)
  rw [cum_13] at h2
  omega
/-- The day's number, split off. -/
def dnum (y m d : Int) : Int := dby y + cum y m + d - 1
theorem num_dnum (y m d h i : Int) : num y m d h i = dnum y m d * 1440 + h * 60 + i := rfl
theorem dnum_bd {y m d : Int} (hy : 2000 ≤ y ∧ y ≤ 2099) (hm : 1 ≤ m ∧ m ≤ 12) (hd : 1 ≤ d ∧ d ≤ dim y m) : 0 ≤ dnum y m d ∧ dnum y m d ≤ 36524 := by
  have h1 := doy_bd hm hd
  have h2 := dby_bd y (by omega) (by omega)
  have h3 := dby_lt y (y + 1) (by omega) (by omega)
  have h4 := dby_bd (y + 1) (by omega) (by omega)
  unfold dnum; omega
theorem num_bd {y m d h i : Int} (hv : vld y m d h i = true) : 0 ≤ num y m d h i ∧ num y m d h i ≤ 52595999 := by
  obtain ⟨⟨a, b, c, e⟩, f, g, k⟩ := vld_iff.1 hv
  have := dnum_bd ⟨a, b⟩ ⟨c, e⟩ ⟨f, g⟩
  rw [num_dnum]; omega
/-- The order of days is that of their fields. -/
theorem dnum_lt {y m d y' m' d' : Int} (hy : 2000 ≤ y ∧ y ≤ 2099) (hm : 1 ≤ m ∧ m ≤ 12) (hd : 1 ≤ d ∧ d ≤ dim y m)
    (hy' : 2000 ≤ y' ∧ y' ≤ 2099) (hm' : 1 ≤ m' ∧ m' ≤ 12) (hd' : 1 ≤ d' ∧ d' ≤ dim y' m')
    (h : y < y' ∨ (y = y' ∧ (m < m' ∨ (m = m' ∧ d < d')))) : dnum y m d < dnum y' m' d' := by
  have h1 := doy_bd hm hd
  have h2 := doy_bd hm' hd'
  rcases h with h | ⟨rfl, h | ⟨rfl, h⟩⟩
  · have := dby_lt y y' (by omega) h
    unfold dnum; omega
  · have := cum_lt y m m' (by omega) h (by omega)
    unfold dnum; omega
  · unfold dnum; omega
theorem dnum_inj {y m d y' m' d' : Int} (hy : 2000 ≤ y ∧ y ≤ 2099) (hm : 1 ≤ m ∧ m ≤ 12) (hd : 1 ≤ d ∧ d ≤ dim y m)
    (hy' : 2000 ≤ y' ∧ y' ≤ 2099) (hm' : 1 ≤ m' ∧ m' ≤ 12) (hd' : 1 ≤ d' ∧ d' ≤ dim y' m')
    (h : dnum y m d = dnum y' m' d') : y = y' ∧ m = m' ∧ d = d' := by
  have h1 : ¬ (y < y' ∨ (y = y' ∧ (m < m' ∨ (m = m' ∧ d < d')))) := fun hh => by have := dnum_lt hy hm hd hy' hm' hd' hh; omega
  have h2 : ¬ (y' < y ∨ (y' = y ∧ (m' < m ∨ (m' = m ∧ d' < d)))) := fun hh => by have := dnum_lt hy' hm' hd' hy hm hd hh; omega
  omega
/-- Each day's number is that of a date. -/
theorem dnum_of (n : Int) (h1 : 0 ≤ n) (h2 : n ≤ 36524) : ∃ y m d : Int, (2000 ≤ y ∧ y ≤ 2099) ∧ (1 ≤ m ∧ m ≤ 12) ∧ (1 ≤ d ∧ d ≤ dim y m) ∧ dnum y m d = n ∧ y = 2000 + 4 * n / 1461 := by
  have hy : dby (2000 + 4 * n / 1461) ≤ n ∧ n < dby (2000 + 4 * n / 1461 + 1) := by unfold dby; omega
  have hy2 : 2000 ≤ 2000 + 4 * n / 1461 ∧ 2000 + 4 * n / 1461 ≤ 2099 := by omega
  generalize 2000 + 4 * n / 1461 = y at *
  have hs := dby_succ y (by omega)
  have h13 := cum_13 y
  have key : ∀ k : Nat, k ≤ 11 → (∃ m : Int, 1 ≤ m ∧ m ≤ 12 ∧ cum y m ≤ n - dby y ∧ n - dby y < cum y (m + 1)) ∨ cum y (k + 2) ≤ n - dby y := by
    intro k
    induction k with
    | zero =>
      intro _
      by_cases hc : n - dby y < cum y (1 + 1)
      · exact .inl ⟨1, by omega, by omega, by rw [cum_one]; omega, hc⟩
      · right; simp only [Int.natCast_zero]; have : (0 : Int) + 2 = 1 + 1 := by omega
        rw [this]; omega
    | succ k ih =>
      intro hk
      rcases ih (by omega) with h | h
      · exact .inl h
      · by_cases hc : n - dby y < cum y ((k : Int) + 2 + 1)
        · exact .inl ⟨k + 2, by omega, by omega, h, hc⟩
        · right
          have : ((k + 1 : Nat) : Int) + 2 = (k : Int) + 2 + 1 := by omega
          rw [this]; omega
  rcases key 11 (by omega) with ⟨m, hm1, hm2, ha, hb⟩ | h
  · have := cum_succ y m hm1 hm2
    exact ⟨y, m, n - dby y - cum y m + 1, hy2, ⟨hm1, hm2⟩, ⟨by omega, by omega⟩, by unfold dnum; omega, rfl⟩
  · have e : ((11 : Nat) : Int) + 2 = 13 := by omega
    rw [e] at h; omega
theorem num_of (n : Int) (h1 : 0 ≤ n) (h2 : n ≤ 52595999) : ∃ y m d h i : Int, vld y m d h i = true ∧ num y m d h i = n ∧ y = 2000 + 4 * (n / 1440) / 1461 ∧ dnum y m d = n / 1440 ∧ h = n % 1440 / 60 ∧ i = n % 1440 % 60 := by
  obtain ⟨y, m, d, a, b, c, e, f⟩ := dnum_of (n / 1440) (by omega) (by omega)
  exact ⟨y, m, d, n % 1440 / 60, n % 1440 % 60, vld_iff.2 ⟨⟨a.1, a.2, b.1, b.2⟩, c.1, c.2, by omega, by omega, by omega, by omega⟩, by rw [num_dnum]; omega, f, e, rfl, rfl⟩
theorem year_of {y m d : Int} (hy : 2000 ≤ y ∧ y ≤ 2099) (hm : 1 ≤ m ∧ m ≤ 12) (hd : 1 ≤ d ∧ d ≤ dim y m) : 2000 + 4 * dnum y m d / 1461 = y := by
  have hb := dnum_bd hy hm hd
  obtain ⟨y', m', d', a, b, c, e, f⟩ := dnum_of _ hb.1 hb.2
  have := dnum_inj a b c hy hm hd e
  omega
theorem num_inj {y m d h i y' m' d' h' i' : Int} (hv : vld y m d h i = true) (hv' : vld y' m' d' h' i' = true) (he : num y m d h i = num y' m' d' h' i') :
    y = y' ∧ m = m' ∧ d = d' ∧ h = h' ∧ i = i' := by
  obtain ⟨⟨a, b, c, e⟩, f, g, k⟩ := vld_iff.1 hv
  obtain ⟨⟨a', b', c', e'⟩, f', g', k'⟩ := vld_iff.1 hv'
  rw [num_dnum, num_dnum] at he
  have := dnum_inj ⟨a, b⟩ ⟨c, e⟩ ⟨f, g⟩ ⟨a', b'⟩ ⟨c', e'⟩ ⟨f', g'⟩ (by omega)
  omega
end Go.Proofs.YtaohndjlaamdaaaDoor.Cal
