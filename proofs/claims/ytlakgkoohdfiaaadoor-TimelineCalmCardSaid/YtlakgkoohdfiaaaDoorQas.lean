/- Texts of this proof. -/
import Derived.Lib.Hide
namespace Go.Proofs.YtlakgkoohdfiaaaDoor.Ck.Cal

def leap (y : Int) : Int := if y % 4 = 0 then 1 else 0
def dim (y m : Int) : Int := if m = 2 then 28 + leap y else if m = 4 ∨ m = 6 ∨ m = 9 ∨ m = 11 then 30 else 31
def days (y m : Int) : Int := if 2000 ≤ y ∧ y ≤ 2099 ∧ 1 ≤ m ∧ m ≤ 12 then dim y m else 0
def vld (y m d h i : Int) : Bool := decide (1 ≤ d ∧ d ≤ days y m ∧ 0 ≤ h ∧ h ≤ 23 ∧ 0 ≤ i ∧ i ≤ 59)
/-- A time of day. -/
def tod (h i : Int) : Bool := decide (0 ≤ h ∧ h ≤ 23 ∧ 0 ≤ i ∧ i ≤ 59)
/-- A number of a minute. -/
def rng (n : Int) : Bool := decide (0 ≤ n ∧ n ≤ 52595999)
theorem rng_yes {n : Int} (h0 : 0 ≤ n) (h1 : n ≤ 52595999) : rng n = true := by unfold rng; simp [h0, h1]
theorem rng_no {n : Int} (h : n < 0 ∨ 52595999 < n) : rng n = false := by unfold rng; simp; omega
def dby (y : Int) : Int := 365 * (y - 2000) + (y - 2000 + 3) / 4
def cum (y m : Int) : Int :=
  if m ≤ 1 then 0 else if m = 2 then 31 else leap y + (if m = 3 then 59 else if m = 4 then 90 else if m = 5 then 120 else if m = 6 then 151 else if m = 7 then 181 else
    if m = 8 then 212 else if m = 9 then 243 else if m = 10 then 273 else if m = 11 then 304 else if m = 12 then 334 else 365)
def num (y m d h i : Int) : Int := (dby y + cum y m + d - 1) * 1440 + h * 60 + i

theorem leap_01 (y : Int) : 0 ≤ leap y ∧ leap y ≤ 1 := by unfold leap; split <;> omega
theorem dim_bd (y m : Int) : 28 ≤ dim y m ∧ dim y m ≤ 31 := by
  have := leap_01 y
  unfold dim; split
  · omega
  · split <;> omega
theorem days_bd (y m : Int) : 0 ≤ days y m ∧ days y m ≤ 31 := by
  have := dim_bd y m
  unfold days; split <;> omega
theorem days_in {y m : Int} (h : 2000 ≤ y ∧ y ≤ 2099 ∧ 1 ≤ m ∧ m ≤ 12) : days y m = dim y m := by unfold days; rw [if_pos h]
theorem days_out {y m : Int} (h : ¬ (2000 ≤ y ∧ y ≤ 2099 ∧ 1 ≤ m ∧ m ≤ 12)) : days y m = 0 := by unfold days; rw [if_neg h]
theorem vld_iff {y m d h i : Int} : vld y m d h i = true ↔ (2000 ≤ y ∧ y ≤ 2099 ∧ 1 ≤ m ∧ m ≤ 12) ∧ 1 ≤ d ∧ d ≤ dim y m ∧ 0 ≤ h ∧ h ≤ 23 ∧ 0 ≤ i ∧ i ≤ 59 := by
  unfold vld
  by_cases hc : 2000 ≤ y ∧ y ≤ 2099 ∧ 1 ≤ m ∧ m ≤ 12
  · rw [days_in hc]; simp [hc]
  · rw [days_out hc]; simp only [decide_eq_true_eq]
    constructor
    · intro h; omega
    · intro h; exact absurd h.1 hc
theorem vld_eq (y m d h i : Int) : vld y m d h i = (decide (1 ≤ d) && decide (d ≤ days y m) && tod h i) := by
  unfold vld tod
  rw [Bool.eq_iff_iff]; simp; omega
theorem vld_tod {y m d h i : Int} (hv : vld y m d h i = true) : tod h i = true := by
  rw [vld_eq] at hv; simp at hv; exact hv.2
theorem vld_days {y m d h i : Int} (hv : vld y m d h i = true) : 1 ≤ d ∧ d ≤ days y m := by
  rw [vld_eq] at hv; simp at hv; exact hv.1
theorem cum_succ (y m : Int) (h1 : 1 ≤ m) (h2 : m ≤ 12) : cum y (m + 1) = cum y m + dim y m := by
  have h : m = 1 ∨ m = 2 ∨ m = 3 ∨ m = 4 ∨ m = 5 ∨ m = 6 ∨ m = 7 ∨ m = 8 ∨ m = 9 ∨ m = 10 ∨ m = 11 ∨ m = 12 := by omega
  rcases h with h | h | h | h | h | h | h | h | h | h | h | h <;> subst h <;> simp [cum, dim] <;> omega
theorem cum_one (y : Int) : cum y 1 = 0 := by simp [cum]
theorem cum_13 (y : Int) : cum y 13 = 365 + leap y := by simp [cum]; omega
theorem cum_bd (y m : Int) (h1 : 1 ≤ m) (h2 : m ≤ 13) : 0 ≤ cum y m ∧ cum y m ≤ 366 := by
  have := leap_01 y
  have h : m = 1 ∨ m = 2 ∨ m = 3 ∨ m = 4 ∨ m = 5 ∨ m = 6 ∨ m = 7 ∨ m = 8 ∨ m = 9 ∨ m = 10 ∨ m = 11 ∨ m = 12 ∨ m = 13 := by omega
  rcases h with h | h | h | h | h | h | h | h | h | h | h | h | h <;> subst h <;> simp [cum] <;> omega
/-- Months further on begin at least a month's days later. -/
theorem cum_lt (y a b : Int) (h1 : 1 ≤ a) (h : a < b) (h2 : b ≤ 13) : cum y a + dim y a ≤ cum y b := by
  have key : ∀ k : Nat, ∀ b : Int, b = a + 1 + k → b ≤ 13 → cum y a + dim y a ≤ cum y b := by
    intro k
    induction k with
    | zero => intro b hb hb2; rw [hb]; have := cum_succ y a h1 (by omega); simp only [Int.natCast_zero, Int.add_zero]; omega
    | succ k ih =>
      intro b hb hb2
      have e : b = (b - 1) + 1 := by omega
      have h3 := ih (b - 1) (by omega) (by omega)
      have h4 := cum_succ y (b - 1) (by omega) (by omega)
      have h5 := dim_bd y (b - 1)
      rw [← e] at h4
      omega
  exact key (b - a - 1).toNat b (by omega) h2
theorem dby_succ (y : Int) (_h : 2000 ≤ y) : dby (y + 1) = dby y + 365 + leap y := by
  unfold dby leap; split <;> omega
theorem dby_bd (y : Int) (h1 : 2000 ≤ y) (h2 : y ≤ 2100) : 0 ≤ dby y ∧ dby y ≤ 36525 := by unfold dby; omega
theorem dby_lt (a b : Int) (_h1 : 2000 ≤ a) (h : a < b) : dby a + 365 + leap a ≤ dby b := by
  unfold dby leap; split <;> omega
theorem doy_bd {y m d : Int} (hm : 1 ≤ m ∧ m ≤ 12) (hd : 1 ≤ d ∧ d ≤ dim y m) : 0 ≤ cum y m + d - 1 ∧ cum y m + d - 1 < 365 + leap y := by
  have h1 := cum_bd y m (by omega) (by omega)
  have h2 : cum y m + dim y m ≤ cum y 13 := cum_lt y m 13 (by omega) (by omega) (by omega)
  rw [cum_13] at h2
  omega
/-- The day's number, split off. -/
def dnum (y m d : Int) : Int := dby y + cum y m + d - 1
theorem num_dnum (y m d h i : Int) : num y m d h i = dnum y m d * 1440 + h * 60 + i := rfl
theorem dnum_bd {y m d : Int} (hy : 2000 ≤ y ∧ y ≤ 2099) (hm : 1 ≤ m ∧ m ≤ 12) (hd : 1 ≤ d ∧ d ≤ dim y m) : 0 ≤ dnum y m d ∧ dnum y m d ≤ 36524 := by
  have h1 := doy_bd hm hd
  have h2 := dby_bd y (by omega) (by omega)
  have h3 := dby_lt y (y + 1) (by omega) (by omega)
  have h4 := dby_bd (y + 1) (by omega) (by omega)
  unfold dnum; omega
theorem num_bd {y m d h i : Int} (hv : vld y m d h i = true) : 0 ≤ num y m d h i ∧ num y m d h i ≤ 52595999 := by
  obtain ⟨⟨a, b, c, e⟩, f, g, k⟩ := vld_iff.1 hv
  have := dnum_bd ⟨a, b⟩ ⟨c, e⟩ ⟨f, g⟩
  rw [num_dnum]; omega
/-- The order of days is that of their fields. -/
theorem dnum_lt {y m d y' m' d' : Int} (hy : 2000 ≤ y ∧ y ≤ 2099) (hm : 1 ≤ m ∧ m ≤ 12) (hd : 1 ≤ d ∧ d ≤ dim y m)
    (hy' : 2000 ≤ y' ∧ y' ≤ 2099) (hm' : 1 ≤ m' ∧ m' ≤ 12) (hd' : 1 ≤ d' ∧ d' ≤ dim y' m')
    (h : y < y' ∨ (y = y' ∧ (m < m' ∨ (m = m' ∧ d < d')))) : dnum y m d < dnum y' m' d' := by
  have h1 := doy_bd hm hd
  have h2 := doy_bd hm' hd'
  rcases h with h | ⟨rfl, h | ⟨rfl, h⟩⟩
  · have := dby_lt y y' (by omega) h
    unfold dnum; omega
  · have := cum_lt y m m' (by omega) h (by omega)
    unfold dnum; omega
  · unfold dnum; omega
theorem dnum_inj {y m d y' m' d' : Int} (hy : 2000 ≤ y ∧ y ≤ 2099) (hm : 1 ≤ m ∧ m ≤ 12) (hd : 1 ≤ d ∧ d ≤ dim y m)
    (hy' : 2000 ≤ y' ∧ y' ≤ 2099) (hm' : 1 ≤ m' ∧ m' ≤ 12) (hd' : 1 ≤ d' ∧ d' ≤ dim y' m')
    (h : dnum y m d = dnum y' m' d') : y = y' ∧ m = m' ∧ d = d' := by
  have h1 : ¬ (y < y' ∨ (y = y' ∧ (m < m' ∨ (m = m' ∧ d < d')))) := fun hh => by have := dnum_lt hy hm hd hy' hm' hd' hh; omega
  have h2 : ¬ (y' < y ∨ (y' = y ∧ (m' < m ∨ (m' = m ∧ d' < d)))) := fun hh => by have := dnum_lt hy' hm' hd' hy hm hd hh; omega
  omega
/-- Each day's number is that of a date. -/
theorem dnum_of (n : Int) (h1 : 0 ≤ n) (h2 : n ≤ 36524) : ∃ y m d : Int, (2000 ≤ y ∧ y ≤ 2099) ∧ (1 ≤ m ∧ m ≤ 12) ∧ (1 ≤ d ∧ d ≤ dim y m) ∧ dnum y m d = n ∧ y = 2000 + 4 * n / 1461 := by
  have hy : dby (2000 + 4 * n / 1461) ≤ n ∧ n < dby (2000 + 4 * n / 1461 + 1) := by unfold dby; omega
  have hy2 : 2000 ≤ 2000 + 4 * n / 1461 ∧ 2000 + 4 * n / 1461 ≤ 2099 := by omega
  generalize 2000 + 4 * n / 1461 = y at *
  have hs := dby_succ y (by omega)
  have h13 := cum_13 y
  have key : ∀ k : Nat, k ≤ 11 → (∃ m : Int, 1 ≤ m ∧ m ≤ 12 ∧ cum y m ≤ n - dby y ∧ n - dby y < cum y (m + 1)) ∨ cum y (k + 2) ≤ n - dby y := by
    intro k
    induction k with
    | zero =>
      intro _
      by_cases hc : n - dby y < cum y (1 + 1)
      · exact .inl ⟨1, by omega, by omega, by rw [cum_one]; omega, hc⟩
      · right; simp only [Int.natCast_zero]; have : (0 : Int) + 2 = 1 + 1 := by omega
        rw [this]; omega
    | succ k ih =>
      intro hk
      rcases ih (by omega) with h | h
      · exact .inl h
      · by_cases hc : n - dby y < cum y ((k : Int) + 2 + 1)
        · exact .inl ⟨k + 2, by omega, by omega, h, hc⟩
        · right
          have : ((k + 1 : Nat) : Int) + 2 = (k : Int) + 2 + 1 := by omega
          rw [this]; omega
  rcases key 11 (by omega) with ⟨m, hm1, hm2, ha, hb⟩ | h
  · have := cum_succ y m hm1 hm2
    exact ⟨y, m, n - dby y - cum y m + 1, hy2, ⟨hm1, hm2⟩, ⟨by omega, by omega⟩, by unfold dnum; omega, rfl⟩
  · have e : ((11 : Nat) : Int) + 2 = 13 := by omega
    rw [e] at h; omega
theorem num_of (n : Int) (h1 : 0 ≤ n) (h2 : n ≤ 52595999) : ∃ y m d h i : Int, vld y m d h i = true ∧ num y m d h i = n ∧ y = 2000 + 4 * (n / 1440) / 1461 ∧ dnum y m d = n / 1440 ∧ h = n % 1440 / 60 ∧ i = n % 1440 % 60 := by
  obtain ⟨y, m, d, a, b, c, e, f⟩ := dnum_of (n / 1440) (by omega) (by omega)
  exact ⟨y, m, d, n % 1440 / 60, n % 1440 % 60, vld_iff.2 ⟨⟨a.1, a.2, b.1, b.2⟩, c.1, c.2, by omega, by omega, by omega, by omega⟩, by rw [num_dnum]; omega, f, e, rfl, rfl⟩
theorem year_of {y m d : Int} (hy : 2000 ≤ y ∧ y ≤ 2099) (hm : 1 ≤ m ∧ m ≤ 12) (hd : 1 ≤ d ∧ d ≤ dim y m) : 2000 + 4 * dnum y m d / 1461 = y := by
  have hb := dnum_bd hy hm hd
  obtain ⟨y', m', d', a, b, c, e, f⟩ := dnum_of _ hb.1 hb.2
  have := dnum_inj a b c hy hm hd e
  omega
theorem num_inj {y m d h i y' m' d' h' i' : Int} (hv : vld y m d h i = true) (hv' : vld y' m' d' h' i' = true) (he : num y m d h i = num y' m' d' h' i') :
    y = y' ∧ m = m' ∧ d = d' ∧ h = h' ∧ i = i' := by
  obtain ⟨⟨a, b, c, e⟩, f, g, k⟩ := vld_iff.1 hv
  obtain ⟨⟨a', b', c', e'⟩, f', g', k'⟩ := vld_iff.1 hv'
  rw [num_dnum, num_dnum] at he
  have := dnum_inj ⟨a, b⟩ ⟨c, e⟩ ⟨f, g⟩ ⟨a', b'⟩ ⟨c', e'⟩ ⟨f', g'⟩ (by omega)
  omega
end Go.Proofs.YtlakgkoohdfiaaaDoor.Ck.Cal



namespace Go.Proofs.YtlakgkoohdfiaaaDoor.Ck

/-- The distance of two minutes. -/
def dist (a b : Int) : Int := max (a - b) (b - a)
def okM (day h i M : Int) : Bool := Cal.vld (M / 12) (M % 12 + 1) day h i
def valM (day h i M : Int) : Int := Cal.num (M / 12) (M % 12 + 1) day h i
def Nearest (day h i near a : Int) : Prop :=
  (∃ M, okM day h i M = true ∧ a = valM day h i M) ∧ ∀ M, okM day h i M = true → dist a near < dist (valM day h i M) near ∨ (dist a near = dist (valM day h i M) near ∧ a ≤ valM day h i M)
/-- What is known when the months from lo to before k have been looked at. -/
def Best (day h i near lo k b : Int) (f : Bool) : Prop :=
  (f = false ∧ ∀ M, lo ≤ M → M < k → okM day h i M = false) ∨
  (f = true ∧ ∃ A, lo ≤ A ∧ A < k ∧ okM day h i A = true ∧ b = valM day h i A ∧
    ∀ M, lo ≤ M → M < k → okM day h i M = true → dist b near < dist (valM day h i M) near ∨ (dist b near = dist (valM day h i M) near ∧ b ≤ valM day h i M))

theorem okM_iff {day h i M : Int} : okM day h i M = true ↔ (24000 ≤ M ∧ M ≤ 25199) ∧ 1 ≤ day ∧ day ≤ Cal.dim (M / 12) (M % 12 + 1) ∧ 0 ≤ h ∧ h ≤ 23 ∧ 0 ≤ i ∧ i ≤ 59 := by
  unfold okM; rw [Cal.vld_iff]; omega
theorem okM_bd {day h i M : Int} (h0 : okM day h i M = true) : 0 ≤ valM day h i M ∧ valM day h i M ≤ 52595999 := Cal.num_bd h0
theorem valM_eq (day h i M : Int) : valM day h i M = Cal.dnum (M / 12) (M % 12 + 1) day * 1440 + h * 60 + i := rfl
/-- Later months give later minutes. -/
theorem valM_lt {day h i A B : Int} (ha : okM day h i A = true) (hb : okM day h i B = true) (hab : A < B) : valM day h i A < valM day h i B := by
  have a := okM_iff.1 ha
  have b := okM_iff.1 hb
  have := @Cal.dnum_lt (A / 12) (A % 12 + 1) day (B / 12) (B % 12 + 1) day (by omega) (by omega) (by omega) (by omega) (by omega) (by omega) (by omega)
  rw [valM_eq, valM_eq]; omega
section
variable {y m d p q day h i A : Int}
theorem valM_before (hv : Cal.vld y m d p q = true) (ha : okM day h i A = true) (hlt : A < y * 12 + m - 1) : valM day h i A < Cal.num y m d p q := by
  obtain ⟨⟨a1, a2, a3, a4⟩, a5, a6, a7, a8, a9, a10⟩ := Cal.vld_iff.1 hv
  have a := okM_iff.1 ha
  have := @Cal.dnum_lt (A / 12) (A % 12 + 1) day y m d (by omega) (by omega) (by omega) (by omega) (by omega) (by omega) (by omega)
  rw [valM_eq, Cal.num_dnum]; omega
theorem valM_behind (hv : Cal.vld y m d p q = true) (ha : okM day h i A = true) (hlt : y * 12 + m - 1 < A) : Cal.num y m d p q < valM day h i A := by
  obtain ⟨⟨a1, a2, a3, a4⟩, a5, a6, a7, a8, a9, a10⟩ := Cal.vld_iff.1 hv
  have a := okM_iff.1 ha
  have := @Cal.dnum_lt y m d (A / 12) (A % 12 + 1) day (by omega) (by omega) (by omega) (by omega) (by omega) (by omega) (by omega)
  rw [valM_eq, Cal.num_dnum]; omega
end
/-- Of two months that follow each other one has the day. -/
theorem dim_two (y y' m m' : Int) (h1 : 1 ≤ m ∧ m ≤ 12) (h2 : m' = m + 1 ∨ (m = 12 ∧ m' = 1)) : Cal.dim y m = 31 ∨ Cal.dim y' m' = 31 := by
  have h : m = 1 ∨ m = 2 ∨ m = 3 ∨ m = 4 ∨ m = 5 ∨ m = 6 ∨ m = 7 ∨ m = 8 ∨ m = 9 ∨ m = 10 ∨ m = 11 ∨ m = 12 := by omega
  rcases h2 with h2 | ⟨_, h2⟩ <;> subst h2 <;> rcases h with h | h | h | h | h | h | h | h | h | h | h | h <;> subst h <;> simp [Cal.dim]
theorem ok_two {day h i A : Int} (hA : 24000 ≤ A) (hB : A ≤ 25198) (hd : 1 ≤ day ∧ day ≤ 31) (ht : Cal.tod h i = true) : okM day h i A = true ∨ okM day h i (A + 1) = true := by
  have ht' : 0 ≤ h ∧ h ≤ 23 ∧ 0 ≤ i ∧ i ≤ 59 := by unfold Cal.tod at ht; simpa using ht
  rcases dim_two (A / 12) ((A + 1) / 12) (A % 12 + 1) ((A + 1) % 12 + 1) (by omega) (by omega) with k | k
  · exact .inl (okM_iff.2 (by omega))
  · exact .inr (okM_iff.2 (by omega))

section
variable {day h i near lo k b : Int} {f : Bool}
theorem Best.start : Best day h i near lo lo 0 false := .inl ⟨rfl, fun M h1 h2 => by omega⟩
theorem Best.skip (hB : Best day h i near lo k b f) (hk : okM day h i k = false) : Best day h i near lo (k + 1) b f := by
  rcases hB with ⟨hf, hn⟩ | ⟨hf, A, h1, h2, h3, h4, h5⟩
  · refine .inl ⟨hf, fun M m1 m2 => ?_⟩
    by_cases e : M = k
    · rw [e]; exact hk
    · exact hn M m1 (by omega)
  · refine .inr ⟨hf, A, h1, by omega, h3, h4, fun M m1 m2 m3 => ?_⟩
    by_cases e : M = k
    · rw [e, hk] at m3; cases m3
    · exact h5 M m1 (by omega) m3
theorem Best.first (hB : Best day h i near lo k b false) (hlo : lo ≤ k) (hk : okM day h i k = true) : Best day h i near lo (k + 1) (valM day h i k) true := by
  rcases hB with ⟨_, hn⟩ | ⟨hf, _⟩
  · refine .inr ⟨rfl, k, hlo, by omega, hk, rfl, fun M m1 m2 m3 => ?_⟩
    by_cases e : M = k
    · rw [e]; exact .inr ⟨rfl, Int.le_refl _⟩
    · rw [hn M m1 (by omega)] at m3; cases m3
  · cases hf
theorem Best.better (hB : Best day h i near lo k b true) (hlo : lo ≤ k) (hk : okM day h i k = true) (hd : dist (valM day h i k) near < dist b near) : Best day h i near lo (k + 1) (valM day h i k) true := by
  rcases hB with ⟨hf, _⟩ | ⟨_, A, h1, h2, h3, h4, h5⟩
  · cases hf
  · refine .inr ⟨rfl, k, hlo, by omega, hk, rfl, fun M m1 m2 m3 => ?_⟩
    by_cases e : M = k
    · rw [e]; exact .inr ⟨rfl, Int.le_refl _⟩
    · have := h5 M m1 (by omega) m3
      omega
theorem Best.keep (hB : Best day h i near lo k b true) (hk : okM day h i k = true) (hd : ¬ dist (valM day h i k) near < dist b near) : Best day h i near lo (k + 1) b true := by
  rcases hB with ⟨hf, _⟩ | ⟨_, A, h1, h2, h3, h4, h5⟩
  · cases hf
  · refine .inr ⟨rfl, A, h1, by omega, h3, h4, fun M m1 m2 m3 => ?_⟩
    by_cases e : M = k
    · rw [e]
      have := valM_lt h3 hk h2
      omega
    · exact h5 M m1 (by omega) m3
theorem Best.nearest {y m d p q : Int} (hB : Best day h i near lo k b f) (hv : Cal.vld y m d p q = true) (hn : Cal.num y m d p q = near) (hlo : lo ≤ y * 12 + m - 1 - 2) (hhi : y * 12 + m - 1 + 3 ≤ k)
    (hd : 1 ≤ day ∧ day ≤ 31) (ht : Cal.tod h i = true) : Nearest day h i near b := by
  obtain ⟨⟨a1, a2, a3, a4⟩, -, -, -, -, -, -⟩ := Cal.vld_iff.1 hv
  generalize hM0 : y * 12 + m - 1 = M0 at hlo hhi
  have r1 : 24000 ≤ M0 := by omega
  have r2 : M0 ≤ 25199 := by omega
  have some_ok : ∃ A, lo ≤ A ∧ A < k ∧ okM day h i A = true := by
    by_cases e : M0 = 24000
    · rcases ok_two (A := M0) (by omega) (by omega) hd ht with h | h
      · exact ⟨_, by omega, by omega, h⟩
      · exact ⟨_, by omega, by omega, h⟩
    · rcases ok_two (A := M0 - 1) (by omega) (by omega) hd ht with h | h
      · exact ⟨_, by omega, by omega, h⟩
      · exact ⟨_, by omega, by omega, h⟩
  rcases hB with ⟨_, hno⟩ | ⟨_, A, h1, h2, h3, h4, h5⟩
  · obtain ⟨A, x1, x2, x3⟩ := some_ok
    rw [hno A x1 x2] at x3; cases x3
  · refine ⟨⟨A, h3, h4⟩, fun M hM => ?_⟩
    have hMr := (okM_iff.1 hM).1
    by_cases c1 : M < lo
    · have far : ∃ B, lo ≤ B ∧ B < k ∧ M < B ∧ B < M0 ∧ okM day h i B = true := by
        rcases ok_two (A := M0 - 2) (by omega) (by omega) hd ht with h | h
        · exact ⟨_, by omega, by omega, by omega, by omega, h⟩
        · exact ⟨_, by omega, by omega, by omega, by omega, h⟩
      obtain ⟨B, b1, b2, b3, b4, b5⟩ := far
      have e1 := valM_lt hM b5 b3
      have e2 := valM_before hv b5 (by omega)
      have e3 := h5 B b1 b2 b5
      rw [hn] at e2
      left
      have e4 : dist (valM day h i B) near < dist (valM day h i M) near := by unfold dist; omega
      omega
    · by_cases c2 : M < k
      · exact h5 M (by omega) c2 hM
      · have far : ∃ B, lo ≤ B ∧ B < k ∧ B < M ∧ M0 < B ∧ okM day h i B = true := by
          rcases ok_two (A := M0 + 1) (by omega) (by omega) hd ht with h | h
          · exact ⟨_, by omega, by omega, by omega, by omega, h⟩
          · exact ⟨_, by omega, by omega, by omega, by omega, h⟩
        obtain ⟨B, b1, b2, b3, b4, b5⟩ := far
        have e1 := valM_lt b5 hM b3
        have e2 := valM_behind hv b5 (by omega)
        have e3 := h5 B b1 b2 b5
        rw [hn] at e2
        left
        have e4 : dist (valM day h i B) near < dist (valM day h i M) near := by unfold dist; omega
        omega
end
theorem Nearest.unique {day h i near a b : Int} (ha : Nearest day h i near a) (hb : Nearest day h i near b) : a = b := by
  obtain ⟨⟨A, a1, a2⟩, a3⟩ := ha
  obtain ⟨⟨B, b1, b2⟩, b3⟩ := hb
  have x := a3 B b1
  have z := b3 A a1
  rw [← b2] at x
  rw [← a2] at z
  omega
theorem Nearest.bd {day h i near a : Int} (ha : Nearest day h i near a) : 0 ≤ a ∧ a ≤ 52595999 := by
  obtain ⟨⟨A, a1, a2⟩, _⟩ := ha
  rw [a2]; exact okM_bd a1
/-- A minute less than 14 days away is the nearest one with its day and time. -/
theorem nearest_near {y m d h i near : Int} (hv : Cal.vld y m d h i = true) (h1 : near - 20160 < Cal.num y m d h i) (h2 : Cal.num y m d h i < near + 20160) : Nearest d h i near (Cal.num y m d h i) := by
  obtain ⟨⟨a1, a2, a3, a4⟩, a5, a6, a7, a8, a9, a10⟩ := Cal.vld_iff.1 hv
  have hM : okM d h i (y * 12 + m - 1) = true := by
    unfold okM
    rw [show (y * 12 + m - 1) / 12 = y by omega, show (y * 12 + m - 1) % 12 + 1 = m by omega]; exact hv
  have hV : valM d h i (y * 12 + m - 1) = Cal.num y m d h i := by
    unfold valM
    rw [show (y * 12 + m - 1) / 12 = y by omega, show (y * 12 + m - 1) % 12 + 1 = m by omega]
  refine ⟨⟨_, hM, hV.symm⟩, fun M hm => ?_⟩
  have mono : ∀ A B, okM d h i A = true → okM d h i B = true → A < B → valM d h i A + 28 * 1440 ≤ valM d h i B := by
    intro A B hA hB hab
    have a := okM_iff.1 hA
    have b := okM_iff.1 hB
    have key : Cal.dnum (A / 12) (A % 12 + 1) d + Cal.dim (A / 12) (A % 12 + 1) ≤ Cal.dnum (B / 12) (B % 12 + 1) d := by
      by_cases e : A / 12 = B / 12
      · rw [← e]
        have := Cal.cum_lt (A / 12) (A % 12 + 1) (B % 12 + 1) (by omega) (by omega) (by omega)
        unfold Cal.dnum; omega
      · have x1 := Cal.cum_lt (A / 12) (A % 12 + 1) 13 (by omega) (by omega) (by omega)
        have x2 := Cal.dby_lt (A / 12) (B / 12) (by omega) (by omega)
        have x3 := Cal.cum_bd (B / 12) (B % 12 + 1) (by omega) (by omega)
        rw [Cal.cum_13] at x1
        unfold Cal.dnum; omega
    have := Cal.dim_bd (A / 12) (A % 12 + 1)
    rw [valM_eq, valM_eq]; omega
  by_cases c : M = y * 12 + m - 1
  · rw [c, hV]; exact .inr ⟨rfl, Int.le_refl _⟩
  · left
    rcases Int.lt_or_gt_of_ne c with c | c
    · have := mono _ _ hm hM c
      rw [hV] at this
      unfold dist; omega
    · have := mono _ _ hM hm c
      rw [hV] at this
      unfold dist; omega
end Go.Proofs.YtlakgkoohdfiaaaDoor.Ck


