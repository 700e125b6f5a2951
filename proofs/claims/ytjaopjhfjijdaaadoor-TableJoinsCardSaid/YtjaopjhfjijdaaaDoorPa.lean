/- Contracts of the small functions of package table: within, replication, kindOf, lacksElement, isFaulty, isLong, isNone, absent, valueOf. -/
import Derived.Test.YtjaopjhfjijdaaaDoorMm
import Derived.Test.YtjaopjhfjijdaaaDoorDesc
namespace Go.Proofs.YtjaopjhfjijdaaaDoor
open Go.RowKit

set_option maxHeartbeats 400000 in
theorem within_any (n a b : Int) (w : World) :
    Calls Tryd.prog 36 #[.int .i64 n, .int .i64 a, .int .i64 b] w fun e w' => e = .returned (.bool (decide (a ≤ n ∧ n ≤ b))) ∧ w = w' := by
  by_cases h1 : a ≤ n
  · by_cases h2 : n ≤ b
    · have e := decide_eq_true (p := a ≤ n ∧ n ≤ b) ⟨h1, h2⟩
      rw [e]; clear e
      go_enter Tryd.func36, Tryd.ntmps36
      go_wp2_with fail
      go_ret
      exact ⟨rfl, rfl⟩
    · have e := decide_eq_false (p := a ≤ n ∧ n ≤ b) (fun h => h2 h.2)
      rw [e]; clear e
      go_enter Tryd.func36, Tryd.ntmps36
      go_wp2_with fail
      go_ret
      exact ⟨rfl, rfl⟩
  · have e := decide_eq_false (p := a ≤ n ∧ n ≤ b) (fun h => h1 h.1)
    rw [e]; clear e
    go_enter Tryd.func36, Tryd.ntmps36
    go_wp2_with fail
    go_ret
    exact ⟨rfl, rfl⟩
set_option maxHeartbeats 400000 in
theorem replication_any (c : Int) (w : World) (h : I64 c) :
    Calls Tryd.prog 56 #[.int .i64 c] w fun e w' => e = .returned (.tuple #[.int .i64 (c.tdiv 100 - 200), .int .i64 (c.tmod 100)]) ∧ w = w' := by
  obtain ⟨h1, h2⟩ := h
  have e : -92233720368547759 ≤ c.tdiv 100 ∧ c.tdiv 100 ≤ 92233720368547759 := by
    rw [Int.tdiv_eq_ediv]
    have : Int.sign 100 = 1 := rfl
    split <;> omega
  by_cases h0 : 0 ≤ c
  · rw [Int.tdiv_eq_ediv_of_nonneg h0, Int.tmod_eq_emod_of_nonneg h0] at *
    go_enter Tryd.func56, Tryd.ntmps56
    go_wp2_with fail
    go_ret2
    exact ⟨rfl, rfl⟩
  · go_enter Tryd.func56, Tryd.ntmps56
    go_wp2_with fail
    go_ret2
    exact ⟨rfl, rfl⟩
theorem neg_div {c : Int} (h : c < 0) : c.tdiv 100 ≤ 0 := by
  rw [Int.tdiv_eq_ediv]
  have : Int.sign 100 = 1 := rfl
  split <;> omega
set_option maxHeartbeats 800000 in
theorem kindOf_any (c : Int) (w : World) (h : I64 c) :
    Calls Tryd.prog 53 #[.int .i64 c] w fun e w' => e = .returned (.int .i64 (knd c)) ∧ w = w' := by
  obtain ⟨k, hk⟩ : ∃ k, knd c = k := ⟨_, rfl⟩
  rw [hk]
  have HK := Lib.hid hk; clear hk
  have HR := Lib.hid (replication_any c w h)
  have HI := Lib.hid h
  clear h
  have e100 : Hid (0 ≤ c → c.tdiv 100 = c / 100 ∧ c.tmod 100 = c % 100) := Lib.hid (fun q => ⟨Int.tdiv_eq_ediv_of_nonneg q, Int.tmod_eq_emod_of_nonneg q⟩)
  have n100 : Hid (c < 0 → c.tdiv 100 ≤ 0) := Lib.hid (fun q => neg_div q)
  generalize c.tdiv 100 = q at *
  generalize c.tmod 100 = m at *
  go_enter Tryd.func53, Tryd.ntmps53
  go_wp2_with fail
  refine HR.out.mono ?_
  rintro e w1 ⟨rfl, rfl⟩
  clear HR
  go_upto_region 2 with fail
  by_cases a1 : 1 ≤ c ∧ c ≤ 9999
  · have HZ : Hid (k = 1) := Lib.hid (by rw [← HK.out]; exact knd_1.2 a1)
    have d1 := decide_eq_true a1
    go_wp2_with fail
    refine (within_any c 1 9999 _).mono ?_
    rintro e w1 ⟨rfl, rfl⟩
    rw [d1]
    go_wp2_with fail
    go_ret
    exact ⟨ret_i64 HZ.out.symm, rfl⟩
  have d1 := decide_eq_false a1
  go_wp2_with fail
  refine (within_any c 1 9999 _).mono ?_
  rintro e w1 ⟨rfl, rfl⟩
  rw [d1]
  clear d1
  by_cases a2 : 10000 ≤ c ∧ c ≤ 19999
  · have HZ : Hid (k = 2) := Lib.hid (by rw [← HK.out]; exact knd_2.2 a2)
    have d1 := decide_eq_true a2
    go_wp2_with fail
    refine (within_any c 10000 19999 _).mono ?_
    rintro e w1 ⟨rfl, rfl⟩
    rw [d1]
    go_wp2_with fail
    go_ret
    exact ⟨ret_i64 HZ.out.symm, rfl⟩
  have d1 := decide_eq_false a2
  go_wp2_with fail
  refine (within_any c 10000 19999 _).mono ?_
  rintro e w1 ⟨rfl, rfl⟩
  rw [d1]
  clear d1
  have E : Hid ((1 ≤ q - 200 ∧ q - 200 ≤ 20) ∧ (1 ≤ m ∧ m ≤ 20) ↔ 20101 ≤ c ∧ c ≤ 22020 ∧ 1 ≤ c % 100 ∧ c % 100 ≤ 20) := Lib.hid (by
    by_cases h0 : 0 ≤ c
    · obtain ⟨x, y⟩ := e100.out h0
      rw [x, y]
      omega
    · have := n100.out (by omega)
      omega)
  clear e100 n100
  by_cases a3 : 1 ≤ q - 200 ∧ q - 200 ≤ 20
  · have d1 := decide_eq_true a3
    go_wp2_with fail
    refine (within_any (q - 200) 1 20 _).mono ?_
    rintro e w1 ⟨rfl, rfl⟩
    rw [d1]
    clear d1
    by_cases a4 : 1 ≤ m ∧ m ≤ 20
    · have HZ : Hid (k = 3) := Lib.hid (by rw [← HK.out]; exact knd_3.2 (E.out.1 ⟨a3, a4⟩))
      have d1 := decide_eq_true a4
      go_wp2_with fail
      refine (within_any m 1 20 _).mono ?_
      rintro e w1 ⟨rfl, rfl⟩
      rw [d1]
      go_wp2_with fail
      go_ret
      exact ⟨ret_i64 HZ.out.symm, rfl⟩
    · have HZ : Hid (k = 0) := Lib.hid (by rw [← HK.out]; exact knd_0 a1 a2 (fun q => a4 (E.out.2 q).2))
      have d1 := decide_eq_false a4
      go_wp2_with fail
      refine (within_any m 1 20 _).mono ?_
      rintro e w1 ⟨rfl, rfl⟩
      rw [d1]
      go_wp2_with fail
      go_ret
      exact ⟨ret_i64 HZ.out.symm, rfl⟩
  · have HZ : Hid (k = 0) := Lib.hid (by rw [← HK.out]; exact knd_0 a1 a2 (fun q => a3 (E.out.2 q).1))
    have d1 := decide_eq_false a3
    go_wp2_with fail
    refine (within_any (q - 200) 1 20 _).mono ?_
    rintro e w1 ⟨rfl, rfl⟩
    rw [d1]
    go_wp2_with fail
    go_ret
    exact ⟨ret_i64 HZ.out.symm, rfl⟩
theorem isNone_any (c : Int) (w : World) (h : I64 c) :
    Calls Tryd.prog 62 #[.int .i64 c] w fun e w' => e = .returned (.bool (decide (knd c = 0))) ∧ Below w.heap.size w w' := by
  have HK := Lib.hid (kindOf_any c w h)
  clear h
  obtain ⟨k, hk⟩ : ∃ k, knd c = k := ⟨_, rfl⟩
  rw [hk] at HK ⊢
  clear hk
  go_enter Tryd.func62, Tryd.ntmps62
  go_wp2_with fail
  refine HK.out.mono ?_
  rintro e w1 ⟨rfl, rfl⟩
  go_wp2_with fail
  go_ret
  exact ⟨ret_bool (by by_cases q : k = 0 <;> simp [q]), Below.refl _ _⟩
end Go.Proofs.YtjaopjhfjijdaaaDoor
