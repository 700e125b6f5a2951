/- Contracts of the small functions of package table: within, replication, kindOf, lacksElement, isFaulty, isLong, isNone, absent, valueOf. Contracts of lacksElement, isFaulty, isLong, absent, valueOf. -/
import Derived.Test.YtjaopjhfjijdaaaDoorMm
import Derived.Test.YtjaopjhfjijdaaaDoorDesc
namespace Go.Proofs.YtjaopjhfjijdaaaDoor
open Go.RowKit

set_option maxHeartbeats 400000 in
theorem within_any (n a b : Int) (w : World) :
    Calls Tryd.prog 36 #[.int .i64 n, .int .i64 a, .int .i64 b] w fun e w' => e = .returned (.bool (decide (a ≤ n ∧ n ≤ b))) ∧ w = w' := by
  by_cases h1 : a ≤ n
  · by_cases h2 : n ≤ b
    · have e := decide_eq_true (p := a ≤ n ∧ n ≤ b) ⟨h1, h2⟩
      rw [e]; clear e
      go_enter Tryd.func36, Tryd.ntmps36
      go_wp2_with fail
      go_ret
      exact ⟨rfl, rfl⟩
    · have e := decide_eq_false (p := a ≤ n ∧ n ≤ b) (fun h => h2 h.2)
      rw [e]; clear e
      go_enter Tryd.func36, Tryd.ntmps36
      go_wp2_with fail
      go_ret
      exact ⟨rfl, rfl⟩
  · have e := decide_eq_false (p := a ≤ n ∧ n ≤ b) (fun h => h1 h.1)
    rw [e]; clear e
    go_enter Tryd.func36, Tryd.ntmps36
    go_wp2_with fail
    go_ret
    exact ⟨rfl, rfl⟩
set_option maxHeartbeats 400000 in
theorem replication_any (c : Int) (w : World) (h : I64 c) :
    Calls Tryd.prog 56 #[.int .i64 c] w fun e w' => e = .returned (.tuple #[.int .i64 (c.tdiv 100 - 200), .int .i64 (c.tmod 100)]) ∧ w = w' := by
  obtain ⟨h1, h2⟩ := h
  have e : -92233720368547759 ≤ c.tdiv 100 ∧ c.tdiv 100 ≤ 92233720368547759 := by
    rw [Int.tdiv_eq_ediv]
    have : Int.sign 100 = 1 := rfl
    split <;> omega
  by_cases h0 : 0 ≤ c
  · rw [Int.tdiv_eq_ediv_of_nonneg h0, Int.tmod_eq_emod_of_nonneg h0] at *
    go_enter Tryd.func56, Tryd.ntmps56
    go_wp2_with fail
    go_ret2
    exact ⟨rfl, rfl⟩
  · go_enter Tryd.func56, Tryd.ntmps56
    go_wp2_with fail
    go_ret2
    exact ⟨rfl, rfl⟩
theorem neg_div {c : Int} (h : c < 0) : c.tdiv 100 ≤ 0 := by
  rw [Int.tdiv_eq_ediv]
  have : Int.sign 100 = 1 := rfl
  split <;> omega
set_option maxHeartbeats 800000 in
theorem kindOf_any (c : Int) (w : World) (h : I64 c) :
    Calls Tryd.prog 53 #[.int .i64 c] w fun e w' => e = .returned (.int .i64 (knd c)) ∧ w = w' := by
  obtain ⟨k, hk⟩ : ∃ k, knd c = k := ⟨_, rfl⟩
  rw [hk]
  have HK := Lib.hid hk; clear hk
  have HR := Lib.hid (replication_any c w h)
  have HI := Lib.hid h
  clear h
  have e100 : Hid (0 ≤ c → c.tdiv 100 = c / 100 ∧ c.tmod 100 = c % 100) := Lib.hid (fun q => ⟨Int.tdiv_eq_ediv_of_nonneg q, Int.tmod_eq_emod_of_nonneg q⟩)
  have n100 : Hid (c < 0 → c.tdiv 100 ≤ 0) := Lib.hid (fun q => neg_div q)
  generalize c.tdiv 100 = q at *
  generalize c.tmod 100 = m at *
  go_enter Tryd.func53, Tryd.ntmps53
  go_wp2_with fail
  refine HR.out.mono ?_
  rintro e w1 ⟨rfl, rfl⟩
  clear HR
  go_upto_region 2 with fail
  by_cases a1 : 1 ≤ c ∧ c ≤ 9999
  · have HZ : Hid (k = 1) := Lib.hid (by rw [← HK.out]; exact knd_1.2 a1)
    have d1 := decide_eq_true a1
    go_wp2_with fail
    refine (within_any c 1 9999 _).mono ?_
    rintro e w1 ⟨rfl, rfl⟩
    rw [d1]
    go_wp2_with fail
    go_ret
    exact ⟨ret_i64 HZ.out.symm, rfl⟩
  have d1 := decide_eq_false a1
  go_wp2_with fail
  refine (within_any c 1 9999 _).mono ?_
  rintro e w1 ⟨rfl, rfl⟩
  rw [d1]
  clear d1
  by_cases a2 : 10000 ≤ c ∧ c ≤ 19999
  · have HZ : Hid (k = 2) := Lib.hid (by rw [← HK.out]; exact knd_2.2 a2)
    have d1 := decide_eq_true a2
    go_wp2_with fail
    refine (within_any c 10000 19999 _).mono ?_
    rintro e w1 ⟨rfl, rfl⟩
    rw [d1]
    go_wp2_with fail
    go_ret
    exact ⟨ret_i64 HZ.out.symm, rfl⟩
  have d1 := decide_eq_false a2
  go_wp2_with fail
  refine (within_any c 10000 19999 _).mono ?_
  rintro e w1 ⟨rfl, rfl⟩
  rw [d1]
  clear d1
  have E : Hid ((1 ≤ q - 200 ∧ q - 200 ≤ 20) ∧ (1 ≤ m ∧ m ≤ 20) ↔ 20101 ≤ c ∧ c ≤ 22020 ∧ 1 ≤ c % 100 ∧ c % 100 ≤ 20) := Lib.hid (by
    by_cases h0 : 0 ≤ c
    · obtain ⟨x, y⟩ := e100.out h0
      rw [x, y]
      omega
    · have := n100.out (by omega)
      omega)
  clear e100 n100
  by_cases a3 : 1 ≤ q - 200 ∧ q - 200 ≤ 20
  · have d1 := decide_eq_true a3
    go_wp2_with fail
    refine (within_any (q - 200) 1 20 _).mono ?_
    rintro e w1 ⟨rfl, rfl⟩
    rw [d1]
    clear d1
    by_cases a4 : 1 ≤ m ∧ m ≤ 20
    · have HZ : Hid (k = 3) := Lib.hid (by rw [← HK.out]; exact knd_3.2 (E.out.1 ⟨a3, a4⟩))
      have d1 := decide_eq_true a4
      go_wp2_with fail
      refine (within_any m 1 20 _).mono ?_
      rintro e w1 ⟨rfl, rfl⟩
      rw [d1]
      go_wp2_with fail
      go_ret
      exact ⟨ret_i64 HZ.out.symm, rfl⟩
    · have HZ : Hid (k = 0) := Lib.hid (by rw [← HK.out]; exact knd_0 a1 a2 (fun q => a4 (E.out.2 q).2))
      have d1 := decide_eq_false a4
      go_wp2_with fail
      refine (within_any m 1 20 _).mono ?_
      rintro e w1 ⟨rfl, rfl⟩
      rw [d1]
      go_wp2_with fail
      go_ret
      exact ⟨ret_i64 HZ.out.symm, rfl⟩
  · have HZ : Hid (k = 0) := Lib.hid (by rw [← HK.out]; exact knd_0 a1 a2 (fun q => a3 (E.out.2 q).1))
    have d1 := decide_eq_false a3
    go_wp2_with fail
    refine (within_any (q - 200) 1 20 _).mono ?_
    rintro e w1 ⟨rfl, rfl⟩
    rw [d1]
    go_wp2_with fail
    go_ret
    exact ⟨ret_i64 HZ.out.symm, rfl⟩
theorem isNone_any (c : Int) (w : World) (h : I64 c) :
    Calls Tryd.prog 62 #[.int .i64 c] w fun e w' => e = .returned (.bool (decide (knd c = 0))) ∧ Below w.heap.size w w' := by
  have HK := Lib.hid (kindOf_any c w h)
  clear h
  obtain ⟨k, hk⟩ : ∃ k, knd c = k := ⟨_, rfl⟩
  rw [hk] at HK ⊢
  clear hk
  go_enter Tryd.func62, Tryd.ntmps62
  go_wp2_with fail
  refine HK.out.mono ?_
  rintro e w1 ⟨rfl, rfl⟩
  go_wp2_with fail
  go_ret
  exact ⟨ret_bool (by by_cases q : k = 0 <;> simp [q]), Below.refl _ _⟩
end Go.Proofs.YtjaopjhfjijdaaaDoor
namespace Go.Proofs.YtjaopjhfjijdaaaDoor
open Go.RowKit

theorem alloc_below {a b : World} {B : Nat} (h : Below B a b) (hB : B ≤ b.heap.size) (o : Obj) : Below B a (b.alloc o) := h.alloc hB o
set_option maxHeartbeats 800000 in
theorem lacks_any (e : En) (w : World) (hT : Tab w) :
    Calls Tryd.prog 40 #[enV e] w fun x w' => x = .returned (.bool (decide (¬ Elt.Ex e.2.1))) ∧ Below w.heap.size w w' := by
  obtain ⟨c, el, wd, sc, ls⟩ := e
  simp only
  obtain ⟨z, hz⟩ : ∃ z, decide (¬ Elt.Ex el) = z := ⟨_, rfl⟩
  rw [hz]
  have HZ := Lib.hid hz; clear hz
  have b1 : Below w.heap.size w (w.alloc (.cells #[.int .i64 c, .int .i64 el, .int .i64 wd, .int .i64 sc, .int .i64 ls] 47)) := (Below.refl _ _).alloc (Nat.le_refl _) _
  have r1 := Row.new w #[.int .i64 c, .int .i64 el, .int .i64 wd, .int .i64 sc, .int .i64 ls] 47
  have T1 := Lib.hid (hT.under b1)
  clear hT
  obtain ⟨p0, p1, p2, p3, p4⟩ := row5 r1
  clear p0 p2 p3 p4
  go_enter Tryd.func40, Tryd.ntmps40
  go_upto_region 1 with fail
  generalize w.alloc (.cells #[.int .i64 c, .int .i64 el, .int .i64 wd, .int .i64 sc, .int .i64 ls] 47) = W1 at *
  have B1 := Lib.hid b1
  clear r1 b1
  by_cases hx : Elt.Ex el
  · have HN := Lib.hid (HZ.out.symm.trans (decide_eq_false (not_not_intro hx)))
    have HD := Lib.hid (describe_yes el W1 hx T1.out)
    clear hx T1
    go_wp2_with fail
    refine HD.out.mono ?_
    rintro x w2 ⟨rfl, g2⟩
    have B2 := Lib.hid (B1.out.trans (g2.mono B1.out.size)); clear g2 p1
    go_wp2_with fail
    go_ret
    exact ⟨ret_bool HN.out.symm, B2.out.alloc B2.out.size _⟩
  · have HN := Lib.hid (HZ.out.symm.trans (decide_eq_true hx))
    have HD := Lib.hid (describe_no el W1 hx)
    clear hx T1
    go_wp2_with fail
    refine HD.out.mono ?_
    rintro x w2 ⟨rfl, g2⟩
    have B2 := Lib.hid (B1.out.trans (g2.mono B1.out.size)); clear g2 p1
    go_wp2_with fail
    go_ret
    exact ⟨ret_bool HN.out.symm, B2.out.alloc B2.out.size _⟩
set_option maxHeartbeats 2000000 in
theorem isFaulty_any (e : En) (w : World) (hT : Tab w) (hI : I64 e.1) :
    Calls Tryd.prog 41 #[enV e] w fun x w' => x = .returned (.bool (decide (¬ okE e))) ∧ Below w.heap.size w w' := by
  have HL := Lib.hid (fun W (h : Tab W) => lacks_any e W h)
  obtain ⟨z, hz⟩ : ∃ z, decide (¬ okE e) = z := ⟨_, rfl⟩
  rw [hz]
  have HE : Hid (decide (¬ okE e) = z) := Lib.hid hz
  clear hz
  obtain ⟨c, el, wd, sc, ls⟩ := e
  have HV0 : okE (c, el, wd, sc, ls) ↔ knd c = 1 ∧ Elt.Ex el ∧ (2 ≤ wd ∧ wd ≤ 24) ∧ (1 ≤ sc ∧ sc ≤ 1000) ∧ -100000 ≤ ls ∧ ls ≤ 100000 := by
    unfold okE vE
    simp only
    constructor
    · rintro ⟨a, b, c, d, e, f, g, h⟩; exact ⟨b, a, ⟨c, d⟩, ⟨e, f⟩, g, h⟩
    · rintro ⟨b, a, ⟨c, d⟩, ⟨e, f⟩, g, h⟩; exact ⟨a, b, c, d, e, f, g, h⟩
  have HV : Hid ((knd c = 1 ∧ Elt.Ex el ∧ (2 ≤ wd ∧ wd ≤ 24) ∧ (1 ≤ sc ∧ sc ≤ 1000) ∧ -100000 ≤ ls ∧ ls ≤ 100000 → z = false) ∧ (¬ (knd c = 1 ∧ Elt.Ex el ∧ (2 ≤ wd ∧ wd ≤ 24) ∧ (1 ≤ sc ∧ sc ≤ 1000) ∧ -100000 ≤ ls ∧ ls ≤ 100000) → z = true)) := Lib.hid ⟨fun q => HE.out.symm.trans (decide_eq_false (not_not_intro (HV0.2 q))), fun q => HE.out.symm.trans (decide_eq_true (fun q' => q (HV0.1 q')))⟩
  clear HE HV0
  simp only [enV] at HL ⊢
  have HKd := Lib.hid (fun W => kindOf_any c W hI)
  clear hI
  have b1 : Below w.heap.size w (w.alloc (.cells #[.int .i64 c, .int .i64 el, .int .i64 wd, .int .i64 sc, .int .i64 ls] 47)) := (Below.refl _ _).alloc (Nat.le_refl _) _
  have r1 := Row.new w #[.int .i64 c, .int .i64 el, .int .i64 wd, .int .i64 sc, .int .i64 ls] 47
  have T1 := Lib.hid (hT.under b1)
  clear hT
  go_enter Tryd.func41, Tryd.ntmps41
  go_upto_region 1 with fail
  generalize w.alloc (.cells #[.int .i64 c, .int .i64 el, .int .i64 wd, .int .i64 sc, .int .i64 ls] 47) = W1 at *
  generalize w.heap.size = gb at r1 ⊢
  obtain ⟨p0, p1, p2, p3, p4⟩ := row5 r1
  have R1 := Lib.hid r1
  have B1 := Lib.hid b1
  clear r1 b1
  obtain ⟨k, hk⟩ : ∃ k, knd c = k := ⟨_, rfl⟩
  rw [hk] at HKd HV
  clear hk
  go_wp2_with fail
  refine (HKd.out _).mono ?_
  rintro x w2 ⟨rfl, rfl⟩
  clear HKd
  by_cases hk : k = 1
  case neg =>
    have HN := Lib.hid (HV.out.2 (fun q => hk q.1))
    clear HV HL
    go_wp2_with fail
    go_ret
    exact ⟨ret_bool HN.out.symm, B1.out⟩
  subst hk
  by_cases hx : Elt.Ex el
  case neg =>
    have HN := Lib.hid (HV.out.2 (fun q => hx q.2.1))
    have HD := HL.out _ T1.out
    rw [decide_eq_true hx] at HD
    have HD := Lib.hid HD
    clear HL
    go_wp2_with fail
    refine HD.out.mono ?_
    rintro x w3 ⟨rfl, g3⟩
    have B3 := Lib.hid (B1.out.trans (g3.mono B1.out.size))
    clear g3 p0 p1 p2 p3 p4
    go_wp2_with fail
    go_ret
    exact ⟨ret_bool HN.out.symm, B3.out⟩
  have HD := HL.out _ T1.out
  rw [decide_eq_false (not_not_intro hx)] at HD
  have HD := Lib.hid HD
  clear HL
  go_wp2_with fail
  refine HD.out.mono ?_
  rintro x w3 ⟨rfl, g3⟩
  have B3 := Lib.hid (B1.out.trans (g3.mono B1.out.size))
  obtain ⟨p0, p1, p2, p3, p4⟩ := row5 (R1.out.under g3)
  clear g3 p0 p1 HD
  by_cases h0 : 2 ≤ wd ∧ wd ≤ 24
  case neg =>
    have HN := Lib.hid (HV.out.2 (fun q => h0 q.2.2.1))
    have d1 := decide_eq_false h0
    go_wp2_with fail
    refine (within_any wd 2 24 _).mono ?_
    rintro x w4 ⟨rfl, rfl⟩
    rw [d1]
    go_wp2_with fail
    go_ret
    exact ⟨ret_bool HN.out.symm, B3.out⟩
  have d5 := decide_eq_true h0
  go_wp2_with fail
  refine (within_any wd 2 24 _).mono ?_
  rintro x w4 ⟨rfl, rfl⟩
  rw [d5]
  clear d5
  by_cases h1 : 1 ≤ sc ∧ sc ≤ 1000
  case neg =>
    have HN := Lib.hid (HV.out.2 (fun q => h1 q.2.2.2.1))
    have d1 := decide_eq_false h1
    go_wp2_with fail
    refine (within_any sc 1 1000 _).mono ?_
    rintro x w4 ⟨rfl, rfl⟩
    rw [d1]
    go_wp2_with fail
    go_ret
    exact ⟨ret_bool HN.out.symm, B3.out⟩
  have d6 := decide_eq_true h1
  go_wp2_with fail
  refine (within_any sc 1 1000 _).mono ?_
  rintro x w4 ⟨rfl, rfl⟩
  rw [d6]
  clear d6
  by_cases h2 : (-100000) ≤ ls ∧ ls ≤ 100000
  case neg =>
    have HN := Lib.hid (HV.out.2 (fun q => h2 q.2.2.2.2))
    have d1 := decide_eq_false h2
    go_wp2_with fail
    refine (within_any ls (-100000) 100000 _).mono ?_
    rintro x w4 ⟨rfl, rfl⟩
    rw [d1]
    go_wp2_with fail
    go_ret
    exact ⟨ret_bool HN.out.symm, B3.out⟩
  have d7 := decide_eq_true h2
  go_wp2_with fail
  refine (within_any ls (-100000) 100000 _).mono ?_
  rintro x w4 ⟨rfl, rfl⟩
  rw [d7]
  clear d7
  have HN := Lib.hid (HV.out.1 ⟨by first | rfl | trivial, hx, h0, h1, h2⟩)
  go_wp2_with fail
  go_ret
  exact ⟨ret_bool HN.out.symm, B3.out⟩
set_option maxHeartbeats 800000 in
theorem isLong_any (c : Int) (u : Value) (C : List Int) (w : World) (hu : NmIn w u C) :
    Calls Tryd.prog 38 #[.agg #[.int .i64 c, u]] w fun x w' => x = .returned (.bool (decide (20 < C.length))) ∧ Below w.heap.size w w' := by
  obtain ⟨A, cap, rfl, h2, h3, -⟩ := hu
  have b1 : Below w.heap.size w (w.alloc (.cells #[.int .i64 c, .slice A C.length cap] 58)) := (Below.refl _ _).alloc (Nat.le_refl _) _
  have e : decide (20 < C.length) = decide ((20 : Int) < (C.length : Int)) := decide_eq_decide.2 (by omega)
  rw [e]
  clear e
  go_enter Tryd.func38, Tryd.ntmps38
  go_wp2_with fail
  go_ret
  exact ⟨by first | rfl | trivial, b1⟩
end Go.Proofs.YtjaopjhfjijdaaaDoor
