/- Contracts of lacksElement, isFaulty, isLong, absent, valueOf. -/
import Derived.Test.YtjaopjhfjijdaaaDoorPa
namespace Go.Proofs.YtjaopjhfjijdaaaDoor
open Go.RowKit

theorem alloc_below {a b : World} {B : Nat} (h : Below B a b) (hB : B ≤ b.heap.size) (o : Obj) : Below B a (b.alloc o) := h.alloc hB o
set_option maxHeartbeats 800000 in
theorem lacks_any (e : En) (w : World) (hT : Tab w) :
    Calls Tryd.prog 40 #[enV e] w fun x w' => x = .returned (.bool (decide (¬ Elt.Ex e.2.1))) ∧ Below w.heap.size w w' := by
  obtain ⟨c, el, wd, sc, ls⟩ := e
  simp only
  obtain ⟨z, hz⟩ : ∃ z, decide (¬ Elt.Ex el) = z := ⟨_, rfl⟩
  rw [hz]
  have HZ := Lib.hid hz; clear hz
  have b1 : Below w.heap.size w (w.alloc (.cells #[.int .i64 c, .int .i64 el, .int .i64 wd, .int .i64 sc, .int .i64 ls] 47)) := (Below.refl _ _).alloc (Nat.le_refl _) _
  have r1 := Row.new w #[.int .i64 c, .int .i64 el, .int .i64 wd, .int .i64 sc, .int .i64 ls] 47
  have T1 := Lib.hid (hT.under b1)
  clear hT
  obtain ⟨p0, p1, p2, p3, p4⟩ := row5 r1
  clear p0 p2 p3 p4
  go_enter Tryd.func40, Tryd.ntmps40
  go_upto_region 1 with fail
  generalize w.alloc (.cells #[.int .i64 c, .int .i64 el, .int .i64 wd, .int .i64 sc, .int .i64 ls] 47) = W1 at *
  have B1 := Lib.hid b1
  clear r1 b1
  by_cases hx : Elt.Ex el
  · have HN := Lib.hid (HZ.out.symm.trans (decide_eq_false (not_not_intro hx)))
    have HD := Lib.hid (describe_yes el W1 hx T1.out)
    clear hx T1
    go_wp2_with fail
    refine HD.out.mono ?_
    rintro x w2 ⟨rfl, g2⟩
    have B2 := Lib.hid (B1.out.trans (g2.mono B1.out.size)); clear g2 p1
    go_wp2_with fail
    go_ret
    exact ⟨ret_bool HN.out.symm, B2.out.alloc B2.out.size _⟩
  · have HN := Lib.hid (HZ.out.symm.trans (decide_eq_true hx))
    have HD := Lib.hid (describe_no el W1 hx)
    clear hx T1
    go_wp2_with fail
    refine HD.out.mono ?_
    rintro x w2 ⟨rfl, g2⟩
    have B2 := Lib.hid (B1.out.trans (g2.mono B1.out.size)); clear g2 p1
    go_wp2_with fail
    go_ret
    exact ⟨ret_bool HN.out.symm, B2.out.alloc B2.out.size _⟩
set_option maxHeartbeats 2000000 in
theorem isFaulty_any (e : En) (w : World) (hT : Tab w) (hI : I64 e.1) :
    Calls Tryd.prog 41 #[enV e] w fun x w' => x = .returned (.bool (decide (¬ okE e))) ∧ Below w.heap.size w w' := by
  have HL := Lib.hid (fun W (h : Tab W) => lacks_any e W h)
  obtain ⟨z, hz⟩ : ∃ z, decide (¬ okE e) = z := ⟨_, rfl⟩
  rw [hz]
  have HE : Hid (decide (¬ okE e) = z) := Lib.hid hz
  clear hz
  obtain ⟨c, el, wd, sc, ls⟩ := e
  have HV0 : okE (c, el, wd, sc, ls) ↔ knd c = 1 ∧ Elt.Ex el ∧ (2 ≤ wd ∧ wd ≤ 24) ∧ (1 ≤ sc ∧ sc ≤ 1000) ∧ -100000 ≤ ls ∧ ls ≤ 100000 := by
    unfold okE vE
    simp only
    constructor
    · rintro ⟨a, b, c, d, e, f, g, h⟩; exact ⟨b, a, ⟨c, d⟩, ⟨e, f⟩, g, h⟩
    · rintro ⟨b, a, ⟨c, d⟩, ⟨e, f⟩, g, h⟩; exact ⟨a, b, c, d, e, f, g, h⟩
  have HV : Hid ((knd c = 1 ∧ Elt.Ex el ∧ (2 ≤ wd ∧ wd ≤ 24) ∧ (1 ≤ sc ∧ sc ≤ 1000) ∧ -100000 ≤ ls ∧ ls ≤ 100000 → z = false) ∧ (¬ (knd c = 1 ∧ Elt.Ex el ∧ (2 ≤ wd ∧ wd ≤ 24) ∧ (1 ≤ sc ∧ sc ≤ 1000) ∧ -100000 ≤ ls ∧ ls ≤ 100000) → z = true)) := Lib.hid ⟨fun q => HE.out.symm.trans (decide_eq_false (not_not_intro (HV0.2 q))), fun q => HE.out.symm.trans (decide_eq_true (fun q' => q (HV0.1 q')))⟩
  clear HE HV0
  simp only [enV] at HL ⊢
  have HKd := Lib.hid (fun W => kindOf_any c W hI)
  clear hI
  have b1 : Below w.heap.size w (w.alloc (.cells #[.int .i64 c, .int .i64 el, .int .i64 wd, .int .i64 sc, .int .i64 ls] 47)) := (Below.refl _ _).alloc (Nat.le_refl _) _
  have r1 := Row.new w #[.int .i64 c, .int .i64 el, .int .i64 wd, .int .i64 sc, .int .i64 ls] 47
  have T1 := Lib.hid (hT.under b1)
  clear hT
  go_enter Tryd.func41, Tryd.ntmps41
  go_upto_region 1 with fail
  generalize w.alloc (.cells #[.int .i64 c, .int .i64 el, .int .i64 wd, .int .i64 sc, .int .i64 ls] 47) = W1 at *
  generalize w.heap.size = gb at r1 ⊢
  obtain ⟨p0, p1, p2, p3, p4⟩ := row5 r1
  have R1 := Lib.hid r1
  have B1 := Lib.hid b1
  clear r1 b1
  obtain ⟨k, hk⟩ : ∃ k, knd c = k := ⟨_, rfl⟩
  rw [hk] at HKd HV
  clear hk
  go_wp2_with fail
  refine (HKd.out _).mono ?_
  rintro x w2 ⟨rfl, rfl⟩
  clear HKd
  by_cases hk : k = 1
  case neg =>
    have HN := Lib.hid (HV.out.2 (fun q => hk q.1))
    clear HV HL
    go_wp2_with fail
    go_ret
    exact ⟨ret_bool HN.out.symm, B1.out⟩
  subst hk
  by_cases hx : Elt.Ex el
  case neg =>
    have HN := Lib.hid (HV.out.2 (fun q => hx q.2.1))
    have HD := HL.out _ T1.out
    rw [decide_eq_true hx] at HD
    have HD := Lib.hid HD
    clear HL
    go_wp2_with fail
    refine HD.out.mono ?_
    rintro x w3 ⟨rfl, g3⟩
    have B3 := Lib.hid (B1.out.trans (g3.mono B1.out.size))
    clear g3 p0 p1 p2 p3 p4
    go_wp2_with fail
    go_ret
    exact ⟨ret_bool HN.out.symm, B3.out⟩
  have HD := HL.out _ T1.out
  rw [decide_eq_false (not_not_intro hx)] at HD
  have HD := Lib.hid HD
  clear HL
  go_wp2_with fail
  refine HD.out.mono ?_
  rintro x w3 ⟨rfl, g3⟩
  have B3 := Lib.hid (B1.out.trans (g3.mono B1.out.size))
  obtain ⟨p0, p1, p2, p3, p4⟩ := row5 (R1.out.under g3)
  clear g3 p0 p1 HD
  by_cases h0 : 2 ≤ wd ∧ wd ≤ 24
  case neg =>
    have HN := Lib.hid (HV.out.2 (fun q => h0 q.2.2.1))
    have d1 := decide_eq_false h0
    go_wp2_with fail
    refine (within_any wd 2 24 _).mono ?_
    rintro x w4 ⟨rfl, rfl⟩
    rw [d1]
    go_wp2_with fail
    go_ret
    exact ⟨ret_bool HN.out.symm, B3.out⟩
  have d5 := decide_eq_true h0
  go_wp2_with fail
  refine (within_any wd 2 24 _).mono ?_
  rintro x w4 ⟨rfl, rfl⟩
  rw [d5]
  clear d5
  by_cases h1 : 1 ≤ sc ∧ sc ≤ 1000
  case neg =>
    have HN := Lib.hid (HV.out.2 (fun q => h1 q.2.2.2.1))
    have d1 := decide_eq_false h1
    go_wp2_with fail
    refine (within_any sc 1 1000 _).mono ?_
    rintro x w4 ⟨rfl, rfl⟩
    rw [d1]
    go_wp2_with fail
    go_ret
    exact ⟨ret_bool HN.out.symm, B3.out⟩
  have d6 := decide_eq_true h1
  go_wp2_with fail
  refine (within_any sc 1 1000 _).mono ?_
  rintro x w4 ⟨rfl, rfl⟩
  rw [d6]
  clear d6
  by_cases h2 : (-100000) ≤ ls ∧ ls ≤ 100000
  case neg =>
    have HN := Lib.hid (HV.out.2 (fun q => h2 q.2.2.2.2))
    have d1 := decide_eq_false h2
    go_wp2_with fail
    refine (within_any ls (-100000) 100000 _).mono ?_
    rintro x w4 ⟨rfl, rfl⟩
    rw [d1]
    go_wp2_with fail
    go_ret
    exact ⟨ret_bool HN.out.symm, B3.out⟩
  have d7 := decide_eq_true h2
  go_wp2_with fail
  refine (within_any ls (-100000) 100000 _).mono ?_
  rintro x w4 ⟨rfl, rfl⟩
  rw [d7]
  clear d7
  have HN := Lib.hid (HV.out.1 ⟨by first | rfl | trivial, hx, h0, h1, h2⟩)
  go_wp2_with fail
  go_ret
  exact ⟨ret_bool HN.out.symm, B3.out⟩
set_option maxHeartbeats 800000 in
theorem isLong_any (c : Int) (u : Value) (C : List Int) (w : World) (hu : NmIn w u C) :
    Calls Tryd.prog 38 #[.agg #[.int .i64 c, u]] w fun x w' => x = .returned (.bool (decide (20 < C.length))) ∧ Below w.heap.size w w' := by
  obtain ⟨A, cap, rfl, h2, h3, -⟩ := hu
  have b1 : Below w.heap.size w (w.alloc (.cells #[.int .i64 c, .slice A C.length cap] 58)) := (Below.refl _ _).alloc (Nat.le_refl _) _
  have e : decide (20 < C.length) = decide ((20 : Int) < (C.length : Int)) := decide_eq_decide.2 (by omega)
  rw [e]
  clear e
  go_enter Tryd.func38, Tryd.ntmps38
  go_wp2_with fail
  go_ret
  exact ⟨by first | rfl | trivial, b1⟩
end Go.Proofs.YtjaopjhfjijdaaaDoor
