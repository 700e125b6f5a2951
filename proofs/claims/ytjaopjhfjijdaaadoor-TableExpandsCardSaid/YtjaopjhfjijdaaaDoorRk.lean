/- Contracts of the reference's kind, valid, ValidEntry, Encode and Decode. -/
import Derived.Test.YtjaopjhfjijdaaaDoorEn
import Derived.Test.YtjaopjhfjijdaaaDoorRDesc
namespace Go.Proofs.YtjaopjhfjijdaaaDoor
open Go.RowKit

set_option maxHeartbeats 1000000 in
theorem refKind_any (c : Int) (w : World) (h : I64 c) :
    Calls Tryd.prog 44 #[.int .i64 c] w fun e w' => e = .returned (.int .i64 (knd c)) ∧ w = w' := by
  obtain ⟨k, hk⟩ : ∃ k, knd c = k := ⟨_, rfl⟩
  rw [hk]
  have HK := Lib.hid hk; clear hk
  obtain ⟨h1, h2⟩ := h
  by_cases a1 : 1 ≤ c
  case neg =>
    have HN : Hid (k = 0) := Lib.hid (by rw [← HK.out]; exact knd_0 (by omega) (by omega) (by omega))
    have a2 : ¬ 10000 ≤ c := by omega
    have a3 : ¬ 20000 < c := by omega
    generalize knd c = kk at HK
    go_enter Tryd.func44, Tryd.ntmps44
    go_wp2_with fail
    go_ret
    exact ⟨ret_i64 HN.out.symm, rfl⟩
  by_cases a2 : c ≤ 9999
  · have HN : Hid (k = 1) := Lib.hid (by rw [← HK.out]; exact knd_1.2 (by omega))
    go_enter Tryd.func44, Tryd.ntmps44
    go_wp2_with fail
    go_ret
    exact ⟨ret_i64 HN.out.symm, rfl⟩
  have a3 : 10000 ≤ c := by omega
  by_cases a4 : c ≤ 19999
  · have HN : Hid (k = 2) := Lib.hid (by rw [← HK.out]; exact knd_2.2 (by omega))
    go_enter Tryd.func44, Tryd.ntmps44
    go_wp2_with fail
    go_ret
    exact ⟨ret_i64 HN.out.symm, rfl⟩
  by_cases a5 : 20000 < c
  case neg =>
    obtain rfl : c = 20000 := by omega
    have HN : Hid (k = 0) := Lib.hid (by rw [← HK.out]; exact knd_0 (by omega) (by omega) (by omega))
    clear a1 a2 a3 a4 a5 h1 h2
    go_enter Tryd.func44, Tryd.ntmps44
    go_wp2_with fail
    go_ret
    exact ⟨ret_i64 HN.out.symm, rfl⟩
  obtain ⟨d, hd⟩ : ∃ d, c - 20000 = d := ⟨_, rfl⟩
  have d0 : 0 ≤ d := by omega
  have HD := Lib.hid hd; clear hd
  obtain ⟨X, hX⟩ : ∃ X, d / 100 = X := ⟨_, rfl⟩
  obtain ⟨Y, hY⟩ : ∃ Y, d % 100 = Y := ⟨_, rfl⟩
  have E : Hid ((1 ≤ X ∧ X ≤ 20 ∧ 1 ≤ Y ∧ Y ≤ 20) ↔ (20101 ≤ c ∧ c ≤ 22020 ∧ 1 ≤ c % 100 ∧ c % 100 ≤ 20)) := Lib.hid (by have := HD.out; omega)
  have EX : Hid (d / 100 = X ∧ d % 100 = Y) := Lib.hid ⟨hX, hY⟩
  clear hX hY
  have run : ∀ (z : Int), (z = 3 ↔ (1 ≤ X ∧ X ≤ 20 ∧ 1 ≤ Y ∧ Y ≤ 20)) → (z = 3 ∨ z = 0) → k = z := by
    intro z h3 h0
    rw [← HK.out]
    rcases h0 with rfl | rfl
    · exact knd_3.2 (E.out.1 (h3.1 rfl))
    · exact knd_0 (by omega) (by omega) (fun q => by have := h3.2 (E.out.2 q); omega)
  have RUN := Lib.hid run; clear run
  by_cases b1 : 1 ≤ X
  case neg =>
    have HN : Hid (k = 0) := Lib.hid (RUN.out 0 (by omega) (by omega))
    go_enter Tryd.func44, Tryd.ntmps44
    go_upto_region 6 with fail
    rw [HD.out]
    rw [EX.out.1, EX.out.2]
    go_wp2_with fail
    go_ret
    exact ⟨ret_i64 HN.out.symm, rfl⟩
  by_cases b2 : X ≤ 20
  case neg =>
    have HN : Hid (k = 0) := Lib.hid (RUN.out 0 (by omega) (by omega))
    go_enter Tryd.func44, Tryd.ntmps44
    go_upto_region 6 with fail
    rw [HD.out]
    rw [EX.out.1, EX.out.2]
    go_wp2_with fail
    go_ret
    exact ⟨ret_i64 HN.out.symm, rfl⟩
  by_cases b3 : 1 ≤ Y
  case neg =>
    have HN : Hid (k = 0) := Lib.hid (RUN.out 0 (by omega) (by omega))
    go_enter Tryd.func44, Tryd.ntmps44
    go_upto_region 6 with fail
    rw [HD.out]
    rw [EX.out.1, EX.out.2]
    go_wp2_with fail
    go_ret
    exact ⟨ret_i64 HN.out.symm, rfl⟩
  by_cases b4 : Y ≤ 20
  case neg =>
    have HN : Hid (k = 0) := Lib.hid (RUN.out 0 (by omega) (by omega))
    go_enter Tryd.func44, Tryd.ntmps44
    go_upto_region 6 with fail
    rw [HD.out]
    rw [EX.out.1, EX.out.2]
    go_wp2_with fail
    go_ret
    exact ⟨ret_i64 HN.out.symm, rfl⟩
  have HN : Hid (k = 3) := Lib.hid (RUN.out 3 (by omega) (by omega))
  go_enter Tryd.func44, Tryd.ntmps44
  go_upto_region 6 with fail
  rw [HD.out]
  rw [EX.out.1, EX.out.2]
  go_wp2_with fail
  go_ret
  exact ⟨ret_i64 HN.out.symm, rfl⟩
set_option maxHeartbeats 2000000 in
theorem refValid_any (e : En) (w : World) (hI : I64 e.1) :
    Calls Tryd.prog 43 #[enV e] w fun x w' => x = .returned (.bool (decide (vE e))) ∧ Below w.heap.size w w' := by
  obtain ⟨z, hz⟩ : ∃ z, decide (vE e) = z := ⟨_, rfl⟩
  rw [hz]
  have HE : Hid (decide (vE e) = z) := Lib.hid hz
  clear hz
  obtain ⟨c, el, wd, sc, ls⟩ := e
  have HV : Hid ((knd c = 1 ∧ 2 ≤ wd ∧ wd ≤ 24 ∧ 1 ≤ sc ∧ sc ≤ 1000 ∧ -100000 ≤ ls ∧ ls ≤ 100000 → z = true) ∧ (¬ (knd c = 1 ∧ 2 ≤ wd ∧ wd ≤ 24 ∧ 1 ≤ sc ∧ sc ≤ 1000 ∧ -100000 ≤ ls ∧ ls ≤ 100000) → z = false)) := Lib.hid ⟨fun q => HE.out.symm.trans (decide_eq_true q), fun q => HE.out.symm.trans (decide_eq_false q)⟩
  clear HE
  simp only [enV]
  have HKd := Lib.hid (fun W => refKind_any c W hI)
  clear hI
  have b1 : Below w.heap.size w (w.alloc (.cells #[.int .i64 c, .int .i64 el, .int .i64 wd, .int .i64 sc, .int .i64 ls] 47)) := (Below.refl _ _).alloc (Nat.le_refl _) _
  have r1 := Row.new w #[.int .i64 c, .int .i64 el, .int .i64 wd, .int .i64 sc, .int .i64 ls] 47
  go_enter Tryd.func43, Tryd.ntmps43
  go_upto_region 1 with fail
  generalize w.alloc (.cells #[.int .i64 c, .int .i64 el, .int .i64 wd, .int .i64 sc, .int .i64 ls] 47) = W1 at *
  generalize w.heap.size = gb at r1 ⊢
  obtain ⟨p0, p1, p2, p3, p4⟩ := row5 r1
  have B1 := Lib.hid b1
  clear r1 b1
  obtain ⟨k, hk⟩ : ∃ k, knd c = k := ⟨_, rfl⟩
  rw [hk] at HKd HV
  clear hk
  go_wp2_with fail
  refine (HKd.out _).mono ?_
  rintro x w2 ⟨rfl, rfl⟩
  clear HKd
  by_cases h0 : k = 1
  case neg =>
    have HN := Lib.hid (HV.out.2 (fun q => h0 q.1))
    clear HV
    go_wp2_with fail
    go_ret
    exact ⟨ret_bool (by first | exact HN.out.symm | exact (decide_eq_false (by omega)).trans HN.out.symm), B1.out⟩
  by_cases h1 : 2 ≤ wd
  case neg =>
    have HN := Lib.hid (HV.out.2 (fun q => h1 q.2.1))
    clear HV
    go_wp2_with fail
    go_ret
    exact ⟨ret_bool (by first | exact HN.out.symm | exact (decide_eq_false (by omega)).trans HN.out.symm), B1.out⟩
  by_cases h2 : wd ≤ 24
  case neg =>
    have HN := Lib.hid (HV.out.2 (fun q => h2 q.2.2.1))
    clear HV
    go_wp2_with fail
    go_ret
    exact ⟨ret_bool (by first | exact HN.out.symm | exact (decide_eq_false (by omega)).trans HN.out.symm), B1.out⟩
  by_cases h3 : 1 ≤ sc
  case neg =>
    have HN := Lib.hid (HV.out.2 (fun q => h3 q.2.2.2.1))
    clear HV
    go_wp2_with fail
    go_ret
    exact ⟨ret_bool (by first | exact HN.out.symm | exact (decide_eq_false (by omega)).trans HN.out.symm), B1.out⟩
  by_cases h4 : sc ≤ 1000
  case neg =>
    have HN := Lib.hid (HV.out.2 (fun q => h4 q.2.2.2.2.1))
    clear HV
    go_wp2_with fail
    go_ret
    exact ⟨ret_bool (by first | exact HN.out.symm | exact (decide_eq_false (by omega)).trans HN.out.symm), B1.out⟩
  by_cases h5 : -100000 ≤ ls
  case neg =>
    have HN := Lib.hid (HV.out.2 (fun q => h5 q.2.2.2.2.2.1))
    clear HV
    go_wp2_with fail
    go_ret
    exact ⟨ret_bool (by first | exact HN.out.symm | exact (decide_eq_false (by omega)).trans HN.out.symm), B1.out⟩
  by_cases h6 : ls ≤ 100000
  case neg =>
    have HN := Lib.hid (HV.out.2 (fun q => h6 q.2.2.2.2.2.2))
    clear HV
    go_wp2_with fail
    go_ret
    exact ⟨ret_bool (by first | exact HN.out.symm | exact (decide_eq_false (by omega)).trans HN.out.symm), B1.out⟩
  have HN := Lib.hid (HV.out.1 ⟨h0, h1, h2, h3, h4, h5, h6⟩)
  clear HV
  go_wp2_with fail
  go_ret
  exact ⟨ret_bool HN.out.symm, B1.out⟩
set_option maxHeartbeats 2000000 in
theorem refValidEntry_any (e : En) (w : World) (hI : I64 e.1) :
    Calls Tryd.prog 52 #[enV e] w fun x w' => x = .returned (.bool (decide (okE e))) ∧ Below w.heap.size w w' := by
  obtain ⟨z, hz⟩ : ∃ z, decide (okE e) = z := ⟨_, rfl⟩
  rw [hz]
  have HE : Hid (decide (Elt.Ex e.2.1 ∧ vE e) = z) := Lib.hid hz
  clear hz
  have HVd := Lib.hid (fun W => refValid_any e W hI)
  obtain ⟨c, el, wd, sc, ls⟩ := e
  simp only [enV] at HVd ⊢
  simp only at HE
  clear hI
  have b1 : Below w.heap.size w (w.alloc (.cells #[.int .i64 c, .int .i64 el, .int .i64 wd, .int .i64 sc, .int .i64 ls] 47)) := (Below.refl _ _).alloc (Nat.le_refl _) _
  have r1 := Row.new w #[.int .i64 c, .int .i64 el, .int .i64 wd, .int .i64 sc, .int .i64 ls] 47
  go_enter Tryd.func52, Tryd.ntmps52
  go_upto_region 1 with fail
  generalize w.alloc (.cells #[.int .i64 c, .int .i64 el, .int .i64 wd, .int .i64 sc, .int .i64 ls] 47) = W1 at *
  generalize w.heap.size = gb at r1 ⊢
  obtain ⟨p0, p1, p2, p3, p4⟩ := row5 r1
  have B1 := Lib.hid b1
  have R1 := Lib.hid r1
  clear r1 b1
  by_cases hx : Elt.Ex el
  case neg =>
    have HN : Hid (z = false) := Lib.hid (by rw [← HE.out]; exact decide_eq_false (fun q => hx q.1))
    have HD := Lib.hid (refDescribe_no el W1 hx)
    clear hx HE
    go_wp2_with fail
    refine HD.out.mono ?_
    rintro x w2 ⟨rfl, g2⟩
    have B2 := Lib.hid (B1.out.trans (g2.mono B1.out.size))
    clear g2 p0 p1 p2 p3 p4
    go_wp2_with fail
    go_ret
    exact ⟨ret_bool HN.out.symm, alloc_below B2.out B2.out.size _⟩
  have HD := Lib.hid (refDescribe_yes el W1 hx)
  go_wp2_with fail
  refine HD.out.mono ?_
  rintro x w2 ⟨rfl, g2⟩
  have B2 := Lib.hid (B1.out.trans (g2.mono B1.out.size))
  have R2 := Lib.hid (R1.out.under g2)
  clear g2 p0 p1 p2 p3 p4 R1 HD
  go_upto_region 2 with fail
  refine forget (fun Y => Hid (Below w.heap.size w Y ∧ Row Y gb 47 #[.int .i64 c, .int .i64 el, .int .i64 wd, .int .i64 sc, .int .i64 ls])) (Lib.hid ⟨alloc_below B2.out B2.out.size _, R2.out.alloc _⟩) ?_
  intro W3 J3
  clear B2 R2 B1
  obtain ⟨p0, p1, p2, p3, p4⟩ := row5 J3.out.2
  have HE2 : Hid (decide (vE (c, el, wd, sc, ls)) = z) := Lib.hid (by rw [← HE.out]; exact decide_eq_decide.2 ⟨fun q => ⟨hx, q⟩, fun q => q.2⟩)
  obtain ⟨y, hy⟩ : ∃ y, decide (vE (c, el, wd, sc, ls)) = y := ⟨_, rfl⟩
  have HV3 := HVd.out W3
  rw [hy] at HV3 HE2
  have HV3 := Lib.hid HV3
  clear hy HVd HE hx
  go_wp2_with fail
  refine HV3.out.mono ?_
  rintro x w4 ⟨rfl, g4⟩
  have B4 := Lib.hid (J3.out.1.trans (g4.mono J3.out.1.size))
  clear g4 p0 p1 p2 p3 p4 HV3
  go_wp2_with fail
  go_ret
  exact ⟨ret_bool HE2.out, B4.out⟩
end Go.Proofs.YtjaopjhfjijdaaaDoor
