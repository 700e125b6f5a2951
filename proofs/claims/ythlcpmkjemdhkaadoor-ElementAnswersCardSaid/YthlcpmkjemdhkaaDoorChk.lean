/- Contracts of check and ByLetter of the program. -/
import Derived.Test.YthlcpmkjemdhkaaDoorDesc
namespace Go.Proofs.YthlcpmkjemdhkaaDoor
open Go.RowKit

/-- A reading as a value. -/
abbrev rdV (c v : Int) : Value := .agg #[.int .i64 c, .int .i64 v]
set_option maxHeartbeats 1000000 in
theorem check_any (c v : Int) (w : World) (hT : Tab w) :
    Calls Tryd.prog 39 #[rdV c v] w fun e w' => e = .returned (.int .i64 (Elt.chk c v)) ∧ Below w.heap.size w w' := by
  have b0 : Below w.heap.size w (w.alloc (.cells #[.int .i64 c, .int .i64 v] 47)) := (Below.refl _ _).alloc (Nat.le_refl _) _
  have r0 := Row.new w #[.int .i64 c, .int .i64 v] 47
  have hT0 := hT.under b0
  rcases Elt.chk_cases c v with ⟨⟨h, h1, h2⟩, hk⟩ | ⟨h, h1, hk⟩ | ⟨h, hk⟩
  · have HK := Lib.hid hk; clear hk
    go_enter Tryd.func39, Tryd.ntmps39
    go_wp2_with fail
    refine (describe_yes c _ h hT0).mono ?_
    rintro e w1 ⟨rfl, g1⟩
    go_upto_region 4 with fail
    have HL := Lib.hid h
    refine forget (fun Y => Below w.heap.size w Y ∧ Row Y w.heap.size 47 #[.int .i64 c, .int .i64 v] ∧ Row Y w1.heap.size 30 #[.string (S [Elt.lt c]), .int .i64 (Elt.lo c), .int .i64 (Elt.hi c), .int .i64 (Elt.dg c)]) ⟨(b0.trans (g1.mono (by simp))).alloc (Nat.le_trans b0.size g1.size) _, (r0.under g1).alloc _, Row.new _ _ _⟩ ?_
    clear g1 b0 r0 hT0
    rintro Y ⟨bY, r2, r4⟩
    obtain ⟨p0, p1⟩ := row2 r2
    obtain ⟨q0, q1, q2, q3⟩ := row4 r4
    have BY := Lib.hid bY; clear bY r2 r4
    go_wp2_with fail
    go_ret
    exact ⟨ret_i64 HK.out.symm, BY.out⟩
  · have HK := Lib.hid hk; clear hk
    go_enter Tryd.func39, Tryd.ntmps39
    go_wp2_with fail
    refine (describe_yes c _ h hT0).mono ?_
    rintro e w1 ⟨rfl, g1⟩
    go_upto_region 4 with fail
    refine forget (fun Y => Below w.heap.size w Y ∧ Row Y w.heap.size 47 #[.int .i64 c, .int .i64 v] ∧ Row Y w1.heap.size 30 #[.string (S [Elt.lt c]), .int .i64 (Elt.lo c), .int .i64 (Elt.hi c), .int .i64 (Elt.dg c)]) ⟨(b0.trans (g1.mono (by simp))).alloc (Nat.le_trans b0.size g1.size) _, (r0.under g1).alloc _, Row.new _ _ _⟩ ?_
    clear g1 b0 r0 hT0
    rintro Y ⟨bY, r2, r4⟩
    obtain ⟨p0, p1⟩ := row2 r2
    obtain ⟨q0, q1, q2, q3⟩ := row4 r4
    have BY := Lib.hid bY; clear bY r2 r4
    by_cases h2 : v < Elt.lo c
    · clear h1
      go_wp2_with fail
      go_ret
      exact ⟨ret_i64 HK.out.symm, BY.out⟩
    · have h3 : Elt.hi c < v := by omega
      clear h1
      go_wp2_with fail
      go_ret
      exact ⟨ret_i64 HK.out.symm, BY.out⟩
  · have HK := Lib.hid hk; clear hk
    go_enter Tryd.func39, Tryd.ntmps39
    go_wp2_with fail
    refine (describe_no c _ h).mono ?_
    rintro e w1 ⟨rfl, g1⟩
    go_wp2_with fail
    go_ret
    exact ⟨ret_i64 HK.out.symm, (b0.trans (g1.mono (by simp))).alloc (Nat.le_trans b0.size g1.size) _⟩
set_option maxHeartbeats 1000000 in
theorem byLetter_yes (c : Int) (w : World) (h : Elt.Ex c) :
    Calls Tryd.prog 23 #[.string (S [Elt.lt c])] w fun e w' => e = .returned (.tuple #[.int .i64 c, .int .i64 0]) ∧ w = w' := by
  obtain ⟨m, rfl, hm⟩ : ∃ k : Nat, c = (k : Int) + 1 ∧ k < 11 := ⟨(c - 1).toNat, by unfold Elt.Ex at h; omega, by unfold Elt.Ex at h; omega⟩
  have em : Elt.lt ((m : Int) + 1) = Elt.lets.getD m 0 := by unfold Elt.lt; rw [show ((m : Int) + 1 - 1).toNat = m by omega]
  rw [em]
  clear h em
  have HM := Lib.hid hm
  go_enter Tryd.func23, Tryd.ntmps23
  go_wp2_with fail
  go_loop [5] (fun t => ∃ k : Nat, k ≤ m ∧ t = .int .i64 k) (fun t => 11 - (intOf t).toNat)
  case atStart => exact ⟨0, Nat.zero_le _, rfl⟩
  case round =>
    obtain ⟨k, hk, rfl⟩ := hrel
    have k0 : (0 : Int) ≤ (k : Int) := by omega
    have k1 : (k : Int) < 11 := by omega
    have x1 : IntKind.i64.wrap (k : Int) = (k : Int) := IntWalk.i64_in _ (by omega)
    have hk11 : k < 11 := by omega
    have e1 := conv_let ⟨k, hk11⟩
    have e2 := index_let ⟨k, hk11⟩
    simp only at e1 e2
    by_cases he : k = m
    · subst he
      generalize Elt.lets.getD k 0 = lb at *
      go_wp2_with fail
      go_ret2
      exact ⟨rfl, rfl⟩
    · have hne : ((S [Elt.lets.getD k 0]).toList == (S [Elt.lets.getD m 0]).toList) = false := toList_ne (fun e => by
        have := S_inj e
        exact Elt.lets_ne ⟨k, hk11⟩ ⟨m, HM.out⟩ (fun h => he (congrArg Fin.val h)) (by injection this))
      have HE := Lib.hid he; clear he
      generalize S [Elt.lets.getD m 0] = sm at *
      generalize Elt.lets.getD k 0 = lb at *
      go_wp2_with fail
      go_round
      case rel => exact ⟨k + 1, by have := HE.out; omega, by go_num⟩
      case measure => simp [intOf]; omega
set_option maxHeartbeats 1000000 in
theorem byLetter_no (s : ByteArray) (w : World) (h : ∀ c, Elt.Ex c → s ≠ S [Elt.lt c]) :
    Calls Tryd.prog 23 #[.string s] w fun e w' => e = .returned (.tuple #[.int .i64 0, .int .i64 9]) ∧ w = w' := by
  have H := Lib.hid h; clear h
  go_enter Tryd.func23, Tryd.ntmps23
  go_wp2_with fail
  go_loop [5] (fun t => ∃ k : Nat, k ≤ 11 ∧ t = .int .i64 k) (fun t => 11 - (intOf t).toNat)
  case atStart => exact ⟨0, Nat.zero_le _, rfl⟩
  case round =>
    obtain ⟨k, hk, rfl⟩ := hrel
    by_cases hk11 : k < 11
    · have k0 : (0 : Int) ≤ (k : Int) := by omega
      have k1 : (k : Int) < 11 := by omega
      have x1 : IntKind.i64.wrap (k : Int) = (k : Int) := IntWalk.i64_in _ (by omega)
      have e1 := conv_let ⟨k, hk11⟩
      have e2 := index_let ⟨k, hk11⟩
      have hne : ((S [Elt.lets.getD k 0]).toList == s.toList) = false := toList_ne (fun e => H.out ((k : Int) + 1) ⟨by omega, by omega⟩ (by unfold Elt.lt; rw [show ((k : Int) + 1 - 1).toNat = k by omega]; exact e.symm))
      simp only at e1 e2
      generalize Elt.lets.getD k 0 = lb at *
      go_wp2_with fail
      go_round
      case rel => exact ⟨k + 1, by omega, by go_num⟩
      case measure => simp [intOf]; omega
    · have k1 : ¬ (k : Int) < 11 := by omega
      go_wp2_with fail
      go_ret2
      exact ⟨rfl, rfl⟩
end Go.Proofs.YthlcpmkjemdhkaaDoor
