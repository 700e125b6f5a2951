/- The reference's Centre and letter. -/
import Derived.Test.YtfnlgfacadmjpaaGreatDoorBMa
namespace Go.Proofs.YtfnlgfacadmjpaaGreatDoor.Bu
open Go.RowKit

set_option maxRecDepth 100000 in
set_option maxHeartbeats 2000000 in
/-- The reference's test of a centre's name, at any string. -/
theorem refCentre_any (s : ByteArray) (w : World) (hs : s.size ≤ 9223372036854775807) :
    Calls Tryz.prog 45 #[.string s] w fun e w' => e = .returned (.bool (ctr s)) ∧ w = w' := by
  have HC : Hid (ctr s = true ↔ s.size = 4 ∧ ∀ k (h : k < s.size), isCap s[k] = true) := Lib.hid (by
    unfold ctr
    rw [Bool.and_eq_true, decide_eq_true_iff, List.all_eq_true]
    refine and_congr_right fun _ => ⟨fun h k hk => h _ ?_, fun h b hb => ?_⟩
    · have hk' : k < s.data.toList.length := by simpa using hk
      exact List.mem_iff_getElem.2 ⟨k, hk', by simp [ByteArray.getElem_eq_getElem_data]⟩
    · obtain ⟨k, hk, rfl⟩ := List.mem_iff_getElem.1 hb
      have hk' : k < s.size := by simpa using hk
      have := h k hk'
      simpa [ByteArray.getElem_eq_getElem_data] using this)
  go_enter Tryz.func45, Tryz.ntmps45
  go_wp2_with fail
  go_loopw [3] (fun u Y => ∃ k : Nat, k ≤ s.size ∧ u = .int .i64 k ∧ Hid (∀ j (h : j < s.size), j < k → isCap s[j] = true) ∧ Y = w) (fun u _ => s.size - (intOf u).toNat)
  case atStart => exact ⟨0, Nat.zero_le _, rfl, Lib.hid (fun j _ hj => absurd hj (Nat.not_lt_zero _)), rfl⟩
  case round =>
    obtain ⟨k, hk, rfl, hall, e8⟩ := hrel
    have e8' := e8.symm
    subst e8'
    have k0 : (0 : Int) ≤ (k : Int) := by omega
    by_cases hlt : k < s.size
    · have k1 : (k : Int) < (s.size : Int) := by omega
      by_cases a1 : (s[k].toNat : Int) < 65
      · have hno : Hid (false = ctr s) := Lib.hid (by
          cases hc : ctr s
          · rfl
          · have := (HC.out.1 hc).2 k hlt
            unfold isCap at this
            rw [Bool.and_eq_true, decide_eq_true_iff, decide_eq_true_iff] at this
            omega)
        go_wp2_with fail
        go_ret
        exact ⟨by rw [← hno.out]; rfl, rfl⟩
      · by_cases a2 : (90 : Int) < (s[k].toNat : Int)
        · have hno : Hid (false = ctr s) := Lib.hid (by
            cases hc : ctr s
            · rfl
            · have := (HC.out.1 hc).2 k hlt
              unfold isCap at this
              rw [Bool.and_eq_true, decide_eq_true_iff, decide_eq_true_iff] at this
              omega)
          go_wp2_with fail
          go_ret
          exact ⟨by rw [← hno.out]; rfl, rfl⟩
        · have hall2 : Hid (∀ j (h : j < s.size), j < k + 1 → isCap s[j] = true) := Lib.hid (fun j h hj => by
            rcases Nat.lt_succ_iff_lt_or_eq.1 hj with q | q
            · exact hall.out j h q
            · subst q
              unfold isCap
              rw [Bool.and_eq_true, decide_eq_true_iff, decide_eq_true_iff]
              omega)
          clear hall
          go_wp2_with fail
          go_roundw
          case rel => exact ⟨k + 1, by omega, by go_num, hall2, trivial⟩
          case measure => simp [intOf]; omega
    · have k1 : ¬ (k : Int) < (s.size : Int) := by omega
      have hfin : Hid (((s.size : Int) == 4) = ctr s) := Lib.hid (by
        cases hc : ctr s
        · rw [beq_eq_false_iff_ne]
          intro e
          have : ctr s = true := HC.out.2 ⟨by omega, fun j h => hall.out j h (by omega)⟩
          rw [hc] at this
          cases this
        · rw [beq_iff_eq, (HC.out.1 hc).1]
          rfl)
      clear hall HC
      go_wp2_with fail
      go_ret
      exact ⟨by rw [← hfin.out]; rfl, rfl⟩
set_option maxRecDepth 100000 in
set_option maxHeartbeats 2000000 in
/-- The reference's letter of a number. -/
theorem refLetter_any (n : Int) (w : World) (h : 1 ≤ n ∧ n ≤ 26) :
    Calls Tryz.prog 70 #[.int .i64 n] w fun e w' => e = .returned (.string (S (ltr n))) ∧ Below w.heap.size w w' := by
  obtain ⟨u, hu⟩ : ∃ u : UInt8, ltr n = [u] ∧ (u.toNat : Int) = 65 + n - 1 := ⟨UInt8.ofNat (64 + n.toNat), rfl, by rw [UInt8.toNat_ofNat']; omega⟩
  have HU := Lib.hid hu.1
  have hu2 := hu.2
  clear hu
  have hb3 : Below w.heap.size w (w.alloc (.cells #[.int .u8 (u.toNat : Int)] 5)) := (Below.refl _ _).alloc (Nat.le_refl _) _
  have hrw := Row.new w #[.int .u8 (u.toNat : Int)] 5
  have hconv : (convert 40 9 (.slice (some ⟨w.heap.size, 0, none⟩) 1 1)).run Tryz.prog (w.alloc (.cells #[.int .u8 (u.toNat : Int)] 5)) = .ok (.string (S [u])) (w.alloc (.cells #[.int .u8 (u.toNat : Int)] 5)) :=
    run_convert_bytes_back _ 40 9 5 ⟨w.heap.size, 0, none⟩ 1 [u] (by kernel_rfl) (by kernel_rfl) (by kernel_rfl) (fun j hj => by
      have hj : j < 1 := hj
      obtain rfl : j = 0 := by omega
      rw [Addr.add_lit, hrw.cell]; rfl)
  rw [hu2] at hconv hb3
  have HB := Lib.hid hb3
  clear hb3 hrw hu2
  go_enter Tryz.func70, Tryz.ntmps70
  go_wp2_with fail
  go_ret
  exact ⟨by rw [HU.out]; rfl, HB.out⟩
end Go.Proofs.YtfnlgfacadmjpaaGreatDoor.Bu
