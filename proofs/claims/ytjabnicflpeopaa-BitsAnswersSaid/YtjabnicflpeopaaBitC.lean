/- The contract of the program's Valid. -/
import Derived.Test.YtjabnicflpeopaaBitA
namespace Go.Proofs.Ytjabnicflpeopaa
open Go.RowKit

theorem vb_last {L : List Nat} {n : Nat} (h0 : (0 : Int) ≤ n) (h1 : n ≤ 40000) (h2 : L.length = (n + 7) / 8) (hl : n / 8 < L.length) (hx : L[n / 8] < 256) (h3 : ¬ n % 8 = 0) :
    vb L (n : Int) = decide ((L[n / 8] * 2 ^ (n % 8)) % 256 = 0) := by
  have hz := shl_zero hx (show n % 8 < 8 by omega)
  have key : Vd L (n : Int) ↔ (L[n / 8] * 2 ^ (n % 8)) % 256 = 0 := by
    rw [hz]
    constructor
    · intro h k hk
      have := h.2.2.2 (8 * (n / 8) + (7 - k)) (by simp; omega)
      unfold bt at this
      rw [show (8 * (n / 8) + (7 - k)) / 8 = n / 8 by omega, show 7 - (8 * (n / 8) + (7 - k)) % 8 = k by omega, List.getD_eq_getElem?_getD, List.getElem?_eq_getElem hl] at this
      exact this
    · intro h
      refine ⟨h0, by omega, by simpa using h2, fun i hi => ?_⟩
      simp at hi
      by_cases hi2 : i / 8 < L.length
      · have e : i / 8 = n / 8 := by omega
        unfold bt
        rw [e, List.getD_eq_getElem?_getD, List.getElem?_eq_getElem hl]
        exact h (7 - i % 8) (by omega)
      · exact bt_ge (by omega)
  by_cases hv : Vd L (n : Int)
  · rw [vb_yes hv, decide_eq_true (key.1 hv)]
  · rw [vb_no hv, decide_eq_false (fun h => hv (key.2 h))]
theorem beq_u8 (x n : Nat) : (((x : Int) * 2 ^ (n % 8)) % 256 == 0) = decide (x * 2 ^ (n % 8) % 256 = 0) := by
  have e : ((x : Int) * 2 ^ (n % 8)) % 256 = ((x * 2 ^ (n % 8) % 256 : Nat) : Int) := by rw [Int.natCast_emod, Int.natCast_mul, Int.natCast_pow]; rfl
  rw [e]
  generalize x * 2 ^ (n % 8) % 256 = y
  rw [Bool.eq_iff_iff, beq_iff_eq, decide_eq_true_iff]
  omega
def AnsB (b : Bool) (w : World) (e : Ending) (w' : World) : Prop := e = .returned (.bool b) ∧ Below w.heap.size w w'
set_option maxHeartbeats 1000000 in
theorem valid_any (w : World) (A : Option Addr) (c : Nat) (L : List Nat) (n : Int) (h : Bys w A c L) (hn0 : -9223372036854775808 ≤ n) (hn1 : n ≤ 9223372036854775807) :
    Calls Try.prog 22 #[.agg #[.slice A L.length c, .int .i64 n]] w (AnsB (vb L n) w) := by
  have hc1 := h.1
  have hc2 := h.2.1
  by_cases h0 : 0 ≤ n
  · by_cases h1 : n ≤ 40000
    · obtain ⟨n, rfl⟩ := Int.eq_ofNat_of_zero_le h0
      have h1 : n ≤ 40000 := by omega
      by_cases h2 : L.length = (n + 7) / 8
      · by_cases h3 : n % 8 = 0
        · have HV : Hid (vb L (n : Int) = true) := Lib.hid (vb_yes ⟨h0, by omega, by simpa using h2, fun i hi => bt_ge (by simp at hi; omega)⟩)
          have t1 : ((n : Int) + 7) / 8 = (L.length : Int) := by omega
          have t2 : ((n : Int) % 8 == 0) = true := by simp; omega
          clear h2 h3 h
          go_enter Try.func22, Try.ntmps22
          go_wp2_with fail
          go_quiet ((go_at_call 35; exact quiet_left (bytesFor_any _ _ (by omega) (by omega))))
          go_wp2_with fail
          go_ret
          exact ⟨ret_bool HV.out.symm, below_drewN ((Below.refl _ _).alloc (Nat.le_refl _) _) _⟩
        · have hl : n / 8 < L.length := by omega
          obtain ⟨bk, off, rfl, hlt, hc⟩ := h.addr (by omega)
          have cx := hc (n / 8) hl
          have hx := h.2.2.2.1 _ (List.getElem_mem hl)
          have HV : Hid (vb L (n : Int) = decide ((L[n / 8] * 2 ^ (n % 8)) % 256 = 0)) := Lib.hid (vb_last h0 (by omega) h2 hl hx h3)
          have t1 : ((n : Int) + 7) / 8 = (L.length : Int) := by omega
          have t2 : ((n : Int) % 8 == 0) = false := by simp; omega
          have u0 : (0 : Int) ≤ (n : Int) / 8 := by omega
          have u1 : (n : Int) / 8 < (L.length : Int) := by omega
          have u3 : ((n : Int) / 8).toNat = n / 8 := by omega
          clear h2 h3 h hc
          generalize L[n / 8] = x at cx hx HV
          go_enter Try.func22, Try.ntmps22
          go_wp2_with fail
          go_quiet ((go_at_call 35; exact quiet_left (bytesFor_any _ _ (by omega) (by omega))))
          go_wp2_with fail
          go_ret
          exact ⟨ret_bool ((beq_u8 x n).trans HV.out.symm), below_drewN ((Below.refl _ _).alloc (Nat.le_refl _) _) _⟩
      · have HV : Hid (vb L (n : Int) = false) := Lib.hid (vb_no (fun h => h2 (by simpa using h.2.2.1)))
        have t1 : ((L.length : Int) == ((n : Int) + 7) / 8) = false := by simp; omega
        have t2 : ((L.length : Int) != ((n : Int) + 7) / 8) = true := by simp; omega
        clear h2 h
        go_enter Try.func22, Try.ntmps22
        go_wp2_with fail
        go_quiet ((go_at_call 35; exact quiet_left (bytesFor_any _ _ (by omega) (by omega))))
        go_wp2_with fail
        go_ret
        exact ⟨ret_bool HV.out.symm, below_drewN ((Below.refl _ _).alloc (Nat.le_refl _) _) _⟩
    · have HV : Hid (vb L n = false) := Lib.hid (vb_no (fun h => h1 h.2.1))
      clear h
      go_enter Try.func22, Try.ntmps22
      go_wp2_with fail
      go_quiet (fail)
      go_wp2_with fail
      go_ret
      exact ⟨ret_bool HV.out.symm, below_drewN ((Below.refl _ _).alloc (Nat.le_refl _) _) _⟩
  · have HV : Hid (vb L n = false) := Lib.hid (vb_no (fun h => h0 h.1))
    clear h
    go_enter Try.func22, Try.ntmps22
    go_wp2_with fail
    go_quiet (fail)
    go_wp2_with fail
    go_ret
    exact ⟨ret_bool HV.out.symm, below_drewN ((Below.refl _ _).alloc (Nat.le_refl _) _) _⟩
end Go.Proofs.Ytjabnicflpeopaa
