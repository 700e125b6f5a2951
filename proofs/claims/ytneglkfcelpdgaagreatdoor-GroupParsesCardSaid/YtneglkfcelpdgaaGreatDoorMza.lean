/- The contracts of the reference's number and Parse. -/
import Derived.Test.YtneglkfcelpdgaaGreatDoorMw
import Derived.Test.YtneglkfcelpdgaaGreatDoorMz
namespace Go.Proofs.YtneglkfcelpdgaaGreatDoor.Ck
open Go.RowKit

/-- All bytes are digits. -/
def digs (l : List UInt8) : Bool := l.all fun c => decide (48 ≤ c.toNat) && decide (c.toNat ≤ 57)
/-- The number of digits; -1 if another byte is among them. -/
def rnum (l : List UInt8) : Int := if digs l then numv l else -1
theorem digs_snoc (l : List UInt8) (c : UInt8) : digs (l ++ [c]) = (digs l && (decide (48 ≤ c.toNat) && decide (c.toNat ≤ 57))) := by simp [digs]
theorem digs_take {l : List UInt8} (k : Nat) (h : digs (l.take k) = false) : digs l = false := by
  have e : digs l = (digs (l.take k) && digs (l.drop k)) := by
    unfold digs; rw [← List.all_append, List.take_append_drop]
  rw [e, h]; rfl
theorem rnum_bad {l : List UInt8} (k : Nat) (h : digs (l.take k) = false) : rnum l = -1 := by unfold rnum; rw [digs_take k h]; rfl
theorem rnum_good {l : List UInt8} (h : digs l = true) : rnum l = numv l := by unfold rnum; rw [h]; rfl
/-- The number in the bytes from a to b, as the reference reads it. -/
def rfld (s : ByteArray) (a b : Nat) : Int := rnum (s.extract a b).data.toList
set_option maxHeartbeats 400000 in
theorem refNumber_any (s : ByteArray) (w : World) (hs : s.size ≤ 4) :
    Calls Tryz.prog 67 #[.string s] w fun e w' => e = .returned (.int .i64 (rnum s.data.toList)) ∧ w = w' := by
  go_enter Tryz.func67, Tryz.ntmps67
  go_wp2
  go_loop [3, 4] (fun n i => ∃ k : Nat, k ≤ s.size ∧ i = .int .i64 k ∧ n = .int .i64 (numv (s.data.toList.take k)) ∧ Hid (digs (s.data.toList.take k) = true)) (fun _ i => s.size - (intOf i).toNat)
  case atStart => exact ⟨0, Nat.zero_le _, rfl, rfl, Lib.hid rfl⟩
  case round =>
    obtain ⟨k, hk, rfl, rfl, hd⟩ := hrel
    have hl : (s.data.toList.take k).length = k := by rw [List.length_take]; simp only [Array.length_toList]; have : s.data.size = s.size := rfl; omega
    have hb := numv_bd k _ hl (by omega)
    by_cases hlt : k < s.size
    · have hts := take_snoc s k hlt
      have H := Lib.hid (show numv (s.data.toList.take (k + 1)) = 10 * numv (s.data.toList.take k) + (s[k].toNat : Int) - 48 by rw [hts]; exact numv_snoc _ _)
      have G := Lib.hid (show digs (s.data.toList.take (k + 1)) = (decide (48 ≤ s[k].toNat) && decide (s[k].toNat ≤ 57)) by rw [hts, digs_snoc, hd.out]; rfl)
      have hc := s[k].toNat_lt
      clear hts hl
      by_cases c1 : 48 ≤ s[k].toNat
      · by_cases c2 : s[k].toNat ≤ 57
        · have c3 : (48 : Int) ≤ (s[k].toNat : Int) := by omega
          have c4 : (s[k].toNat : Int) ≤ 57 := by omega
          go_wp2
          go_round
          case rel => exact ⟨k + 1, by omega, by go_num, by rw [H.out]; go_num, Lib.hid (by rw [G.out]; simp [c1, c2])⟩
          case measure => simp [intOf]; omega
        · have c4 : ¬ (s[k].toNat : Int) ≤ 57 := by omega
          have c3 : (48 : Int) ≤ (s[k].toNat : Int) := by omega
          go_wp2
          go_ret
          exact ⟨ret_i64 (rnum_bad (k + 1) (by rw [G.out]; simp [c2])).symm, rfl⟩
      · have c3 : ¬ (48 : Int) ≤ (s[k].toNat : Int) := by omega
        go_wp2
        go_ret
        exact ⟨ret_i64 (rnum_bad (k + 1) (by rw [G.out]; simp [c1])).symm, rfl⟩
    · have ht : s.data.toList.take k = s.data.toList := List.take_of_length_le (by simp; omega)
      have T := Lib.hid ht; clear ht
      go_wp2
      go_ret
      exact ⟨ret_i64 (by have := hd.out; rw [T.out] at this ⊢; exact (rnum_good this).symm), rfl⟩
theorem rnum_bd {l : List UInt8} (h : l.length ≤ 4) : -60000 ≤ rnum l ∧ rnum l ≤ 300000 := by
  have := numv_bd _ l rfl h
  unfold rnum; split <;> omega
theorem refNumber_fld (s : ByteArray) (a b : Nat) (w : World) (h : b - a ≤ 4) :
    Calls Tryz.prog 67 #[.string (s.extract a b)] w fun e w' => e = .returned (.int .i64 (rfld s a b)) ∧ w = w' :=
  refNumber_any _ w (by rw [ByteArray.size_extract]; omega)
/-- The separators. -/
def seps (s : ByteArray) (hs : s.size = 16) : Prop := s[4].toNat = 45 ∧ s[7].toNat = 45 ∧ s[10].toNat = 32 ∧ s[13].toNat = 58
theorem refParse_len (s : ByteArray) (w : World) (hs : s.size ≠ 16) :
    Calls Tryz.prog 25 #[.string s] w fun e w' => e = .returned (.tuple #[.int .i64 0, .int .i64 3]) ∧ w' = w := by
  go_enter Tryz.func25, Tryz.ntmps25
  go_wp2
  go_ret2
  exact ⟨rfl, rfl⟩
theorem u8_ne {c : UInt8} {n : Nat} (h : ¬ c.toNat = n) : ((c.toNat : Int) == (n : Int)) = false := by
  rw [beq_eq_false_iff_ne]; omega
set_option maxHeartbeats 400000 in
theorem refParse_sep (s : ByteArray) (w : World) (hs : s.size = 16) (h : ¬ seps s hs) :
    Calls Tryz.prog 25 #[.string s] w fun e w' => e = .returned (.tuple #[.int .i64 0, .int .i64 3]) ∧ w' = w := by
  unfold seps at h
  by_cases a1 : s[4].toNat = 45
  · by_cases a2 : s[7].toNat = 45
    · by_cases a3 : s[10].toNat = 32
      · have a4 : ¬ s[13].toNat = 58 := fun e => h ⟨a1, a2, a3, e⟩
        clear h
        go_enter Tryz.func25, Tryz.ntmps25
        go_wp2
        go_ret2
        exact ⟨rfl, rfl⟩
      · clear h
        go_enter Tryz.func25, Tryz.ntmps25
        go_wp2
        go_ret2
        exact ⟨rfl, rfl⟩
    · clear h
      go_enter Tryz.func25, Tryz.ntmps25
      go_wp2
      go_ret2
      exact ⟨rfl, rfl⟩
  · clear h
    go_enter Tryz.func25, Tryz.ntmps25
    go_wp2
    go_ret2
    exact ⟨rfl, rfl⟩
theorem rfld_bd (s : ByteArray) (a b : Nat) (h : b - a ≤ 4) : -60000 ≤ rfld s a b ∧ rfld s a b ≤ 300000 :=
  rnum_bd (by rw [Array.length_toList]; show (s.extract a b).size ≤ 4; rw [ByteArray.size_extract]; omega)
set_option maxHeartbeats 1000000 in
theorem refParse_no (s : ByteArray) (w : World) (hs : s.size = 16) (h : seps s hs) (hv : Cal.vld (rfld s 0 4) (rfld s 5 7) (rfld s 8 10) (rfld s 11 13) (rfld s 14 16) = false) :
    Calls Tryz.prog 25 #[.string s] w fun e w' => e = .returned (.tuple #[.int .i64 0, .int .i64 3]) ∧ Below w.heap.size w w' := by
  obtain ⟨a1, a2, a3, a4⟩ := h
  go_enter Tryz.func25, Tryz.ntmps25
  go_wp2
  go_region_held3 (fun _ => True) (trivial)
    (first | (go_at_call 67; refine (refNumber_fld _ _ _ _ (by omega)).mono ?_; rintro e w2 ⟨rfl, rfl⟩) | (go_at_call 66; refine (refMinutes_no _ _ _ _ _ _ hv).mono ?_; rintro e w3 ⟨rfl, hb3⟩))
  go_wp2
  go_ret2
  exact ⟨rfl, undrew hb3⟩
set_option maxHeartbeats 1000000 in
theorem refParse_yes (s : ByteArray) (w : World) (hs : s.size = 16) (h : seps s hs) (hv : Cal.vld (rfld s 0 4) (rfld s 5 7) (rfld s 8 10) (rfld s 11 13) (rfld s 14 16) = true) :
    Calls Tryz.prog 25 #[.string s] w fun e w' => e = .returned (.tuple #[.int .i64 (Cal.num (rfld s 0 4) (rfld s 5 7) (rfld s 8 10) (rfld s 11 13) (rfld s 14 16)), .int .i64 0]) ∧ Below w.heap.size w w' := by
  obtain ⟨a1, a2, a3, a4⟩ := h
  go_enter Tryz.func25, Tryz.ntmps25
  go_wp2
  go_region_held3 (fun _ => True) (trivial)
    (first | (go_at_call 67; refine (refNumber_fld _ _ _ _ (by omega)).mono ?_; rintro e w2 ⟨rfl, rfl⟩) | (go_at_call 66; refine (refMinutes_yes _ _ _ _ _ _ hv).mono ?_; rintro e w3 ⟨rfl, hb3⟩))
  go_wp2
  go_ret2
  exact ⟨rfl, undrew hb3⟩
end Go.Proofs.YtneglkfcelpdgaaGreatDoor.Ck
