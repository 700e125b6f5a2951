/- Contracts of bytes.Equal and of both sides' Same. -/
import Derived.Test.YtjabnicflpeopaaBitC
import Derived.Laws.BytesArg
namespace Go.Proofs.Ytjabnicflpeopaa
open Go.RowKit

/-- Bytes as a text. -/
def bstr (L : List Nat) : ByteArray := strOfNums (L.map fun (x : Nat) => (x : Int))
theorem bstr_list (L : List Nat) : (bstr L).toList = L.map fun x => UInt8.ofNat x := by
  rw [ByteArray.toList_eq]
  unfold bstr
  rw [strOfNums_data, List.map_map]
  rfl
theorem bstr_eq {L M : List Nat} (hL : ∀ x ∈ L, x < 256) (hM : ∀ x ∈ M, x < 256) : ((bstr L).toList == (bstr M).toList) = decide (L = M) := by
  rw [bstr_list, bstr_list, Bool.eq_iff_iff, beq_iff_eq, decide_eq_true_iff]
  constructor
  · intro h
    have hlen : L.length = M.length := by have := congrArg List.length h; simpa using this
    refine List.ext_getElem hlen (fun i h1 h2 => ?_)
    have e : (L.map fun x => UInt8.ofNat x)[i]? = (M.map fun x => UInt8.ofNat x)[i]? := by rw [h]
    rw [List.getElem?_map, List.getElem?_map, List.getElem?_eq_getElem h1, List.getElem?_eq_getElem h2] at e
    simp only [Option.map_some, Option.some.injEq] at e
    have e2 := congrArg UInt8.toNat e
    have a := hL _ (List.getElem_mem h1)
    have b := hM _ (List.getElem_mem h2)
    simp only [UInt8.toNat_ofNat'] at e2
    omega
  · intro h
    rw [h]
theorem conv_bytes {w : World} {A : Option Addr} {c : Nat} {L : List Nat} (h : Bys w A c L) : (convert 22 9 (.slice A L.length c)).run Try.prog w = .ok (.string (bstr L)) w := by
  by_cases h0 : 0 < L.length
  · obtain ⟨bk, off, rfl, hlt, hc⟩ := h.addr h0
    exact run_convert_bytes_arg w 22 5 Try.underlying22 Try.underlying5 bk off L.length c _ (by simp) (fun i hi => by
      rw [hc i hi, List.getD_eq_getElem?_getD, List.getElem?_map, List.getElem?_eq_getElem hi]
      rfl) _ Try.underlying9
  · obtain rfl : L = [] := List.eq_nil_of_length_eq_zero (by omega)
    cases A with
    | none => exact run_convert_bytes_nil w 22 5 Try.underlying22 Try.underlying5 0 c _ Try.underlying9
    | some a =>
      rw [run_convert_bytes_string w 22 9 5 _ _ _ Try.underlying22 Try.underlying5 Try.underlying9]
      exact run_bytesToString w a 0 c [] rfl
set_option maxHeartbeats 400000 in
theorem equal_any (w : World) (A B : Option Addr) (c d : Nat) (L M : List Nat) (h : Bys w A c L) (k : Bys w B d M) :
    Calls Try.prog 36 #[.slice A L.length c, .slice B M.length d] w fun e w' => e = .returned (.bool (decide (L = M))) ∧ w = w' := by
  have k1 := conv_bytes h
  have k2 := conv_bytes k
  have E := Lib.hid (bstr_eq h.2.2.2.1 k.2.2.2.1)
  clear h k
  go_enter Try.func36, Try.ntmps36
  go_wp2
  go_ret
  exact ⟨ret_bool E.out, rfl⟩
theorem bys2 {w Z : World} {A : Option Addr} {c : Nat} {L : List Nat} (h : Bys w A c L) (hb : Below w.heap.size w Z) : Bys Z A c L := h.under hb
set_option maxHeartbeats 800000 in
theorem same_any (w : World) (A B : Option Addr) (c d : Nat) (L M : List Nat) (n m : Int) (h : Bys w A c L) (k : Bys w B d M) :
    Calls Try.prog 24 #[.agg #[.slice A L.length c, .int .i64 n], .agg #[.slice B M.length d, .int .i64 m]] w (AnsB (decide (n = m ∧ L = M)) w) := by
  by_cases hnm : n = m
  · have HV : Hid (decide (n = m ∧ L = M) = decide (L = M)) := Lib.hid (by simp [hnm])
    have H := Lib.hid h
    have K := Lib.hid k
    have t1 : (n == m) = true := by simp [hnm]
    clear h k hnm
    go_enter Try.func24, Try.ntmps24
    go_wp2_with ((go_at_call 36; refine (equal_any _ _ _ _ _ _ _ (H.out.under (((Below.refl _ _).alloc (Nat.le_refl _) _).alloc (by simp) _)) (K.out.under (((Below.refl _ _).alloc (Nat.le_refl _) _).alloc (by simp) _))).mono ?_; rintro e w1 ⟨rfl, rfl⟩))
    go_ret
    exact ⟨ret_bool HV.out.symm, ((Below.refl _ _).alloc (Nat.le_refl _) _).alloc (by simp) _⟩
  · have HV : Hid (decide (n = m ∧ L = M) = false) := Lib.hid (by simp [hnm])
    have t1 : (n == m) = false := by simp [hnm]
    clear h k hnm
    go_enter Try.func24, Try.ntmps24
    go_wp2
    go_ret
    exact ⟨ret_bool HV.out.symm, ((Below.refl _ _).alloc (Nat.le_refl _) _).alloc (by simp) _⟩
set_option maxHeartbeats 800000 in
theorem refSame_any (w : World) (A B : Option Addr) (c d : Nat) (L M : List Nat) (n m : Int) (h : Bys w A c L) (k : Bys w B d M) :
    Calls Try.prog 15 #[.agg #[.slice A L.length c, .int .i64 n], .agg #[.slice B M.length d, .int .i64 m]] w (AnsB (decide (n = m ∧ L = M)) w) := by
  have E := Lib.hid (bstr_eq h.2.2.2.1 k.2.2.2.1)
  by_cases hnm : n = m
  · have HV : Hid (decide (n = m ∧ L = M) = decide (L = M)) := Lib.hid (by simp [hnm])
    have k1 := conv_bytes (h.under (((Below.refl _ _).alloc (Nat.le_refl _) (.cells #[.slice A L.length c, .int .i64 n] 24)).alloc (by simp) (.cells #[.slice B M.length d, .int .i64 m] 24)))
    have k2 := conv_bytes (k.under (((Below.refl _ _).alloc (Nat.le_refl _) (.cells #[.slice A L.length c, .int .i64 n] 24)).alloc (by simp) (.cells #[.slice B M.length d, .int .i64 m] 24)))
    have t1 : (n == m) = true := by simp [hnm]
    clear h k hnm
    go_enter Try.func15, Try.ntmps15
    go_wp2
    go_ret
    exact ⟨ret_bool (E.out.trans HV.out.symm), ((Below.refl _ _).alloc (Nat.le_refl _) _).alloc (by simp) _⟩
  · have HV : Hid (decide (n = m ∧ L = M) = false) := Lib.hid (by simp [hnm])
    have t1 : (n == m) = false := by simp [hnm]
    clear h k hnm
    go_enter Try.func15, Try.ntmps15
    go_wp2
    go_ret
    exact ⟨ret_bool HV.out.symm, ((Below.refl _ _).alloc (Nat.le_refl _) _).alloc (by simp) _⟩
end Go.Proofs.Ytjabnicflpeopaa
