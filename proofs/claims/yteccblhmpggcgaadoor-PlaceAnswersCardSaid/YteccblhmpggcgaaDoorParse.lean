/- Contracts of number and Parse of the program. -/
import Derived.Test.YteccblhmpggcgaaDoorAwake
import Derived.Test.YteccblhmpggcgaaDoorShelfTrim
import Derived.Deep.RegionHeld3
namespace Go.Proofs.YteccblhmpggcgaaDoor
open Go.RowKit

/-- All bytes are digits. -/
def digs (l : List UInt8) : Bool := l.all fun c => decide (48 ≤ c.toNat) && decide (c.toNat ≤ 57)
/-- The value of digits. -/
def numv (l : List UInt8) : Int := l.foldl (fun n c => 10 * n + (c.toNat : Int) - 48) 0
theorem numv_snoc (l : List UInt8) (c : UInt8) : numv (l ++ [c]) = 10 * numv l + (c.toNat : Int) - 48 := by unfold numv; rw [List.foldl_append]; rfl
theorem digs_snoc (l : List UInt8) (c : UInt8) : digs (l ++ [c]) = (digs l && (decide (48 ≤ c.toNat) && decide (c.toNat ≤ 57))) := by simp [digs]
theorem digs_cons (c : UInt8) (l : List UInt8) : digs (c :: l) = true ↔ (48 ≤ c.toNat ∧ c.toNat ≤ 57) ∧ digs l = true := by simp [digs]
theorem numv_bd : ∀ (l : List UInt8), digs l = true → l.length ≤ 3 → 0 ≤ numv l ∧ numv l ≤ 999 ∧ (l.length ≤ 2 → numv l ≤ 99) := by
  intro l hd hk
  match l, hd, hk with
  | [], _, _ => exact ⟨by decide, by decide, fun _ => by decide⟩
  | [a], hd, _ => simp only [digs_cons] at hd; simp only [numv, List.foldl, List.length_singleton]; omega
  | [a, b], hd, _ => simp only [digs_cons] at hd; simp only [numv, List.foldl, List.length_cons, List.length_nil]; omega
  | [a, b, c], hd, _ => simp only [digs_cons] at hd; simp only [numv, List.foldl, List.length_cons, List.length_nil]; omega
  | _ :: _ :: _ :: _ :: l, _, h => simp only [List.length_cons] at h; omega
theorem take_snoc (s : ByteArray) (k : Nat) (h : k < s.size) : s.data.toList.take (k + 1) = s.data.toList.take k ++ [s[k]] := by
  rw [List.take_succ_eq_append_getElem (by simpa using h)]; rfl
theorem digs_take {l : List UInt8} (k : Nat) (h : digs l = true) : digs (l.take k) = true := by
  have e : digs l = (digs (l.take k) && digs (l.drop k)) := by unfold digs; rw [← List.all_append, List.take_append_drop]
  rw [e] at h; simp only [Bool.and_eq_true] at h; exact h.1
theorem digs_drop {l : List UInt8} (k : Nat) (h : digs l = true) : digs (l.drop k) = true := by
  have e : digs l = (digs (l.take k) && digs (l.drop k)) := by unfold digs; rw [← List.all_append, List.take_append_drop]
  rw [e] at h; simp only [Bool.and_eq_true] at h; exact h.2
theorem digs_at {s : ByteArray} {k : Nat} (h : digs s.data.toList = true) (hk : k < s.size) : 48 ≤ s[k].toNat ∧ s[k].toNat ≤ 57 := by
  have := List.all_eq_true.1 h s[k] (by
    have : s[k] = s.data.toList[k]'(by simpa using hk) := rfl
    rw [this]; exact List.getElem_mem _)
  simpa using this
set_option maxHeartbeats 400000 in
theorem number_any (s : ByteArray) (w : World) (hd : digs s.data.toList = true) (hs : s.size ≤ 3) :
    Calls Tryd.prog 43 #[.string s] w fun e w' => e = .returned (.int .i64 (numv s.data.toList)) ∧ w = w' := by
  have HD := Lib.hid hd; clear hd
  go_enter Tryd.func43, Tryd.ntmps43
  go_wp2
  go_loop [3, 7] (fun n i => ∃ k : Nat, k ≤ s.size ∧ i = .int .i64 k ∧ n = .int .i64 (numv (s.data.toList.take k))) (fun _ i => s.size - (intOf i).toNat)
  case atStart => exact ⟨0, Nat.zero_le _, rfl, rfl⟩
  case round =>
    obtain ⟨k, hk, rfl, rfl⟩ := hrel
    have hl : (s.data.toList.take k).length = k := by rw [List.length_take]; simp only [Array.length_toList]; have : s.data.size = s.size := rfl; omega
    obtain ⟨hb1, hb2, -⟩ := numv_bd _ (digs_take k HD.out) (by omega)
    by_cases hlt : k < s.size
    · have hts := take_snoc s k hlt
      have H := Lib.hid (show numv (s.data.toList.take (k + 1)) = 10 * numv (s.data.toList.take k) + ((s[k].toNat : Int) - 48) by rw [hts, numv_snoc]; omega)
      obtain ⟨hc1, hc2⟩ := digs_at HD.out hlt
      have hc3 : (48 : Int) ≤ (s[k].toNat : Int) := by omega
      have hc4 : (s[k].toNat : Int) ≤ 57 := by omega
      clear hts hl
      go_wp2
      go_round
      case rel => exact ⟨k + 1, by omega, by go_num, by rw [H.out]⟩
      case measure => simp [intOf]; omega
    · have T := Lib.hid (show s.data.toList.take k = s.data.toList from List.take_of_length_le (by simp; omega))
      clear hl
      go_wp2
      go_ret
      exact ⟨ret_i64 (by rw [T.out]), rfl⟩
/-- The number in the bytes from a to b. -/
def fld (s : ByteArray) (a b : Nat) : Int := numv (s.extract a b).data.toList
theorem extract_list (s : ByteArray) (a b : Nat) : (s.extract a b).data.toList = (s.data.toList.drop a).take (b - a) := by
  simp [ByteArray.data_extract, List.extract_eq_take_drop]
theorem fld_bd (s : ByteArray) (a b : Nat) (h : digs s.data.toList = true) (hb : b - a ≤ 3) : 0 ≤ fld s a b ∧ fld s a b ≤ 999 := by
  have := numv_bd (s.extract a b).data.toList (by rw [extract_list]; exact digs_take _ (digs_drop _ h)) (by rw [extract_list, List.length_take]; omega)
  exact ⟨this.1, this.2.1⟩
theorem number_fld (s : ByteArray) (a b : Nat) (w : World) (h : digs s.data.toList = true) (hb : b - a ≤ 3) :
    Calls Tryd.prog 43 #[.string (s.extract a b)] w fun e w' => e = .returned (.int .i64 (fld s a b)) ∧ w = w' :=
  number_any _ w (by rw [extract_list]; exact digs_take _ (digs_drop _ h)) (by rw [ByteArray.size_extract]; omega)
/-- The cutset. -/
def ten : ByteArray := ⟨#[48, 49, 50, 51, 52, 53, 54, 55, 56, 57]⟩
theorem ten_has (c : UInt8) : ten.data.toList.contains c = (decide (48 ≤ c.toNat) && decide (c.toNat ≤ 57)) := by
  have : ∀ n : Fin 256, ten.data.toList.contains (UInt8.ofNat n.val) = (decide (48 ≤ (UInt8.ofNat n.val).toNat) && decide ((UInt8.ofNat n.val).toNat ≤ 57)) := by decide +kernel
  have h := this ⟨c.toNat, c.toNat_lt⟩
  rw [UInt8.ofNat_toNat] at h
  exact h
theorem drop_all {p : UInt8 → Bool} : ∀ l : List UInt8, (∀ c ∈ l, p c = true) → l.dropWhile p = []
  | [], _ => rfl
  | x :: l, h => by rw [List.dropWhile_cons, if_pos (h x (by simp))]; exact drop_all l fun c hc => h c (by simp [hc])
theorem drop_mem {p : UInt8 → Bool} {c : UInt8} (hn : p c = false) : ∀ l : List UInt8, c ∈ l → c ∈ l.dropWhile p
  | [], h => by cases h
  | x :: l, h => by
    rw [List.dropWhile_cons]
    split
    · rename_i hcx
      rcases List.mem_cons.1 h with rfl | hx
      · rw [hn] at hcx; cases hcx
      · exact drop_mem hn l hx
    · exact h
theorem trim_digs {l : List UInt8} (h : digs l = true) : Lib.trimS l ten.data.toList = [] := by
  have hr : Lib.trimRightS l ten.data.toList = [] := by
    unfold Lib.trimRightS
    rw [drop_all _ fun c hc => by
      rw [ten_has]
      exact List.all_eq_true.1 h c (List.mem_reverse.1 hc)]
    rfl
  unfold Lib.trimS; rw [hr]; rfl
theorem trim_other {l : List UInt8} (h : digs l = false) : Lib.trimS l ten.data.toList ≠ [] := by
  intro e
  obtain ⟨c, hc, hn⟩ : ∃ c ∈ l, ten.data.toList.contains c = false := by
    have h2 := h
    unfold digs at h2
    rw [List.all_eq_false] at h2
    obtain ⟨c, hc, hn⟩ := h2
    exact ⟨c, hc, by rw [ten_has]; simpa using hn⟩
  have hm : c ∈ Lib.trimS l ten.data.toList := by
    unfold Lib.trimS Lib.trimLeftS Lib.trimRightS
    exact drop_mem hn _ (List.mem_reverse.2 (drop_mem hn _ (List.mem_reverse.2 hc)))
  rw [e] at hm
  cases hm
theorem trim_any (s : ByteArray) (w : World) (hs : s.size = 8) :
    Calls Tryd.prog 42 #[.string s, .string ⟨#[48, 49, 50, 51, 52, 53, 54, 55, 56, 57]⟩] w fun e w' => e = .returned (.string ⟨(Lib.trimS s.data.toList ten.data.toList).toArray⟩) ∧ Below w.heap.size w w' :=
  (Any.strings_Trim_set Tryd.lays160 (fun _ => by kernel_rfl) (by kernel_rfl) s ten w (by decide) (by omega) (by omega) (by decide) (by
    intro j b hb
    have : ∀ c ∈ ten.data.toList, c.toNat < 128 := by decide
    exact this b (List.mem_of_getElem? hb))).mono fun e w' ⟨he, q, hw⟩ => ⟨he, hw ▸ below_drewN (((Below.refl _ _).alloc (Nat.le_refl _) _).alloc (by simp) _) q⟩
set_option maxHeartbeats 1000000 in
theorem parse_len (s : ByteArray) (w : World) (hs : s.size ≠ 8) :
    Calls Tryd.prog 29 #[.string s] w fun e w' => e = .returned (.tuple #[.agg #[.int .i64 0, .int .i64 0, .int .i64 0, .int .i64 0], .int .i64 3]) ∧ Below w.heap.size w w' := by
  have q : ((s.size : Int) != 8) = true := by rw [bne_iff_ne]; omega
  clear hs
  go_enter Tryd.func29, Tryd.ntmps29
  go_wp2_with fail
  exact bodyPost_ret (v := .tuple #[.agg #[.int .i64 0, .int .i64 0, .int .i64 0, .int .i64 0], .int .i64 3]) (by simp [results, Tryd.results29, go_sem]) rfl ⟨rfl, (Below.refl _ _).alloc (Nat.le_refl _) _⟩
end Go.Proofs.YteccblhmpggcgaaDoor
