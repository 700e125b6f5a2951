/- The contract of Parse of the program. -/
import Derived.Test.YtaohndjlaamdaaaDoorTexts
import Derived.Outline
namespace Go.Proofs.YtaohndjlaamdaaaDoor
open Go.RowKit

/-- The number in the bytes from a to b. -/
def fld (s : ByteArray) (a b : Nat) : Int := numv (s.extract a b).data.toList
theorem fld_mk (s : ByteArray) (a b : Nat) : numv (s.extract a b).data.toList = fld s a b := rfl
theorem fld_bd (s : ByteArray) (a b : Nat) (h : b - a ≤ 4) : -60000 ≤ fld s a b ∧ fld s a b ≤ 300000 :=
  numv_bd _ _ rfl (by rw [Array.length_toList]; show (s.extract a b).size ≤ 4; rw [ByteArray.size_extract]; omega)
theorem number_fld (s : ByteArray) (a b : Nat) (w : World) (h : b - a ≤ 4) :
    Calls Tryd.prog 39 #[.string (s.extract a b)] w fun e w' => e = .returned (.int .i64 (fld s a b)) ∧ w = w' :=
  number_any _ w (by rw [ByteArray.size_extract]; omega)

set_option maxHeartbeats 400000 in
theorem parse_len (s : ByteArray) (w : World) (hs : s.size ≠ 16) :
    Calls Tryd.prog 23 #[.string s] w fun e w' => e = .returned (.tuple #[.int .i64 0, .int .i64 3]) ∧ Below w.heap.size w w' := by
  go_enter Tryd.func23, Tryd.ntmps23
  go_wp2
  go_ret2
  exact ⟨rfl, Below.refl _ _⟩
set_option maxHeartbeats 400000 in
theorem parse_no (s : ByteArray) (w : World) (hT : Tab w) (hs : s.size = 16) (hv : Cal.vld (fld s 0 4) (fld s 5 7) (fld s 8 10) (fld s 11 13) (fld s 14 16) = false) :
    Calls Tryd.prog 23 #[.string s] w fun e w' => e = .returned (.tuple #[.int .i64 0, .int .i64 3]) ∧ Below w.heap.size w w' := by
  go_enter Tryd.func23, Tryd.ntmps23
  go_wp2
  go_region_held3 (fun _ => True) (trivial)
    (first | (go_at_call 39; refine (number_fld _ _ _ _ (by omega)).mono ?_; rintro e w2 ⟨rfl, rfl⟩) | (go_at_call 12; refine (minutes_no _ _ _ _ _ _ hT.drew hv).mono ?_; rintro e w3 ⟨rfl, hb3⟩))
  go_wp2
  go_ret2
  exact ⟨rfl, undrew hb3⟩
theorem toList_beq (a b : ByteArray) : (a.toList == b.toList) = decide (a = b) := by
  rw [ByteArray.toList_eq, ByteArray.toList_eq, Bool.eq_iff_iff]
  simp only [beq_iff_eq, decide_eq_true_eq]
  exact ⟨fun h => WideShapes.bytes_inj h, fun h => by rw [h]⟩
theorem toList_ne {a b : ByteArray} (h : a ≠ b) : (a.toList == b.toList) = false := by rw [toList_beq]; simp [h]
theorem toList_same {a b : ByteArray} (h : a = b) : (a.toList == b.toList) = true := by rw [toList_beq]; simp [h]
theorem ret_par {a c b d : Int} (h : a = b) (k : c = d) : Ending.returned (.tuple #[.int .i64 a, .int .i64 c]) = .returned (.tuple #[.int .i64 b, .int .i64 d]) := by rw [h, k]
set_option maxHeartbeats 400000 in
theorem parse_other (s : ByteArray) (w : World) (hE : Env w) (hs : s.size = 16) (hv : Cal.vld (fld s 0 4) (fld s 5 7) (fld s 8 10) (fld s 11 13) (fld s 14 16) = true)
    (hne : S (txt (fld s 0 4) (fld s 5 7) (fld s 8 10) (fld s 11 13) (fld s 14 16)) ≠ s) :
    Calls Tryd.prog 23 #[.string s] w fun e w' => e = .returned (.tuple #[.int .i64 0, .int .i64 3]) ∧ Below w.heap.size w w' := by
  have hq := toList_ne hne
  clear hne
  go_enter Tryd.func23, Tryd.ntmps23
  go_wp2
  go_region_held3 (fun _ => True) (trivial)
    (first | (go_at_call 39; refine (number_fld _ _ _ _ (by omega)).mono ?_; rintro e w2 ⟨rfl, rfl⟩) | (go_at_call 12; refine (minutes_yes _ _ _ _ _ _ hE.1.drew hv).mono ?_; rintro e w3 ⟨rfl, hb3⟩))
  have hb4 := undrew hb3
  have hE3 := hE.under hb4
  clear hb3
  go_wp2_with (go_at_call 22; refine (format_yes _ _ _ _ _ _ _ hE3 rfl hv).mono ?_; rintro e w4 ⟨rfl, hb5⟩)
  go_ret2
  exact ⟨rfl, hb4.trans (hb5.mono hb4.size)⟩
set_option maxHeartbeats 400000 in
theorem parse_yes (s : ByteArray) (w : World) (hE : Env w) (hs : s.size = 16) (hv : Cal.vld (fld s 0 4) (fld s 5 7) (fld s 8 10) (fld s 11 13) (fld s 14 16) = true)
    (he : S (txt (fld s 0 4) (fld s 5 7) (fld s 8 10) (fld s 11 13) (fld s 14 16)) = s) :
    Calls Tryd.prog 23 #[.string s] w fun e w' => e = .returned (.tuple #[.int .i64 (Cal.num (fld s 0 4) (fld s 5 7) (fld s 8 10) (fld s 11 13) (fld s 14 16)), .int .i64 0]) ∧ Below w.heap.size w w' := by
  have hq := toList_same he
  clear he
  go_enter Tryd.func23, Tryd.ntmps23
  go_wp2
  go_region_held3 (fun _ => True) (trivial)
    (first | (go_at_call 39; refine (number_fld _ _ _ _ (by omega)).mono ?_; rintro e w2 ⟨rfl, rfl⟩) | (go_at_call 12; refine (minutes_yes _ _ _ _ _ _ hE.1.drew hv).mono ?_; rintro e w3 ⟨rfl, hb3⟩))
  have hb4 := undrew hb3
  have hE3 := hE.under hb4
  clear hb3
  go_wp2_with (go_at_call 22; refine (format_yes _ _ _ _ _ _ _ hE3 rfl hv).mono ?_; rintro e w4 ⟨rfl, hb5⟩)
  go_ret2
  exact ⟨rfl, hb4.trans (hb5.mono hb4.size)⟩
end Go.Proofs.YtaohndjlaamdaaaDoor
