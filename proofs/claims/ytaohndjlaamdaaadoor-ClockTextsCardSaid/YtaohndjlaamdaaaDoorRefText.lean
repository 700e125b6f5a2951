/- The contracts of the reference's digits and Format. -/
import Derived.Test.YtaohndjlaamdaaaDoorRefMin
import Derived.Test.YtaohndjlaamdaaaDoorParse
import Derived.Test.YtaohndjlaamdaaaDoorBox
import Derived.Laws.BytesArg
namespace Go.Proofs.YtaohndjlaamdaaaDoor
open Go.RowKit

/-- The last k digits of a number. -/
def dd (n : Int) : Nat → List UInt8
  | 0 => []
  | k + 1 => b10 (n / 10 ^ k % 10) :: dd n k
theorem dd_len (n : Int) : ∀ k, (dd n k).length = k
  | 0 => rfl
  | k + 1 => by rw [dd, List.length_cons, dd_len n k]
/-- What is left of a number, and its digits so far. -/
def DD (n : Int) (k : Nat) (q : Int) (l : List UInt8) : Prop := q = n / 10 ^ k ∧ l = dd n k
theorem DD.start (n : Int) : DD n 0 n [] := ⟨by simp, rfl⟩
theorem DD.step {n : Int} {k : Nat} {q : Int} {l : List UInt8} (h : DD n k q l) : DD n (k + 1) (q / 10) (b10 (q % 10) :: l) := by
  obtain ⟨rfl, rfl⟩ := h
  exact ⟨by rw [Int.pow_succ]; exact Int.ediv_ediv_of_nonneg (Int.pow_nonneg (by omega)), rfl⟩
theorem DD.two {n : Int} {q : Int} {l : List UInt8} (h : DD n 2 q l) (h1 : 0 ≤ n) (h2 : n ≤ 99) : l = dig2 n := by
  obtain ⟨-, rfl⟩ := h
  show [b10 (n / 10 ^ 1 % 10), b10 (n / 10 ^ 0 % 10)] = dig2 n
  unfold dig2
  rw [show n / 10 ^ 1 % 10 = n / 10 by omega, show n / 10 ^ 0 % 10 = n % 10 by omega]
theorem DD.four {n : Int} {q : Int} {l : List UInt8} (h : DD n 4 q l) (h1 : 0 ≤ n) (h2 : n ≤ 9999) : l = dig4 n := by
  obtain ⟨-, rfl⟩ := h
  show [b10 (n / 10 ^ 3 % 10), b10 (n / 10 ^ 2 % 10), b10 (n / 10 ^ 1 % 10), b10 (n / 10 ^ 0 % 10)] = dig4 n
  unfold dig4
  rw [show n / 10 ^ 3 % 10 = n / 1000 by omega, show n / 10 ^ 2 % 10 = n / 100 % 10 by omega, show n / 10 ^ 1 % 10 = n / 10 % 10 by omega, show n / 10 ^ 0 % 10 = n % 10 by omega]
/-- A byte made a text. -/
theorem conv_one (w : World) (c : Int) (h1 : 0 ≤ c) (h2 : c ≤ 9) :
    (convert 48 9 (.slice (some ⟨w.heap.size, 0, none⟩) 1 1)).run Tryd.prog (w.alloc (.cells #[.int .u8 (48 + c)] 5)) = .ok (.string (S [b10 c])) (w.alloc (.cells #[.int .u8 (48 + c)] 5)) := by
  have h := run_convert_bytes_arg (P := Tryd.prog) (w.alloc (.cells #[.int .u8 (48 + c)] 5)) 48 5 Tryd.underlying48 Tryd.underlying5 w.heap.size 0 1 1 [48 + c] rfl
    (fun i hi => by
      obtain rfl : i = 0 := by omega
      have := heap_alloc_new w (.cells #[.int .u8 (48 + c)] 5)
      unfold World.cell?; rw [this]; rfl) 9 Tryd.underlying9
  rw [h]
  rw [show strOfNums [48 + c] = S [b10 c] by
    unfold strOfNums S b10
    simp only [List.map_cons, List.map_nil]
    rw [show (48 + c).toNat = 48 + c.toNat by omega]]
theorem DD.len {n : Int} {k : Nat} {q : Int} {l : List UInt8} (h : DD n k q l) : l.length ≤ k := by rw [h.2, dd_len]; exact Nat.le_refl _
attribute [local go_sem] S_add S_size S_one dig2_length dig4_length
set_option maxHeartbeats 400000 in
theorem digits_any (n : Int) (width : Nat) (w : World) (h1 : 0 ≤ n) (h2 : n ≤ 9999) (h3 : width ≤ 4) :
    Calls Tryd.prog 42 #[.int .i64 n, .int .i64 width] w fun e w' => (∃ q l, e = .returned (.string (S l)) ∧ DD n width q l) ∧ Below w.heap.size w w' := by
  go_enter Tryd.func42, Tryd.ntmps42
  go_wp2
  go_loopw [0, 5, 6] (fun a s i wr => ∃ (k : Nat) (q : Int) (l : List UInt8), k ≤ width ∧ a = .int .i64 q ∧ s = .string (S l) ∧ i = .int .i64 k ∧ 0 ≤ q ∧ q ≤ 9999 ∧ DD n k q l ∧ Below w.heap.size w wr) (fun _ _ i _ => width - (intOf i).toNat)
  case atStart => exact ⟨0, n, [], Nat.zero_le _, rfl, rfl, rfl, h1, h2, DD.start n, Below.refl _ _⟩
  case round =>
    obtain ⟨k, q, l, hk, rfl, rfl, rfl, q1, q2, hd, hb⟩ := hrel
    by_cases hlt : k < width
    · have kc := conv_one wr (q % 10) (by omega) (by omega)
      have hll := hd.len
      go_wp2
      go_roundw
      case rel => exact ⟨k + 1, q / 10, b10 (q % 10) :: l, by omega, rfl, rfl, by go_num, by omega, by omega, hd.step, hb.alloc hb.size _⟩
      case measure => simp [intOf]; omega
    · obtain rfl : k = width := by omega
      go_wp2
      go_ret
      exact ⟨⟨q, l, rfl, hd⟩, hb⟩
theorem digits2 (W : World) (n : Int) (w : World) (hb : Below W.heap.size W w) (h1 : 0 ≤ n) (h2 : n ≤ 99) :
    Calls Tryd.prog 42 #[.int .i64 n, .int .i64 2] w fun e w' => e = .returned (.string (S (dig2 n))) ∧ Below W.heap.size W w' :=
  (digits_any n 2 w h1 (by omega) (by omega)).mono fun e w' ⟨⟨q, l, he, hd⟩, hb2⟩ => ⟨by rw [he, hd.two h1 h2], hb.trans (hb2.mono hb.size)⟩
theorem digits4 (W : World) (n : Int) (w : World) (hb : Below W.heap.size W w) (h1 : 0 ≤ n) (h2 : n ≤ 9999) :
    Calls Tryd.prog 42 #[.int .i64 n, .int .i64 4] w fun e w' => e = .returned (.string (S (dig4 n))) ∧ Below W.heap.size W w' :=
  (digits_any n 4 w h1 (by omega) (by omega)).mono fun e w' ⟨⟨q, l, he, hd⟩, hb2⟩ => ⟨by rw [he, hd.four h1 h2], hb.trans (hb2.mono hb.size)⟩
set_option maxHeartbeats 400000 in
theorem refFormat_no (n : Int) (w : World) (hr : Cal.rng n = false) :
    Calls Tryd.prog 29 #[.int .i64 n] w fun e w' => e = .returned (.tuple #[.string ⟨#[]⟩, .int .i64 1]) ∧ Below w.heap.size w w' := by
  go_enter Tryd.func29, Tryd.ntmps29
  go_wp2_with (go_at_call 20; refine (refDate_no _ _ hr).mono ?_; rintro e w1 ⟨rfl, hb⟩)
  go_ret2
  exact ⟨rfl, hb.alloc hb.size _⟩
end Go.Proofs.YtaohndjlaamdaaaDoor
