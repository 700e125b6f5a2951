/- Contracts of the reference's digits and Format; both texts are the same. -/
import Derived.Test.YteccblhmpggcgaaDoorBothParse
import Derived.Laws.BytesArg
namespace Go.Proofs.YteccblhmpggcgaaDoor
open Go.RowKit

/-- The last k digits of a number. -/
def dd (n : Int) : Nat → List UInt8
  | 0 => []
  | k + 1 => b10 (n / 10 ^ k % 10) :: dd n k
theorem dd_len (n : Int) : ∀ k, (dd n k).length = k
  | 0 => rfl
  | k + 1 => by rw [dd, List.length_cons, dd_len n k]
/-- What is left of a number, and its digits so far. -/
def DD (n : Int) (k : Nat) (q : Int) (l : List UInt8) : Prop := q = n / 10 ^ k ∧ l = dd n k
theorem DD.start (n : Int) : DD n 0 n [] := ⟨by simp, rfl⟩
theorem DD.step {n : Int} {k : Nat} {q : Int} {l : List UInt8} (h : DD n k q l) : DD n (k + 1) (q / 10) (b10 (q % 10) :: l) := by
  obtain ⟨rfl, rfl⟩ := h
  exact ⟨by rw [Int.pow_succ]; exact Int.ediv_ediv_of_nonneg (Int.pow_nonneg (by omega)), rfl⟩
theorem DD.two {n : Int} {q : Int} {l : List UInt8} (h : DD n 2 q l) (h1 : 0 ≤ n) (h2 : n ≤ 99) : l = dig2 n := by
  obtain ⟨-, rfl⟩ := h
  show [b10 (n / 10 ^ 1 % 10), b10 (n / 10 ^ 0 % 10)] = dig2 n
  unfold dig2
  rw [show n / 10 ^ 1 % 10 = n / 10 by omega, show n / 10 ^ 0 % 10 = n % 10 by omega]
theorem DD.three {n : Int} {q : Int} {l : List UInt8} (h : DD n 3 q l) (h1 : 0 ≤ n) (h2 : n ≤ 999) : l = dig3 n := by
  obtain ⟨-, rfl⟩ := h
  show [b10 (n / 10 ^ 2 % 10), b10 (n / 10 ^ 1 % 10), b10 (n / 10 ^ 0 % 10)] = dig3 n
  unfold dig3
  rw [show n / 10 ^ 2 % 10 = n / 100 by omega, show n / 10 ^ 1 % 10 = n / 10 % 10 by omega, show n / 10 ^ 0 % 10 = n % 10 by omega]
/-- A byte made a text. -/
theorem conv_one (w : World) (c : Int) (h1 : 0 ≤ c) (h2 : c ≤ 9) :
    (convert 51 9 (.slice (some ⟨w.heap.size, 0, none⟩) 1 1)).run Tryd.prog (w.alloc (.cells #[.int .u8 (48 + c)] 5)) = .ok (.string (S [b10 c])) (w.alloc (.cells #[.int .u8 (48 + c)] 5)) := by
  have h := run_convert_bytes_arg (P := Tryd.prog) (w.alloc (.cells #[.int .u8 (48 + c)] 5)) 51 5 Tryd.underlying51 Tryd.underlying5 w.heap.size 0 1 1 [48 + c] rfl
    (fun i hi => by
      obtain rfl : i = 0 := by omega
      have := heap_alloc_new w (.cells #[.int .u8 (48 + c)] 5)
      unfold World.cell?; rw [this]; rfl) 9 Tryd.underlying9
  rw [h]
  rw [show strOfNums [48 + c] = S [b10 c] by
    unfold strOfNums S b10
    simp only [List.map_cons, List.map_nil]
    rw [show (48 + c).toNat = 48 + c.toNat by omega]]
theorem DD.len {n : Int} {k : Nat} {q : Int} {l : List UInt8} (h : DD n k q l) : l.length ≤ k := by rw [h.2, dd_len]; exact Nat.le_refl _
theorem S_one (x : UInt8) : (⟨#[x]⟩ : ByteArray) = S [x] := rfl
attribute [local go_sem] S_add S_size S_one
set_option maxHeartbeats 400000 in
theorem refDigits_w (n : Int) (width : Nat) (w : World) (h1 : 0 ≤ n) (h2 : n ≤ 9999) (h3 : width ≤ 4) :
    Calls Tryd.prog 38 #[.int .i64 n, .int .i64 width] w fun e w' => (∃ q l, e = .returned (.string (S l)) ∧ DD n width q l) ∧ Below w.heap.size w w' := by
  go_enter Tryd.func38, Tryd.ntmps38
  go_wp2
  go_loopw [0, 5, 6] (fun a s i wr => ∃ (k : Nat) (q : Int) (l : List UInt8), k ≤ width ∧ a = .int .i64 q ∧ s = .string (S l) ∧ i = .int .i64 k ∧ 0 ≤ q ∧ q ≤ 9999 ∧ DD n k q l ∧ Below w.heap.size w wr) (fun _ _ i _ => width - (intOf i).toNat)
  case atStart => exact ⟨0, n, [], Nat.zero_le _, rfl, rfl, rfl, h1, h2, DD.start n, Below.refl _ _⟩
  case round =>
    obtain ⟨k, q, l, hk, rfl, rfl, rfl, q1, q2, hd, hb⟩ := hrel
    by_cases hlt : k < width
    · have kc := conv_one wr (q % 10) (by omega) (by omega)
      have hll := hd.len
      go_wp2
      go_roundw
      case rel => exact ⟨k + 1, q / 10, b10 (q % 10) :: l, by omega, rfl, rfl, by go_num, by omega, by omega, hd.step, hb.alloc hb.size _⟩
      case measure => simp [intOf]; omega
    · obtain rfl : k = width := by omega
      go_wp2
      go_ret
      exact ⟨⟨q, l, rfl, hd⟩, hb⟩
theorem refDigits (n k : Int) (w0 w : World) (hb : Below w0.heap.size w0 w) (h1 : 0 ≤ n) (h2 : (k = 2 ∧ n ≤ 99) ∨ (k = 3 ∧ n ≤ 999)) :
    Calls Tryd.prog 38 #[.int .i64 n, .int .i64 k] w fun e w' => e = .returned (.string (S (dg k n))) ∧ Below w0.heap.size w0 w' := by
  rcases h2 with ⟨rfl, h⟩ | ⟨rfl, h⟩
  · exact (refDigits_w n 2 w h1 (by omega) (by omega)).mono fun e w' ⟨⟨q, l, he, hd⟩, hb2⟩ => ⟨by rw [he, hd.two h1 h]; rfl, hb.trans (hb2.mono hb.size)⟩
  · exact (refDigits_w n 3 w h1 (by omega) (by omega)).mono fun e w' ⟨⟨q, l, he, hd⟩, hb2⟩ => ⟨by rw [he, hd.three h1 h]; rfl, hb.trans (hb2.mono hb.size)⟩
set_option maxHeartbeats 400000 in
theorem refFormat_no (F a b c : Int) (w : World) (hv : vb F a b c = false) :
    Calls Tryd.prog 18 #[.agg #[.int .i64 F, .int .i64 a, .int .i64 b, .int .i64 c]] w fun e w' => e = .returned (.tuple #[.string ⟨#[]⟩, .int .i64 1]) ∧ Below w.heap.size w w' := by
  go_enter Tryd.func18, Tryd.ntmps18
  go_wp2_with fail
  refine (refValid_is _ _ _ _ _ _ hv).mono ?_
  rintro e w1 ⟨rfl, g1⟩
  go_wp2_with fail
  go_ret2
  exact ⟨rfl, ((Below.refl _ _).alloc (Nat.le_refl _) _).trans (g1.mono (by simp))⟩
attribute [local go_sem] dg_two dg_three dig2_length dig3_length
set_option maxHeartbeats 1000000 in
theorem refFormat_yes (f : Nat) (a b c : Int) (w : World) (hv : Ico.Vld f a b c) :
    Calls Tryd.prog 18 #[.agg #[.int .i64 f, .int .i64 a, .int .i64 b, .int .i64 c]] w fun e w' => e = .returned (.tuple #[.string (S (txt f a b)), .int .i64 0]) ∧ Below w.heap.size w w' := by
  have v1 := vb_of hv
  obtain ⟨u1, u2, u3, u4, u5, -⟩ := hv
  go_enter Tryd.func18, Tryd.ntmps18
  go_wp2_with fail
  have r0 := Row.new w #[.int .i64 f, .int .i64 a, .int .i64 b, .int .i64 c] 23
  refine (refValid_is _ _ _ _ _ _ v1).mono ?_
  rintro e w1 ⟨rfl, g1⟩
  go_upto_region 3 with fail
  refine forget (fun Y => Below w.heap.size w Y ∧ Row Y w.heap.size 23 #[.int .i64 f, .int .i64 a, .int .i64 b, .int .i64 c]) ⟨((Below.refl _ _).alloc (Nat.le_refl _) _).trans (g1.mono (by simp)), r0.under g1⟩ ?_
  clear g1 r0
  rintro Y ⟨bY, BY⟩
  obtain ⟨k0, k1, k2, k3⟩ := row4 BY
  have R := Lib.hid BY; clear BY
  have hb2 := Below.refl Y.drew.heap.size Y.drew
  go_region_held3 (fun w' => w'.cell? ⟨w.heap.size, 0, none⟩ = some (.int .i64 f) ∧ w'.cell? ⟨w.heap.size, 1, none⟩ = some (.int .i64 a) ∧ w'.cell? ⟨w.heap.size, 2, none⟩ = some (.int .i64 b) ∧ w'.cell? ⟨w.heap.size, 3, none⟩ = some (.int .i64 c))
    (first | go_keep | exact row4 (Row.under (w := Y.drew) R.out hb2))
    (first | (go_at_call 38; refine (refDigits _ _ Y.drew _ hb2 (by omega) (by omega)).mono ?_; clear hb2; rintro e w2 ⟨rfl, hb2⟩))
  go_wp2
  go_ret2
  exact ⟨ret_str2 (by simp [txt]), bY.trans ((undrew hb2).mono bY.size)⟩
/-- Whatever the place: both functions answer the same text. -/
theorem both_format (F a b c : Int) : ∃ (t : ByteArray) (r : Int),
    (∀ w, Env w → Calls Tryd.prog 17 #[.agg #[.int .i64 F, .int .i64 a, .int .i64 b, .int .i64 c]] w fun e w' => e = .returned (.tuple #[.string t, .int .i64 r]) ∧ Below w.heap.size w w') ∧
    (∀ w, Calls Tryd.prog 18 #[.agg #[.int .i64 F, .int .i64 a, .int .i64 b, .int .i64 c]] w fun e w' => e = .returned (.tuple #[.string t, .int .i64 r]) ∧ Below w.heap.size w w') := by
  cases hv : vb F a b c
  · exact ⟨_, _, fun w _ => format_no F a b c w hv, fun w => refFormat_no F a b c w hv⟩
  · obtain ⟨f, rfl, h⟩ := vb_to hv
    exact ⟨_, _, fun w hE => format_yes f a b c w hE h, fun w => refFormat_yes f a b c w h⟩
end Go.Proofs.YteccblhmpggcgaaDoor
