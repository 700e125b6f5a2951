/- Contracts of the reference's digits and Format; both texts are the same.; Contracts of the reference's in, ByLetter, Digits, Format.; The contract of the reference's Format on valid readings.; The contract of the reference's Parse; whatever the text, both functions answer the same.; Whatever the reading, whatever the text: Format and Parse of the program and of the reference answer the same.; The contract of the reference's Validate. -/
import Derived.Test.YtneglkfcelpdgaaGreatDoorMh
import Derived.Laws.BytesArg
import Derived.Test.YtneglkfcelpdgaaGreatDoorMr
import Derived.Test.YtneglkfcelpdgaaGreatDoorMs
namespace Go.Proofs.YtneglkfcelpdgaaGreatDoor.Pl
open Go.RowKit

/-- The last k digits of a number. -/
def dd (n : Int) : Nat → List UInt8
  | 0 => []
  | k + 1 => b10 (n / 10 ^ k % 10) :: dd n k
theorem dd_len (n : Int) : ∀ k, (dd n k).length = k
  | 0 => rfl
  | k + 1 => by rw [dd, List.length_cons, dd_len n k]
/-- What is left of a number, and its digits so far. -/
def DD (n : Int) (k : Nat) (q : Int) (l : List UInt8) : Prop := q = n / 10 ^ k ∧ l = dd n k
theorem DD.start (n : Int) : DD n 0 n [] := ⟨by simp, rfl⟩
theorem DD.step {n : Int} {k : Nat} {q : Int} {l : List UInt8} (h : DD n k q l) : DD n (k + 1) (q / 10) (b10 (q % 10) :: l) := by
  obtain ⟨rfl, rfl⟩ := h
  exact ⟨by rw [Int.pow_succ]; exact Int.ediv_ediv_of_nonneg (Int.pow_nonneg (by omega)), rfl⟩
theorem DD.two {n : Int} {q : Int} {l : List UInt8} (h : DD n 2 q l) (h1 : 0 ≤ n) (h2 : n ≤ 99) : l = dig2 n := by
  obtain ⟨-, rfl⟩ := h
  show [b10 (n / 10 ^ 1 % 10), b10 (n / 10 ^ 0 % 10)] = dig2 n
  unfold dig2
  rw [show n / 10 ^ 1 % 10 = n / 10 by omega, show n / 10 ^ 0 % 10 = n % 10 by omega]
theorem DD.three {n : Int} {q : Int} {l : List UInt8} (h : DD n 3 q l) (h1 : 0 ≤ n) (h2 : n ≤ 999) : l = dig3 n := by
  obtain ⟨-, rfl⟩ := h
  show [b10 (n / 10 ^ 2 % 10), b10 (n / 10 ^ 1 % 10), b10 (n / 10 ^ 0 % 10)] = dig3 n
  unfold dig3
  rw [show n / 10 ^ 2 % 10 = n / 100 by omega, show n / 10 ^ 1 % 10 = n / 10 % 10 by omega, show n / 10 ^ 0 % 10 = n % 10 by omega]
/-- A byte made a text. -/
theorem conv_one (w : World) (c : Int) (h1 : 0 ≤ c) (h2 : c ≤ 9) :
    (convert 45 9 (.slice (some ⟨w.heap.size, 0, none⟩) 1 1)).run Tryz.prog (w.alloc (.cells #[.int .u8 (48 + c)] 5)) = .ok (.string (S [b10 c])) (w.alloc (.cells #[.int .u8 (48 + c)] 5)) := by
  have h := run_convert_bytes_arg (P := Tryz.prog) (w.alloc (.cells #[.int .u8 (48 + c)] 5)) 45 5 Tryz.underlying45 Tryz.underlying5 w.heap.size 0 1 1 [48 + c] rfl
    (fun i hi => by
      obtain rfl : i = 0 := by omega
      have := heap_alloc_new w (.cells #[.int .u8 (48 + c)] 5)
      unfold World.cell?; rw [this]; rfl) 9 Tryz.underlying9
  rw [h]
  rw [show strOfNums [48 + c] = S [b10 c] by
    unfold strOfNums S b10
    simp only [List.map_cons, List.map_nil]
    rw [show (48 + c).toNat = 48 + c.toNat by omega]]
theorem DD.len {n : Int} {k : Nat} {q : Int} {l : List UInt8} (h : DD n k q l) : l.length ≤ k := by rw [h.2, dd_len]; exact Nat.le_refl _
theorem S_one (x : UInt8) : (⟨#[x]⟩ : ByteArray) = S [x] := rfl
attribute [local go_sem] S_add S_size S_one
set_option maxHeartbeats 400000 in
theorem refDigits_w (n : Int) (width : Nat) (w : World) (h1 : 0 ≤ n) (h2 : n ≤ 9999) (h3 : width ≤ 4) :
    Calls Tryz.prog 82 #[.int .i64 n, .int .i64 width] w fun e w' => (∃ q l, e = .returned (.string (S l)) ∧ DD n width q l) ∧ Below w.heap.size w w' := by
  go_enter Tryz.func82, Tryz.ntmps82
  go_wp2
  go_loopw [0, 5, 6] (fun a s i wr => ∃ (k : Nat) (q : Int) (l : List UInt8), k ≤ width ∧ a = .int .i64 q ∧ s = .string (S l) ∧ i = .int .i64 k ∧ 0 ≤ q ∧ q ≤ 9999 ∧ DD n k q l ∧ Below w.heap.size w wr) (fun _ _ i _ => width - (intOf i).toNat)
  case atStart => exact ⟨0, n, [], Nat.zero_le _, rfl, rfl, rfl, h1, h2, DD.start n, Below.refl _ _⟩
  case round =>
    obtain ⟨k, q, l, hk, rfl, rfl, rfl, q1, q2, hd, hb⟩ := hrel
    by_cases hlt : k < width
    · have kc := conv_one wr (q % 10) (by omega) (by omega)
      have hll := hd.len
      go_wp2
      go_roundw
      case rel => exact ⟨k + 1, q / 10, b10 (q % 10) :: l, by omega, rfl, rfl, by go_num, by omega, by omega, hd.step, hb.alloc hb.size _⟩
      case measure => simp [intOf]; omega
    · obtain rfl : k = width := by omega
      go_wp2
      go_ret
      exact ⟨⟨q, l, rfl, hd⟩, hb⟩
theorem refDigits (n k : Int) (w0 w : World) (hb : Below w0.heap.size w0 w) (h1 : 0 ≤ n) (h2 : (k = 2 ∧ n ≤ 99) ∨ (k = 3 ∧ n ≤ 999)) :
    Calls Tryz.prog 82 #[.int .i64 n, .int .i64 k] w fun e w' => e = .returned (.string (S (dg k n))) ∧ Below w0.heap.size w0 w' := by
  rcases h2 with ⟨rfl, h⟩ | ⟨rfl, h⟩
  · exact (refDigits_w n 2 w h1 (by omega) (by omega)).mono fun e w' ⟨⟨q, l, he, hd⟩, hb2⟩ => ⟨by rw [he, hd.two h1 h]; rfl, hb.trans (hb2.mono hb.size)⟩
  · exact (refDigits_w n 3 w h1 (by omega) (by omega)).mono fun e w' ⟨⟨q, l, he, hd⟩, hb2⟩ => ⟨by rw [he, hd.three h1 h]; rfl, hb.trans (hb2.mono hb.size)⟩
set_option maxHeartbeats 400000 in
theorem refFormat_no (F a b c : Int) (w : World) (hv : vb F a b c = false) :
    Calls Tryz.prog 40 #[.agg #[.int .i64 F, .int .i64 a, .int .i64 b, .int .i64 c]] w fun e w' => e = .returned (.tuple #[.string ⟨#[]⟩, .int .i64 1]) ∧ Below w.heap.size w w' := by
  go_enter Tryz.func40, Tryz.ntmps40
  go_wp2_with fail
  refine (refValid_is _ _ _ _ _ _ hv).mono ?_
  rintro e w1 ⟨rfl, g1⟩
  go_wp2_with fail
  go_ret2
  exact ⟨rfl, ((Below.refl _ _).alloc (Nat.le_refl _) _).trans (g1.mono (by simp))⟩
attribute [local go_sem] dg_two dg_three dig2_length dig3_length
set_option maxHeartbeats 1000000 in
theorem refFormat_yes (f : Nat) (a b c : Int) (w : World) (hv : Ico.Vld f a b c) :
    Calls Tryz.prog 40 #[.agg #[.int .i64 f, .int .i64 a, .int .i64 b, .int .i64 c]] w fun e w' => e = .returned (.tuple #[.string (S (txt f a b)), .int .i64 0]) ∧ Below w.heap.size w w' := by
  have v1 := vb_of hv
  obtain ⟨u1, u2, u3, u4, u5, -⟩ := hv
  go_enter Tryz.func40, Tryz.ntmps40
  go_wp2_with fail
  have r0 := Row.new w #[.int .i64 f, .int .i64 a, .int .i64 b, .int .i64 c] 23
  refine (refValid_is _ _ _ _ _ _ v1).mono ?_
  rintro e w1 ⟨rfl, g1⟩
  go_upto_region 3 with fail
  refine forget (fun Y => Below w.heap.size w Y ∧ Row Y w.heap.size 23 #[.int .i64 f, .int .i64 a, .int .i64 b, .int .i64 c]) ⟨((Below.refl _ _).alloc (Nat.le_refl _) _).trans (g1.mono (by simp)), r0.under g1⟩ ?_
  clear g1 r0
  rintro Y ⟨bY, BY⟩
  obtain ⟨k0, k1, k2, k3⟩ := row4 BY
  have R := Lib.hid BY; clear BY
  have hb2 := Below.refl Y.drew.heap.size Y.drew
  go_region_held3 (fun w' => w'.cell? ⟨w.heap.size, 0, none⟩ = some (.int .i64 f) ∧ w'.cell? ⟨w.heap.size, 1, none⟩ = some (.int .i64 a) ∧ w'.cell? ⟨w.heap.size, 2, none⟩ = some (.int .i64 b) ∧ w'.cell? ⟨w.heap.size, 3, none⟩ = some (.int .i64 c))
    (first | go_keep | exact row4 (Row.under (w := Y.drew) R.out hb2))
    (first | (go_at_call 82; refine (refDigits _ _ Y.drew _ hb2 (by omega) (by omega)).mono ?_; clear hb2; rintro e w2 ⟨rfl, hb2⟩))
  go_wp2
  go_ret2
  exact ⟨ret_str2 (by simp [txt]), bY.trans ((undrew hb2).mono bY.size)⟩
/-- Whatever the place: both functions answer the same text. -/
theorem both_format (F a b c : Int) : ∃ (t : ByteArray) (r : Int),
    (∀ w, Env w → Calls Tryz.prog 35 #[.agg #[.int .i64 F, .int .i64 a, .int .i64 b, .int .i64 c]] w fun e w' => e = .returned (.tuple #[.string t, .int .i64 r]) ∧ Below w.heap.size w w') ∧
    (∀ w, Calls Tryz.prog 40 #[.agg #[.int .i64 F, .int .i64 a, .int .i64 b, .int .i64 c]] w fun e w' => e = .returned (.tuple #[.string t, .int .i64 r]) ∧ Below w.heap.size w w') := by
  cases hv : vb F a b c
  · exact ⟨_, _, fun w _ => format_no F a b c w hv, fun w => refFormat_no F a b c w hv⟩
  · obtain ⟨f, rfl, h⟩ := vb_to hv
    exact ⟨_, _, fun w hE => format_yes f a b c w hE h, fun w => refFormat_yes f a b c w h⟩
end Go.Proofs.YtneglkfcelpdgaaGreatDoor.Pl
namespace Go.Proofs.YtneglkfcelpdgaaGreatDoor.El
open Go.RowKit

set_option maxHeartbeats 1000000 in
theorem refIn_any (c v : Int) (w : World) (h : Elt.Ex c) :
    Calls Tryz.prog 84 #[rdV c v] w fun e w' => e = .returned (.bool (decide (Elt.lo c ≤ v ∧ v ≤ Elt.hi c))) ∧ Below w.heap.size w w' := by
  have b0 : Below w.heap.size w (w.alloc (.cells #[.int .i64 c, .int .i64 v] 63)) := (Below.refl _ _).alloc (Nat.le_refl _) _
  have r0 := Row.new w #[.int .i64 c, .int .i64 v] 63
  go_enter Tryz.func84, Tryz.ntmps84
  go_wp2_with fail
  generalize w.alloc (.cells #[.int .i64 c, .int .i64 v] 63) = W0 at *
  refine (refDescribe_yes c _ h).mono ?_
  rintro e w1 ⟨rfl, g1⟩
  go_upto_region 2 with fail
  refine forget (fun Y => Below w.heap.size w Y ∧ Row Y w.heap.size 63 #[.int .i64 c, .int .i64 v] ∧ Row Y w1.heap.size 100 #[.string (S [Elt.lt c]), .int .i64 (Elt.lo c), .int .i64 (Elt.hi c), .int .i64 (Elt.dg c)]) ⟨(b0.trans (g1.mono b0.size)).alloc (Nat.le_trans b0.size g1.size) _, (r0.under g1).alloc _, Row.new _ _ _⟩ ?_
  clear g1 b0 r0
  rintro Y ⟨bY, r2, r4⟩
  obtain ⟨p0, p1⟩ := row2 r2
  obtain ⟨q0, q1, q2, q3⟩ := row4 r4
  have BY := Lib.hid bY; clear bY r2 r4
  by_cases h1 : Elt.lo c ≤ v
  · by_cases h2 : v ≤ Elt.hi c
    · have HD := Lib.hid (show decide (Elt.lo c ≤ v ∧ v ≤ Elt.hi c) = true from decide_eq_true ⟨h1, h2⟩)
      go_wp2_with fail
      go_ret
      exact ⟨ret_bool HD.out.symm, BY.out⟩
    · have HD := Lib.hid (show decide (Elt.lo c ≤ v ∧ v ≤ Elt.hi c) = false from decide_eq_false (fun h => h2 h.2))
      go_wp2_with fail
      go_ret
      exact ⟨ret_bool (decide_eq_false (by omega)).symm, BY.out⟩
  · have HD := Lib.hid (show decide (Elt.lo c ≤ v ∧ v ≤ Elt.hi c) = false from decide_eq_false (fun h => h1 h.1))
    go_wp2_with fail
    go_ret
    exact ⟨ret_bool (by rw [decide_eq_false (show ¬ Elt.lo c ≤ v by omega)]; rfl), BY.out⟩
set_option maxHeartbeats 1000000 in
theorem refByLetter_yes (c : Int) (w : World) (h : Elt.Ex c) :
    Calls Tryz.prog 104 #[.string (S [Elt.lt c])] w fun e w' => e = .returned (.tuple #[.int .i64 c, .int .i64 0]) ∧ Below w.heap.size w w' := by
  have HX := Lib.hid h
  obtain ⟨c1, c2⟩ := h
  go_enter Tryz.func104, Tryz.ntmps104
  go_wp2_with fail
  go_loopw [4] (fun t wr => ∃ k : Int, 1 ≤ k ∧ k ≤ c ∧ t = .int .i64 k ∧ Below w.heap.size w wr) (fun t _ => (12 - intOf t).toNat)
  case atStart => exact ⟨1, by omega, by omega, rfl, Below.refl _ _⟩
  case round =>
    obtain ⟨k, k1, k2, rfl, hb⟩ := hrel
    have k3 : k ≤ 11 := by omega
    have HK : Hid (Elt.Ex k) := Lib.hid ⟨k1, k3⟩
    have HB := Lib.hid hb; clear hb
    by_cases he : k = c
    · subst he
      have HD := Lib.hid (fun W => refDescribe_yes k W HK.out)
      have x1 : ((S [Elt.lt k]).toList == (S [Elt.lt k]).toList) = true := beq_self_eq_true _
      simp only [infoV] at HD
      generalize S [Elt.lt k] = sk at *
      go_wp2_with fail
      refine (HD.out _).mono ?_
      rintro e w1 ⟨rfl, g1⟩
      have B1 := Lib.hid ((HB.out.trans (g1.mono HB.out.size))); clear g1
      go_wp2_with fail
      go_ret2
      exact ⟨rfl, B1.out.alloc B1.out.size _⟩
    · have hne : ((S [Elt.lt k]).toList == (S [Elt.lt c]).toList) = false := toList_ne (fun e => he (Elt.lt_inj HK.out HX.out (by have := S_inj e; injection this)))
      have HE := Lib.hid he; clear he
      have HD := Lib.hid (fun W => refDescribe_yes k W HK.out)
      simp only [infoV] at HD
      generalize S [Elt.lt k] = sk at *
      generalize S [Elt.lt c] = sc at *
      go_wp2_with fail
      refine (HD.out _).mono ?_
      rintro e w1 ⟨rfl, g1⟩
      have B1 := Lib.hid ((HB.out.trans (g1.mono HB.out.size))); clear g1
      go_wp2_with fail
      go_roundw
      case rel => exact ⟨k + 1, by omega, by have := HE.out; omega, by go_num, B1.out.alloc B1.out.size _⟩
      case measure => simp [intOf]; omega
set_option maxHeartbeats 1000000 in
theorem refByLetter_no (s : ByteArray) (w : World) (h : ∀ c, Elt.Ex c → s ≠ S [Elt.lt c]) :
    Calls Tryz.prog 104 #[.string s] w fun e w' => e = .returned (.tuple #[.int .i64 0, .int .i64 9]) ∧ Below w.heap.size w w' := by
  have H := Lib.hid h; clear h
  go_enter Tryz.func104, Tryz.ntmps104
  go_wp2_with fail
  go_loopw [4] (fun t wr => ∃ k : Int, 1 ≤ k ∧ k ≤ 12 ∧ t = .int .i64 k ∧ Below w.heap.size w wr) (fun t _ => (12 - intOf t).toNat)
  case atStart => exact ⟨1, by omega, by omega, rfl, Below.refl _ _⟩
  case round =>
    obtain ⟨k, k1, k2, rfl, hb⟩ := hrel
    have HB := Lib.hid hb; clear hb
    by_cases k3 : k ≤ 11
    · have HK : Hid (Elt.Ex k) := Lib.hid ⟨k1, k3⟩
      have hne : ((S [Elt.lt k]).toList == s.toList) = false := toList_ne (fun e => H.out k HK.out e.symm)
      have HD := Lib.hid (fun W => refDescribe_yes k W HK.out)
      simp only [infoV] at HD
      generalize S [Elt.lt k] = sk at *
      go_wp2_with fail
      refine (HD.out _).mono ?_
      rintro e w1 ⟨rfl, g1⟩
      have B1 := Lib.hid ((HB.out.trans (g1.mono HB.out.size))); clear g1
      go_wp2_with fail
      go_roundw
      case rel => exact ⟨k + 1, by omega, by omega, by go_num, B1.out.alloc B1.out.size _⟩
      case measure => simp [intOf]; omega
    · go_wp2_with fail
      go_ret2
      exact ⟨rfl, HB.out⟩
/-- A byte made a text. -/
theorem conv_one (w : World) (c : Nat) (h2 : c ≤ 9) :
    (convert 45 9 (.slice (some ⟨w.heap.size, 0, none⟩) 1 1)).run Tryz.prog (w.alloc (.cells #[.int .u8 (48 + (c : Int))] 5)) = .ok (.string (S [Elt.b10 c])) (w.alloc (.cells #[.int .u8 (48 + (c : Int))] 5)) := by
  have h := run_convert_bytes_arg (P := Tryz.prog) (w.alloc (.cells #[.int .u8 (48 + (c : Int))] 5)) 45 5 Tryz.underlying45 Tryz.underlying5 w.heap.size 0 1 1 [48 + (c : Int)] rfl
    (fun i hi => by
      obtain rfl : i = 0 := by omega
      have := heap_alloc_new w (.cells #[.int .u8 (48 + (c : Int))] 5)
      unfold World.cell?; rw [this]; rfl) 9 Tryz.underlying9
  rw [h]
  rw [show strOfNums [48 + (c : Int)] = S [Elt.b10 c] by
    unfold strOfNums S Elt.b10
    simp only [List.map_cons, List.map_nil]
    rw [show (48 + (c : Int)).toNat = 48 + c by omega]]
theorem S_one (x : UInt8) : (⟨#[x]⟩ : ByteArray) = S [x] := rfl
attribute [local go_sem] S_add S_size S_one
set_option maxHeartbeats 400000 in
theorem refDigits_any (n k : Nat) (w : World) (h2 : n ≤ 99999) (h3 : k ≤ 9) :
    Calls Tryz.prog 80 #[.int .i64 n, .int .i64 k] w fun e w' => e = .returned (.string (S (Elt.ddn n k))) ∧ Below w.heap.size w w' := by
  go_enter Tryz.func80, Tryz.ntmps80
  go_wp2_with fail
  go_loopw [0, 5, 6] (fun a s i wr => ∃ (j : Nat) (q : Nat) (l : List UInt8), j ≤ k ∧ a = .int .i64 (q : Int) ∧ s = .string (S l) ∧ i = .int .i64 j ∧ q ≤ 99999 ∧ Hid (q = n / 10 ^ j ∧ l = Elt.ddn n j) ∧ l.length ≤ 9 ∧ Below w.heap.size w wr) (fun _ _ i _ => k - (intOf i).toNat)
  case atStart => exact ⟨0, n, [], Nat.zero_le _, rfl, rfl, rfl, h2, Lib.hid ⟨by simp, rfl⟩, by simp, Below.refl _ _⟩
  case round =>
    obtain ⟨j, q, l, hj, rfl, rfl, rfl, q2, hd, hl, hb⟩ := hrel
    by_cases hlt : j < k
    · have kc := conv_one wr (q % 10) (by omega)
      have m1 : ((q % 10 : Nat) : Int) = (q : Int) % 10 := by omega
      rw [m1] at kc
      have HB := Lib.hid hb; clear hb
      have HL : Hid (l.length = j) := Lib.hid (by rw [hd.out.2, Elt.ddn_len])
      go_wp2_with fail
      go_roundw
      case rel => exact ⟨j + 1, q / 10, Elt.b10 (q % 10) :: l, by omega, by go_num, rfl, by go_num, by omega, Lib.hid ⟨by rw [hd.out.1, Nat.pow_succ, Nat.div_div_eq_div_mul], by rw [Elt.ddn, ← hd.out.1, ← hd.out.2]⟩, by have := HL.out; simp; omega, HB.out.alloc HB.out.size _⟩
      case measure => simp [intOf]; omega
    · obtain rfl : j = k := by omega
      go_wp2_with fail
      go_ret
      exact ⟨ret_str (by rw [hd.out.2]), hb⟩
set_option maxHeartbeats 1000000 in
theorem refFormat_no (c v : Int) (w : World) (h : Elt.chk c v ≠ 0) :
    Calls Tryz.prog 41 #[rdV c v] w fun e w' => e = .returned (.tuple #[.string ⟨#[]⟩, .int .i64 (Elt.chk c v)]) ∧ Below w.heap.size w w' := by
  have b0 : Below w.heap.size w (w.alloc (.cells #[.int .i64 c, .int .i64 v] 63)) := (Below.refl _ _).alloc (Nat.le_refl _) _
  have r0 := Row.new w #[.int .i64 c, .int .i64 v] 63
  rcases Elt.chk_cases c v with ⟨-, hk⟩ | ⟨hx, hr, hk⟩ | ⟨hx, hk⟩
  · exact absurd hk h
  · rw [hk]
    clear h hk
    have HI := Lib.hid (fun W => refIn_any c v W hx)
    rw [decide_eq_false hr] at HI
    have HD := Lib.hid (fun W => refDescribe_yes c W hx)
    clear hr hx
    simp only [infoV] at HD
    go_enter Tryz.func41, Tryz.ntmps41
    go_wp2_with fail
    generalize w.alloc (.cells #[.int .i64 c, .int .i64 v] 63) = W0 at *
    refine (HD.out _).mono ?_
    rintro e w1 ⟨rfl, g1⟩
    have b1 := b0.trans (g1.mono b0.size)
    have r1 := r0.under g1
    clear g1 b0 r0
    go_upto_region 4 with fail
    refine forget (fun Y => Below w.heap.size w Y ∧ Row Y w.heap.size 63 #[.int .i64 c, .int .i64 v]) ⟨b1.alloc b1.size _, r1.alloc _⟩ ?_
    clear b1 r1
    rintro Y ⟨bY, rY⟩
    obtain ⟨p0, p1⟩ := row2 rY
    go_wp2_with fail
    refine (HI.out _).mono ?_
    rintro e w2 ⟨rfl, g2⟩
    have B2 := Lib.hid (bY.trans (g2.mono bY.size)); clear g2 bY rY p0 p1
    go_wp2_with fail
    go_ret2
    exact ⟨rfl, B2.out⟩
  · rw [hk]
    clear h hk
    have HD := Lib.hid (fun W => refDescribe_no c W hx)
    clear hx
    go_enter Tryz.func41, Tryz.ntmps41
    go_wp2_with fail
    generalize w.alloc (.cells #[.int .i64 c, .int .i64 v] 63) = W0 at *
    refine (HD.out _).mono ?_
    rintro e w1 ⟨rfl, g1⟩
    have B1 := Lib.hid (b0.trans (g1.mono b0.size))
    clear g1 b0 r0
    go_wp2_with fail
    go_ret2
    exact ⟨rfl, B1.out.alloc B1.out.size _⟩
end Go.Proofs.YtneglkfcelpdgaaGreatDoor.El
namespace Go.Proofs.YtneglkfcelpdgaaGreatDoor.El
open Go.RowKit

attribute [local go_sem] S_add S_size S_one
set_option maxRecDepth 100000 in
set_option maxHeartbeats 2000000 in
theorem refFormat_yes (c v : Int) (w : World) (h : Elt.Val c v) :
    Calls Tryz.prog 41 #[rdV c v] w fun e w' => e = .returned (.tuple #[.string (S (Elt.txt c v)), .int .i64 0]) ∧ Below w.heap.size w w' := by
  have b0 : Below w.heap.size w (w.alloc (.cells #[.int .i64 c, .int .i64 v] 63)) := (Below.refl _ _).alloc (Nat.le_refl _) _
  have r0 := Row.new w #[.int .i64 c, .int .i64 v] 63
  obtain ⟨d1, d2, d3, d4⟩ := Elt.val_bd h
  obtain ⟨-, f6, f7, -⟩ := Elt.facts h.1
  have HI := Lib.hid (fun W => refIn_any c v W h.1)
  rw [decide_eq_true h.2] at HI
  have HD := Lib.hid (fun W => refDescribe_yes c W h.1)
  have hsg : Hid (Elt.txt c v = [Elt.lt c] ++ Elt.sg v ++ Elt.ddn v.natAbs (Elt.dg c)) := Lib.hid (by simp [Elt.txt, Elt.tail])
  clear h
  simp only [infoV] at HD
  go_enter Tryz.func41, Tryz.ntmps41
  go_wp2_with fail
  generalize w.alloc (.cells #[.int .i64 c, .int .i64 v] 63) = W0 at *
  refine (HD.out _).mono ?_
  rintro e w1 ⟨rfl, g1⟩
  have b1 := b0.trans (g1.mono b0.size)
  have r1 := r0.under g1
  clear g1 b0 r0
  obtain ⟨k, hk⟩ : ∃ k, Elt.dg c = k := ⟨_, rfl⟩
  have hk4 : 4 ≤ k := by omega
  have hk5 : k ≤ 5 := by omega
  go_upto_region 4 with fail
  refine forget (fun Y => Below w.heap.size w Y ∧ Row Y w.heap.size 63 #[.int .i64 c, .int .i64 v] ∧ Row Y w1.heap.size 100 #[.string (S [Elt.lt c]), .int .i64 (Elt.lo c), .int .i64 (Elt.hi c), .int .i64 k]) ⟨b1.alloc b1.size _, r1.alloc _, by rw [← hk]; exact Row.new _ _ _⟩ ?_
  rw [hk] at hsg
  clear b1 r1 HD d4 f6 f7 hk
  generalize w1.heap.size = gi at *
  rintro Y ⟨bY, rY, iY⟩
  obtain ⟨p0, p1⟩ := row2 rY
  go_wp2_with fail
  refine (HI.out _).mono ?_
  rintro e w2 ⟨rfl, g2⟩
  have b2 := bY.trans (g2.mono bY.size)
  have r2 := rY.under g2
  have i2 := iY.under g2
  clear g2 bY rY iY p0 p1
  obtain ⟨p0, p1⟩ := row2 r2
  obtain ⟨q0, q1, q2, q3⟩ := row4 i2
  have B2 := Lib.hid b2
  have R2 := Lib.hid r2
  have I2 := Lib.hid i2
  clear b2 r2 i2
  have hn : v.natAbs ≤ 99999 := by omega
  have HG := Lib.hid (fun W => refDigits_any v.natAbs k W hn (by omega))
  have S0 : w2.drew.cell? ⟨gi, 0, none⟩ = some (.string (S [Elt.lt c])) ∧ w2.drew.cell? ⟨gi, 3, none⟩ = some (.int .i64 k) ∧ w2.drew.cell? ⟨w.heap.size, 1, none⟩ = some (.int .i64 v) := ⟨q0, q3, p1⟩
  have SK : Hid (∀ W', Below w2.heap.size w2 W' → W'.cell? ⟨gi, 0, none⟩ = some (.string (S [Elt.lt c])) ∧ W'.cell? ⟨gi, 3, none⟩ = some (.int .i64 k) ∧ W'.cell? ⟨w.heap.size, 1, none⟩ = some (.int .i64 v)) := Lib.hid (fun W' hb => by
    have := row4 (I2.out.under hb)
    have h2 := row2 (R2.out.under hb)
    exact ⟨this.1, this.2.2.2, h2.2⟩)
  have hl := Elt.ddn_len v.natAbs k
  have kb1 : ¬ 9223372036854775807 < 1 + k := by omega
  have kb2 : ¬ 9223372036854775807 < 2 + k := by omega
  by_cases hv : v < 0
  · have x1 : IntKind.i64.wrap (-v) = ((v.natAbs : Nat) : Int) := by rw [show -v = ((v.natAbs : Nat) : Int) by omega]; exact IntWalk.i64_in _ (by omega)
    have s1 := Lib.hid (show Elt.sg v = [45] from if_pos hv)
    generalize Elt.ddn v.natAbs k = dl at *
    go_upto_region 7 with fail
    refine wp_region_held_drew (S := fun w' : World => w'.cell? ⟨gi, 0, none⟩ = some (.string (S [Elt.lt c])) ∧ w'.cell? ⟨gi, 3, none⟩ = some (.int .i64 k) ∧ w'.cell? ⟨w.heap.size, 1, none⟩ = some (.int .i64 v)) (by kernel_rfl) S0 (fun hHeld => ?_)
    refine wpAnyH_take (i := 0) (v := ?_) rfl (by kernel_rfl) (by kernel_rfl) (by kernel_rfl) (fun _ _ _ h => h) (Or.inl ⟨by rfl, ?_⟩) (by assumption) ?_
    case refine_2 => (intro wx hSx; (try dsimp only at hSx); go_simp; first | done | with_reducible rfl)
    try simp only [Act.put]
    refine wpAnyH_take (i := 1) (v := ?_) rfl (by kernel_rfl) (by kernel_rfl) (by kernel_rfl) (fun _ _ _ h => h) (Or.inl ⟨by rfl, ?_⟩) (by assumption) ?_
    case refine_2 => (intro wx hSx; (try dsimp only at hSx); go_simp; first | done | with_reducible rfl)
    try simp only [Act.put]
    refine wpAnyH_take (i := 2) (v := ?_) rfl (by kernel_rfl) (by kernel_rfl) (by kernel_rfl) (fun _ _ _ h => h) (Or.inl ⟨by rfl, ?_⟩) (by assumption) ?_
    case refine_2 => (intro wx hSx; (try dsimp only at hSx); go_simp; first | done | with_reducible rfl)
    try simp only [Act.put]
    refine wpAnyH_take (i := 3) (v := ?_) rfl (by kernel_rfl) (by kernel_rfl) (by kernel_rfl) (fun _ _ _ h => h) (Or.inl ⟨by rfl, ?_⟩) (by assumption) ?_
    case refine_2 => (intro wx hSx; (try dsimp only at hSx); go_simp; first | done | with_reducible rfl)
    try simp only [Act.put]
    refine wpAnyH_take (i := 4) (v := ?_) rfl (by kernel_rfl) (by kernel_rfl) (by kernel_rfl) (fun _ _ _ h => h) (Or.inl ⟨by rfl, ?_⟩) (by assumption) ?_
    case refine_2 => (intro wx hSx; (try dsimp only at hSx); go_simp; first | done | with_reducible rfl)
    try simp only [Act.put]
    refine wpAnyH_take (i := 5) (v := ?_) rfl (by kernel_rfl) (by kernel_rfl) (by kernel_rfl) (fun _ _ _ h => h) (Or.inl ⟨by rfl, ?_⟩) (by assumption) ?_
    case refine_2 => (intro wx hSx; (try dsimp only at hSx); go_simp; first | done | with_reducible rfl)
    try simp only [Act.put]
    refine wpAnyH_take (i := 6) (v := ?_) rfl (by kernel_rfl) (by kernel_rfl) (by kernel_rfl) (fun _ _ _ h => h) (Or.inl ⟨by rfl, ?_⟩) (by assumption) ?_
    case refine_2 => (intro wx hSx; (try dsimp only at hSx); go_simp; first | done | with_reducible rfl)
    try simp only [Act.put]
    refine wpAnyH_take (i := 7) (v := ?_) rfl (by kernel_rfl) (by kernel_rfl) (by kernel_rfl) (fun _ _ _ h => h) (Or.inl ⟨by rfl, ?_⟩) (by assumption) ?_
    case refine_2 => (intro wx hSx; (try dsimp only at hSx); go_simp; first | done | with_reducible rfl)
    try simp only [Act.put]
    refine wpAnyH_ready (rs := [8]) (by kernel_rfl) (by simp) ?_
    refine AllReadyH.cons rfl (fun K hK => ?_) AllReadyH.nil
    go_simp
    refine (HG.out _).mono ?_
    rintro e w3 ⟨rfl, g3⟩
    have G3 : Hid (Below w2.heap.size w2 w3) := Lib.hid (undrew g3)
    clear g3
    have SS := SK.out w3 G3.out
    go_wp2_with fail
    refine hK.out _ _ SS (fun hHeld2 => ?_)
    clear SS
    clear hK K hHeld
    try simp only [Act.put]
    refine wpAnyH_take (i := 9) (oi := ⟨some 30, _, _, _, _, none⟩) (v := ?_) rfl (by kernel_rfl) (by kernel_rfl) (by kernel_rfl) (fun _ _ _ h => h) (Or.inl ⟨by rfl, ?_⟩) (by assumption) ?_
    case refine_2 => (intro wx hSx; (try dsimp only at hSx); go_simp; first | done | with_reducible rfl)
    try simp only [Act.put]
    refine wpAnyH_take (i := 10) (oi := ⟨some 2, _, _, _, _, none⟩) (v := ?_) rfl (by kernel_rfl) (by kernel_rfl) (by kernel_rfl) (fun _ _ _ h => h) (Or.inl ⟨by rfl, ?_⟩) (by assumption) ?_
    case refine_2 => (intro wx hSx; (try dsimp only at hSx); go_simp; first | done | with_reducible rfl)
    try simp only [Act.put]
    refine wpAnyH_take (i := 11) (oi := ⟨some 3, _, _, _, _, none⟩) (v := ?_) rfl (by kernel_rfl) (by kernel_rfl) (by kernel_rfl) (fun _ _ _ h => h) (Or.inl ⟨by rfl, ?_⟩) (by assumption) ?_
    case refine_2 => (intro wx hSx; (try dsimp only at hSx); go_simp; first | done | with_reducible rfl)
    try simp only [Act.put]
    refine wpAnyH_done (by kernel_rfl) ?_ _
    go_wp2_with fail
    go_ret2
    exact ⟨ret_str2 (by rw [hsg.out, s1.out]; rfl), B2.out.trans (G3.out.mono B2.out.size)⟩
  · obtain ⟨n, rfl⟩ := Int.eq_ofNat_of_zero_le (show 0 ≤ v by omega)
    have s1 := Lib.hid (show Elt.sg (n : Int) = [] from if_neg hv)
    simp only [Int.natAbs_natCast] at HG hl hsg hn
    generalize Elt.ddn n k = dl at *
    go_upto_region 8 with fail
    refine wp_region_held_drew (S := fun w' : World => w'.cell? ⟨gi, 0, none⟩ = some (.string (S [Elt.lt c])) ∧ w'.cell? ⟨gi, 3, none⟩ = some (.int .i64 k) ∧ w'.cell? ⟨w.heap.size, 1, none⟩ = some (.int .i64 (n : Int))) (by kernel_rfl) S0 (fun hHeld => ?_)
    refine wpAnyH_take (i := 0) (v := ?_) rfl (by kernel_rfl) (by kernel_rfl) (by kernel_rfl) (fun _ _ _ h => h) (Or.inl ⟨by rfl, ?_⟩) (by assumption) ?_
    case refine_2 => (intro wx hSx; (try dsimp only at hSx); go_simp; first | done | with_reducible rfl)
    try simp only [Act.put]
    refine wpAnyH_take (i := 1) (v := ?_) rfl (by kernel_rfl) (by kernel_rfl) (by kernel_rfl) (fun _ _ _ h => h) (Or.inl ⟨by rfl, ?_⟩) (by assumption) ?_
    case refine_2 => (intro wx hSx; (try dsimp only at hSx); go_simp; first | done | with_reducible rfl)
    try simp only [Act.put]
    refine wpAnyH_take (i := 2) (v := ?_) rfl (by kernel_rfl) (by kernel_rfl) (by kernel_rfl) (fun _ _ _ h => h) (Or.inl ⟨by rfl, ?_⟩) (by assumption) ?_
    case refine_2 => (intro wx hSx; (try dsimp only at hSx); go_simp; first | done | with_reducible rfl)
    try simp only [Act.put]
    refine wpAnyH_take (i := 3) (v := ?_) rfl (by kernel_rfl) (by kernel_rfl) (by kernel_rfl) (fun _ _ _ h => h) (Or.inl ⟨by rfl, ?_⟩) (by assumption) ?_
    case refine_2 => (intro wx hSx; (try dsimp only at hSx); go_simp; first | done | with_reducible rfl)
    try simp only [Act.put]
    refine wpAnyH_take (i := 4) (v := ?_) rfl (by kernel_rfl) (by kernel_rfl) (by kernel_rfl) (fun _ _ _ h => h) (Or.inl ⟨by rfl, ?_⟩) (by assumption) ?_
    case refine_2 => (intro wx hSx; (try dsimp only at hSx); go_simp; first | done | with_reducible rfl)
    try simp only [Act.put]
    refine wpAnyH_take (i := 5) (v := ?_) rfl (by kernel_rfl) (by kernel_rfl) (by kernel_rfl) (fun _ _ _ h => h) (Or.inl ⟨by rfl, ?_⟩) (by assumption) ?_
    case refine_2 => (intro wx hSx; (try dsimp only at hSx); go_simp; first | done | with_reducible rfl)
    try simp only [Act.put]
    refine wpAnyH_ready (rs := [6]) (by kernel_rfl) (by simp) ?_
    refine AllReadyH.cons rfl (fun K hK => ?_) AllReadyH.nil
    go_simp
    refine (HG.out _).mono ?_
    rintro e w3 ⟨rfl, g3⟩
    have G3 : Hid (Below w2.heap.size w2 w3) := Lib.hid (undrew g3)
    clear g3
    have SS := SK.out w3 G3.out
    go_wp2_with fail
    refine hK.out _ _ SS (fun hHeld2 => ?_)
    clear SS
    clear hK K hHeld
    try simp only [Act.put]
    refine wpAnyH_take (i := 7) (oi := ⟨some 38, _, _, _, _, none⟩) (v := ?_) rfl (by kernel_rfl) (by kernel_rfl) (by kernel_rfl) (fun _ _ _ h => h) (Or.inl ⟨by rfl, ?_⟩) (by assumption) ?_
    case refine_2 => (intro wx hSx; (try dsimp only at hSx); go_simp; first | done | with_reducible rfl)
    try simp only [Act.put]
    refine wpAnyH_take (i := 8) (oi := ⟨some 2, _, _, _, _, none⟩) (v := ?_) rfl (by kernel_rfl) (by kernel_rfl) (by kernel_rfl) (fun _ _ _ h => h) (Or.inl ⟨by rfl, ?_⟩) (by assumption) ?_
    case refine_2 => (intro wx hSx; (try dsimp only at hSx); go_simp; first | done | with_reducible rfl)
    try simp only [Act.put]
    refine wpAnyH_take (i := 9) (oi := ⟨some 3, _, _, _, _, none⟩) (v := ?_) rfl (by kernel_rfl) (by kernel_rfl) (by kernel_rfl) (fun _ _ _ h => h) (Or.inl ⟨by rfl, ?_⟩) (by assumption) ?_
    case refine_2 => (intro wx hSx; (try dsimp only at hSx); go_simp; first | done | with_reducible rfl)
    try simp only [Act.put]
    refine wpAnyH_done (by kernel_rfl) ?_ _
    go_wp2_with fail
    go_ret2
    exact ⟨ret_str2 (by rw [hsg.out, s1.out, List.append_nil]; rfl), B2.out.trans (G3.out.mono B2.out.size)⟩
end Go.Proofs.YtneglkfcelpdgaaGreatDoor.El
namespace Go.Proofs.YtneglkfcelpdgaaGreatDoor.El
open Go.RowKit

/-- The value of digits; none if another byte is among them. -/
def dec (l : List UInt8) : Option Nat := Lib.decFrom 0 l
theorem decFrom_snoc (c : UInt8) : ∀ (l : List UInt8) (a : Nat), Lib.decFrom a (l ++ [c]) = (Lib.decFrom a l).bind fun n => (Lib.digitVal c).map fun d => n * 10 + d
  | [], a => by simp only [List.nil_append, Lib.decFrom]; cases Lib.digitVal c <;> rfl
  | b :: r, a => by
    simp only [List.cons_append, Lib.decFrom]
    cases Lib.digitVal b with
    | none => rfl
    | some d => exact decFrom_snoc c r _
theorem take_snoc (s : ByteArray) (k : Nat) (h : k < s.size) : s.data.toList.take (k + 1) = s.data.toList.take k ++ [s[k]] := by
  rw [List.take_succ_eq_append_getElem (by simpa using h)]; rfl
theorem digit_yes {c : UInt8} (h1 : 48 ≤ c.toNat) (h2 : c.toNat ≤ 57) : Lib.digitVal c = some (c.toNat - 48) := by unfold Lib.digitVal; rw [if_pos ⟨h1, h2⟩]
theorem digit_no {c : UInt8} (h : ¬ (48 ≤ c.toNat ∧ c.toNat ≤ 57)) : Lib.digitVal c = none := by unfold Lib.digitVal; rw [if_neg h]
theorem dec_none {s : ByteArray} {k : Nat} (h : k < s.size) (hd : ¬ (48 ≤ s[k].toNat ∧ s[k].toNat ≤ 57)) : dec s.data.toList = none := by
  have key : ∀ (l : List UInt8) (a : Nat) (j : Nat) (hj : j < l.length), Lib.digitVal l[j] = none → Lib.decFrom a l = none := by
    intro l
    induction l with
    | nil => intro a j hj; simp at hj
    | cons b r ih =>
      intro a j hj hn
      simp only [Lib.decFrom]
      cases j with
      | zero => simp only [List.getElem_cons_zero] at hn; rw [hn]
      | succ j =>
        cases Lib.digitVal b with
        | none => rfl
        | some d => exact ih _ j (by simpa using hj) (by simpa using hn)
  exact key _ _ k (by simpa using h) (digit_no hd)
/-- What stands behind the letter; a sign in front of it; what stands behind the sign. -/
def stOf (s : ByteArray) : ByteArray := s.extract 1 s.size
def neg (s : ByteArray) : Bool := (stOf s).data.toList.head? == some 45
def restOf (s : ByteArray) : ByteArray := if neg s then (stOf s).extract 1 (stOf s).size else stOf s
def signOf (s : ByteArray) : Int := if neg s then -1 else 1
/-- What Parse answers behind the letter c. -/
def pout (s : ByteArray) (c : Int) : Int × Int × Int := match dec (restOf s).data.toList with
  | none => (0, 0, 3)
  | some n => if Elt.Val c (signOf s * n) ∧ S (Elt.txt c (signOf s * n)) = s then (c, signOf s * n, 0) else (0, 0, 3)
set_option maxRecDepth 100000 in
set_option maxHeartbeats 4000000 in
theorem refParse_letter (s : ByteArray) (c : Int) (w : World) (hx : Elt.Ex c) (h2 : 2 ≤ s.size) (h8 : s.size ≤ 8) (h1 : s.extract 0 1 = S [Elt.lt c]) :
    Calls Tryz.prog 65 #[.string s] w fun e w' => e = .returned (.tuple #[rdV (pout s c).1 (pout s c).2.1, .int .i64 (pout s c).2.2]) ∧ Below w.heap.size w w' := by
  have b0 : Below w.heap.size w (w.alloc (.cells #[.int .i64 0, .int .i64 0] 63)) := (Below.refl _ _).alloc (Nat.le_refl _) _
  have r0 := Row.new w #[.int .i64 0, .int .i64 0] 63
  have HL := Lib.hid (fun W => refByLetter_yes c W hx)
  have c1 := hx.1
  have c2 := hx.2
  have hsz : (stOf s).size + 1 = s.size := by unfold stOf; rw [ByteArray.size_extract]; omega
  have hst : s.extract 1 s.size = stOf s := rfl
  have HS : Hid (restOf s = (if neg s then (stOf s).extract 1 (stOf s).size else stOf s) ∧ signOf s = (if neg s then -1 else 1)) := Lib.hid ⟨rfl, rfl⟩
  have hneg : ∀ h : 0 < (stOf s).size, neg s = decide ((stOf s)[0]'h = 45) := by
    intro h
    unfold neg
    have hl : 0 < (stOf s).data.toList.length := by rw [Array.length_toList]; show 0 < (stOf s).size; omega
    rw [List.head?_eq_getElem?, List.getElem?_eq_getElem hl, Bool.eq_iff_iff, beq_iff_eq, decide_eq_true_iff, Option.some.injEq]
    rfl
  have HN := Lib.hid hneg; clear hneg
  generalize stOf s = st at *
  generalize hS1 : S [Elt.lt c] = sc at *
  clear hx hS1
  have hp0 : 0 < st.size := by omega
  have HN := Lib.hid (HN.out hp0)
  by_cases hm : st[0]'hp0 = 45
  · have hu : ∃ u, st.extract 1 st.size = u := ⟨_, rfl⟩
    obtain ⟨u, hu⟩ := hu
    have husz : u.size + 1 = st.size := by rw [← hu, ByteArray.size_extract]; omega
    have HU : Hid (restOf s = u ∧ signOf s = -1) := Lib.hid (by rw [HS.out.1, HS.out.2, HN.out, decide_eq_true hm]; exact ⟨hu, rfl⟩)
    clear HS HN
    have m1 : (((st[0]'hp0).toNat : Int) == 45) = true := by rw [hm]; rfl
    have hub : u.size ≤ 6 := by omega
    clear hm
    go_enter Tryz.func65, Tryz.ntmps65
    go_wp2_with fail
    generalize w.alloc (.cells #[.int .i64 0, .int .i64 0] 63) = W00 at *
    refine (HL.out _).mono ?_
    rintro e W0 ⟨rfl, g0⟩
    have B0 := Lib.hid (b0.trans (g0.mono b0.size))
    have R0 := Lib.hid (r0.under g0)
    clear b0 r0 g0
    go_upto_region 9 with fail
    go_wp2_with fail
    go_loop [8, 9] (fun n i => ∃ k m : Nat, k ≤ u.size ∧ i = .int .i64 k ∧ n = .int .i64 m ∧ Hid (dec (u.data.toList.take k) = some m ∧ m < 10 ^ k)) (fun _ i => u.size - (intOf i).toNat)
    case atStart => exact ⟨0, 0, by omega, rfl, rfl, Lib.hid ⟨by simp [dec, Lib.decFrom], by simp⟩⟩
    case round =>
      obtain ⟨k, m, hk, rfl, rfl, hm⟩ := hrel
      by_cases hlt : k < u.size
      · have hmb : m < 10000000 := by
          have h1 := hm.out.2
          have h2 : 10 ^ k ≤ 10 ^ 7 := Nat.pow_le_pow_right (by omega) (by omega)
          omega
        have hc := u[k].toNat_lt
        by_cases c1 : 48 ≤ u[k].toNat
        · have c3 : (48 : Int) ≤ (u[k].toNat : Int) := by omega
          by_cases c2 : u[k].toNat ≤ 57
          · have c4 : (u[k].toNat : Int) ≤ 57 := by omega
            have G : Hid (dec (u.data.toList.take (k + 1)) = some (m * 10 + (u[k].toNat - 48)) ∧ m * 10 + (u[k].toNat - 48) < 10 ^ (k + 1)) := Lib.hid (by
              have h1 := hm.out.1
              have h2 := hm.out.2
              refine ⟨?_, by rw [Nat.pow_succ]; omega⟩
              unfold dec at h1 ⊢
              rw [take_snoc u k hlt, decFrom_snoc, h1, digit_yes c1 c2]
              rfl)
            have e9 : (m : Int) * 10 + ((u[k].toNat : Int) - 48) = ((m * 10 + (u[k].toNat - 48) : Nat) : Int) := by omega
            have E9 := Lib.hid e9; clear e9
            go_wp2_with fail
            go_round
            case rel => exact ⟨k + 1, m * 10 + (u[k].toNat - 48), by omega, by go_num, by rw [← E9.out], G⟩
            case measure => simp [intOf]; omega
          · have c4 : ¬ (u[k].toNat : Int) ≤ 57 := by omega
            have ED : Hid (pout s c = (0, 0, 3)) := Lib.hid (by unfold pout; rw [HU.out.1, dec_none hlt (fun h => c2 h.2)])
            have f0 := R0.out.thaw 0
            have f1 := R0.out.thaw 1
            obtain ⟨q0, q1⟩ := row2 R0.out
            have HZ := Lib.hid (set2_row (.int .i64 0) (.int .i64 0) R0.out)
            go_wp2_with fail
            exact bodyPost_ret (v := .tuple #[rdV 0 0, .int .i64 3]) (by obtain ⟨z0, z1⟩ := row2 HZ.out; simp [results, Tryz.results65, z0, z1, go_sem]) rfl ⟨by rw [ED.out], set2_below B0.out (Nat.le_refl _)⟩
        · have c3 : ¬ (48 : Int) ≤ (u[k].toNat : Int) := by omega
          have ED : Hid (pout s c = (0, 0, 3)) := Lib.hid (by unfold pout; rw [HU.out.1, dec_none hlt (fun h => c1 h.1)])
          have f0 := R0.out.thaw 0
          have f1 := R0.out.thaw 1
          obtain ⟨q0, q1⟩ := row2 R0.out
          have HZ := Lib.hid (set2_row (.int .i64 0) (.int .i64 0) R0.out)
          go_wp2_with fail
          exact bodyPost_ret (v := .tuple #[rdV 0 0, .int .i64 3]) (by obtain ⟨z0, z1⟩ := row2 HZ.out; simp [results, Tryz.results65, z0, z1, go_sem]) rfl ⟨by rw [ED.out], set2_below B0.out (Nat.le_refl _)⟩
      · have hke : k = u.size := by omega
        have hmb : m < 10000000 := by
          have h1 := hm.out.2
          have h2 : 10 ^ k ≤ 10 ^ 7 := Nat.pow_le_pow_right (by omega) (by omega)
          omega
        have DU : Hid (dec u.data.toList = some m) := Lib.hid (by
          have := hm.out.1
          rw [List.take_of_length_le (by rw [Array.length_toList, hke]; exact Nat.le_refl _)] at this
          exact this)
        clear hke hm
        obtain ⟨x, hx⟩ : ∃ x : Int, (-1) * (m : Int) = x := ⟨_, rfl⟩
        have hxb : -10000000 < x ∧ x < 10000000 := by omega
        obtain ⟨hx1, hx2⟩ := hxb
        have PO : Hid (pout s c = if Elt.Val c x ∧ S (Elt.txt c x) = s then (c, x, 0) else (0, 0, 3)) := Lib.hid (by
          unfold pout; rw [HU.out.1, DU.out, HU.out.2]; simp only; rw [hx])
        go_upto_region 17 with fail
        have rR := Row.new W0 #[.int .i64 c, .int .i64 x] 63
        refine forget (fun Y => Below w.heap.size w Y ∧ Row Y w.heap.size 63 #[.int .i64 0, .int .i64 0] ∧ Row Y W0.heap.size 63 #[.int .i64 c, .int .i64 x]) ⟨B0.out.alloc B0.out.size _, R0.out.alloc _, rR⟩ ?_
        clear rR
        rintro Y ⟨bY, rY, pY⟩
        obtain ⟨p0, p1⟩ := row2 pY
        clear hx
        by_cases hval : Elt.Val c x
        · have HF := Lib.hid (fun W => refFormat_yes c x W hval)
          by_cases htx : S (Elt.txt c x) = s
          · have P1 : Hid (pout s c = (c, x, 0)) := Lib.hid (by rw [PO.out, if_pos ⟨hval, htx⟩])
            rw [htx] at HF
            clear htx hval
            have x8 : (s.toList == s.toList) = true := beq_self_eq_true _
            go_wp2_with fail
            refine (HF.out _).mono ?_
            rintro e w3 ⟨rfl, g3⟩
            have b3 := bY.trans (g3.mono bY.size)
            have r3 := rY.under g3
            obtain ⟨p0', p1'⟩ := row2 (pY.under g3)
            have f0 := r3.thaw 0
            have f1 := r3.thaw 1
            obtain ⟨q0, q1⟩ := row2 r3
            have R3 := Lib.hid r3
            have B3 := Lib.hid b3
            clear g3 b3 r3 bY rY pY p0 p1
            have HZ := Lib.hid (set2_row (.int .i64 c) (.int .i64 x) R3.out)
            go_wp2_with fail
            exact bodyPost_ret (v := .tuple #[rdV c x, .int .i64 0]) (by obtain ⟨z0, z1⟩ := row2 HZ.out; simp [results, Tryz.results65, z0, z1, go_sem]) rfl ⟨by rw [P1.out], set2_below B3.out (Nat.le_refl _)⟩
          · have P1 : Hid (pout s c = (0, 0, 3)) := Lib.hid (by rw [PO.out, if_neg (fun h => htx h.2)])
            have x8 : ((S (Elt.txt c x)).toList == s.toList) = false := toList_ne htx
            have x10 : ((S (Elt.txt c x)).toList != s.toList) = true := by show (!_) = true; rw [x8]; rfl
            clear htx hval
            generalize S (Elt.txt c x) = tx at *
            go_wp2_with fail
            refine (HF.out _).mono ?_
            rintro e w3 ⟨rfl, g3⟩
            have b3 := bY.trans (g3.mono bY.size)
            have r3 := rY.under g3
            have f0 := r3.thaw 0
            have f1 := r3.thaw 1
            obtain ⟨q0, q1⟩ := row2 r3
            have R3 := Lib.hid r3
            have B3 := Lib.hid b3
            clear g3 b3 r3 bY rY pY p0 p1
            have HZ := Lib.hid (set2_row (.int .i64 0) (.int .i64 0) R3.out)
            go_wp2_with fail
            exact bodyPost_ret (v := .tuple #[rdV 0 0, .int .i64 3]) (by obtain ⟨z0, z1⟩ := row2 HZ.out; simp [results, Tryz.results65, z0, z1, go_sem]) rfl ⟨by rw [P1.out], set2_below B3.out (Nat.le_refl _)⟩
        · have P1 : Hid (pout s c = (0, 0, 3)) := Lib.hid (by rw [PO.out, if_neg (fun h => hval h.1)])
          have hck : Elt.chk c x ≠ 0 := fun e => hval (Elt.val_of e)
          have HF := Lib.hid (fun W => refFormat_no c x W hck)
          have x8 : (Elt.chk c x != 0) = true := by rw [bne_iff_ne]; exact hck
          have x9 : (Elt.chk c x == 0) = false := beq_eq_false_iff_ne.2 hck
          clear hck hval
          generalize Elt.chk c x = ck at *
          go_wp2_with fail
          refine (HF.out _).mono ?_
          rintro e w3 ⟨rfl, g3⟩
          have b3 := bY.trans (g3.mono bY.size)
          have r3 := rY.under g3
          have f0 := r3.thaw 0
          have f1 := r3.thaw 1
          obtain ⟨q0, q1⟩ := row2 r3
          have R3 := Lib.hid r3
          have B3 := Lib.hid b3
          clear g3 b3 r3 bY rY pY p0 p1
          have HZ := Lib.hid (set2_row (.int .i64 0) (.int .i64 0) R3.out)
          go_wp2_with fail
          exact bodyPost_ret (v := .tuple #[rdV 0 0, .int .i64 3]) (by obtain ⟨z0, z1⟩ := row2 HZ.out; simp [results, Tryz.results65, z0, z1, go_sem]) rfl ⟨by rw [P1.out], set2_below B3.out (Nat.le_refl _)⟩
  · have HU : Hid (restOf s = st ∧ signOf s = 1) := Lib.hid (by rw [HS.out.1, HS.out.2, HN.out, decide_eq_false hm]; exact ⟨rfl, rfl⟩)
    clear HS HN
    have m0 : (st[0]'hp0).toNat ≠ 45 := fun e => hm (UInt8.toNat_inj.1 (by rw [e]; rfl))
    have m1 : (((st[0]'hp0).toNat : Int) == 45) = false := beq_eq_false_iff_ne.2 (by omega)
    clear m0
    clear hm
    obtain ⟨u, hu⟩ : ∃ u, u = st := ⟨_, rfl⟩
    subst hu
    have hub : u.size ≤ 7 := by omega
    go_enter Tryz.func65, Tryz.ntmps65
    go_wp2_with fail
    generalize w.alloc (.cells #[.int .i64 0, .int .i64 0] 63) = W00 at *
    refine (HL.out _).mono ?_
    rintro e W0 ⟨rfl, g0⟩
    have B0 := Lib.hid (b0.trans (g0.mono b0.size))
    have R0 := Lib.hid (r0.under g0)
    clear b0 r0 g0
    go_upto_region 9 with fail
    go_wp2_with fail
    go_loop [8, 9] (fun n i => ∃ k m : Nat, k ≤ u.size ∧ i = .int .i64 k ∧ n = .int .i64 m ∧ Hid (dec (u.data.toList.take k) = some m ∧ m < 10 ^ k)) (fun _ i => u.size - (intOf i).toNat)
    case atStart => exact ⟨0, 0, by omega, rfl, rfl, Lib.hid ⟨by simp [dec, Lib.decFrom], by simp⟩⟩
    case round =>
      obtain ⟨k, m, hk, rfl, rfl, hm⟩ := hrel
      by_cases hlt : k < u.size
      · have hmb : m < 10000000 := by
          have h1 := hm.out.2
          have h2 : 10 ^ k ≤ 10 ^ 7 := Nat.pow_le_pow_right (by omega) (by omega)
          omega
        have hc := u[k].toNat_lt
        by_cases c1 : 48 ≤ u[k].toNat
        · have c3 : (48 : Int) ≤ (u[k].toNat : Int) := by omega
          by_cases c2 : u[k].toNat ≤ 57
          · have c4 : (u[k].toNat : Int) ≤ 57 := by omega
            have G : Hid (dec (u.data.toList.take (k + 1)) = some (m * 10 + (u[k].toNat - 48)) ∧ m * 10 + (u[k].toNat - 48) < 10 ^ (k + 1)) := Lib.hid (by
              have h1 := hm.out.1
              have h2 := hm.out.2
              refine ⟨?_, by rw [Nat.pow_succ]; omega⟩
              unfold dec at h1 ⊢
              rw [take_snoc u k hlt, decFrom_snoc, h1, digit_yes c1 c2]
              rfl)
            have e9 : (m : Int) * 10 + ((u[k].toNat : Int) - 48) = ((m * 10 + (u[k].toNat - 48) : Nat) : Int) := by omega
            have E9 := Lib.hid e9; clear e9
            go_wp2_with fail
            go_round
            case rel => exact ⟨k + 1, m * 10 + (u[k].toNat - 48), by omega, by go_num, by rw [← E9.out], G⟩
            case measure => simp [intOf]; omega
          · have c4 : ¬ (u[k].toNat : Int) ≤ 57 := by omega
            have ED : Hid (pout s c = (0, 0, 3)) := Lib.hid (by unfold pout; rw [HU.out.1, dec_none hlt (fun h => c2 h.2)])
            have f0 := R0.out.thaw 0
            have f1 := R0.out.thaw 1
            obtain ⟨q0, q1⟩ := row2 R0.out
            have HZ := Lib.hid (set2_row (.int .i64 0) (.int .i64 0) R0.out)
            go_wp2_with fail
            exact bodyPost_ret (v := .tuple #[rdV 0 0, .int .i64 3]) (by obtain ⟨z0, z1⟩ := row2 HZ.out; simp [results, Tryz.results65, z0, z1, go_sem]) rfl ⟨by rw [ED.out], set2_below B0.out (Nat.le_refl _)⟩
        · have c3 : ¬ (48 : Int) ≤ (u[k].toNat : Int) := by omega
          have ED : Hid (pout s c = (0, 0, 3)) := Lib.hid (by unfold pout; rw [HU.out.1, dec_none hlt (fun h => c1 h.1)])
          have f0 := R0.out.thaw 0
          have f1 := R0.out.thaw 1
          obtain ⟨q0, q1⟩ := row2 R0.out
          have HZ := Lib.hid (set2_row (.int .i64 0) (.int .i64 0) R0.out)
          go_wp2_with fail
          exact bodyPost_ret (v := .tuple #[rdV 0 0, .int .i64 3]) (by obtain ⟨z0, z1⟩ := row2 HZ.out; simp [results, Tryz.results65, z0, z1, go_sem]) rfl ⟨by rw [ED.out], set2_below B0.out (Nat.le_refl _)⟩
      · have hke : k = u.size := by omega
        have hmb : m < 10000000 := by
          have h1 := hm.out.2
          have h2 : 10 ^ k ≤ 10 ^ 7 := Nat.pow_le_pow_right (by omega) (by omega)
          omega
        have DU : Hid (dec u.data.toList = some m) := Lib.hid (by
          have := hm.out.1
          rw [List.take_of_length_le (by rw [Array.length_toList, hke]; exact Nat.le_refl _)] at this
          exact this)
        clear hke hm
        obtain ⟨x, hx⟩ : ∃ x : Int, 1 * (m : Int) = x := ⟨_, rfl⟩
        have hxb : -10000000 < x ∧ x < 10000000 := by omega
        obtain ⟨hx1, hx2⟩ := hxb
        have PO : Hid (pout s c = if Elt.Val c x ∧ S (Elt.txt c x) = s then (c, x, 0) else (0, 0, 3)) := Lib.hid (by
          unfold pout; rw [HU.out.1, DU.out, HU.out.2]; simp only; rw [hx])
        go_upto_region 17 with fail
        have rR := Row.new W0 #[.int .i64 c, .int .i64 x] 63
        refine forget (fun Y => Below w.heap.size w Y ∧ Row Y w.heap.size 63 #[.int .i64 0, .int .i64 0] ∧ Row Y W0.heap.size 63 #[.int .i64 c, .int .i64 x]) ⟨B0.out.alloc B0.out.size _, R0.out.alloc _, rR⟩ ?_
        clear rR
        rintro Y ⟨bY, rY, pY⟩
        obtain ⟨p0, p1⟩ := row2 pY
        clear hx
        by_cases hval : Elt.Val c x
        · have HF := Lib.hid (fun W => refFormat_yes c x W hval)
          by_cases htx : S (Elt.txt c x) = s
          · have P1 : Hid (pout s c = (c, x, 0)) := Lib.hid (by rw [PO.out, if_pos ⟨hval, htx⟩])
            rw [htx] at HF
            clear htx hval
            have x8 : (s.toList == s.toList) = true := beq_self_eq_true _
            go_wp2_with fail
            refine (HF.out _).mono ?_
            rintro e w3 ⟨rfl, g3⟩
            have b3 := bY.trans (g3.mono bY.size)
            have r3 := rY.under g3
            obtain ⟨p0', p1'⟩ := row2 (pY.under g3)
            have f0 := r3.thaw 0
            have f1 := r3.thaw 1
            obtain ⟨q0, q1⟩ := row2 r3
            have R3 := Lib.hid r3
            have B3 := Lib.hid b3
            clear g3 b3 r3 bY rY pY p0 p1
            have HZ := Lib.hid (set2_row (.int .i64 c) (.int .i64 x) R3.out)
            go_wp2_with fail
            exact bodyPost_ret (v := .tuple #[rdV c x, .int .i64 0]) (by obtain ⟨z0, z1⟩ := row2 HZ.out; simp [results, Tryz.results65, z0, z1, go_sem]) rfl ⟨by rw [P1.out], set2_below B3.out (Nat.le_refl _)⟩
          · have P1 : Hid (pout s c = (0, 0, 3)) := Lib.hid (by rw [PO.out, if_neg (fun h => htx h.2)])
            have x8 : ((S (Elt.txt c x)).toList == s.toList) = false := toList_ne htx
            have x10 : ((S (Elt.txt c x)).toList != s.toList) = true := by show (!_) = true; rw [x8]; rfl
            clear htx hval
            generalize S (Elt.txt c x) = tx at *
            go_wp2_with fail
            refine (HF.out _).mono ?_
            rintro e w3 ⟨rfl, g3⟩
            have b3 := bY.trans (g3.mono bY.size)
            have r3 := rY.under g3
            have f0 := r3.thaw 0
            have f1 := r3.thaw 1
            obtain ⟨q0, q1⟩ := row2 r3
            have R3 := Lib.hid r3
            have B3 := Lib.hid b3
            clear g3 b3 r3 bY rY pY p0 p1
            have HZ := Lib.hid (set2_row (.int .i64 0) (.int .i64 0) R3.out)
            go_wp2_with fail
            exact bodyPost_ret (v := .tuple #[rdV 0 0, .int .i64 3]) (by obtain ⟨z0, z1⟩ := row2 HZ.out; simp [results, Tryz.results65, z0, z1, go_sem]) rfl ⟨by rw [P1.out], set2_below B3.out (Nat.le_refl _)⟩
        · have P1 : Hid (pout s c = (0, 0, 3)) := Lib.hid (by rw [PO.out, if_neg (fun h => hval h.1)])
          have hck : Elt.chk c x ≠ 0 := fun e => hval (Elt.val_of e)
          have HF := Lib.hid (fun W => refFormat_no c x W hck)
          have x8 : (Elt.chk c x != 0) = true := by rw [bne_iff_ne]; exact hck
          have x9 : (Elt.chk c x == 0) = false := beq_eq_false_iff_ne.2 hck
          clear hck hval
          generalize Elt.chk c x = ck at *
          go_wp2_with fail
          refine (HF.out _).mono ?_
          rintro e w3 ⟨rfl, g3⟩
          have b3 := bY.trans (g3.mono bY.size)
          have r3 := rY.under g3
          have f0 := r3.thaw 0
          have f1 := r3.thaw 1
          obtain ⟨q0, q1⟩ := row2 r3
          have R3 := Lib.hid r3
          have B3 := Lib.hid b3
          clear g3 b3 r3 bY rY pY p0 p1
          have HZ := Lib.hid (set2_row (.int .i64 0) (.int .i64 0) R3.out)
          go_wp2_with fail
          exact bodyPost_ret (v := .tuple #[rdV 0 0, .int .i64 3]) (by obtain ⟨z0, z1⟩ := row2 HZ.out; simp [results, Tryz.results65, z0, z1, go_sem]) rfl ⟨by rw [P1.out], set2_below B3.out (Nat.le_refl _)⟩
end Go.Proofs.YtneglkfcelpdgaaGreatDoor.El
namespace Go.Proofs.YtneglkfcelpdgaaGreatDoor.El
open Go.RowKit

set_option maxRecDepth 100000 in
set_option maxHeartbeats 1000000 in
theorem refParse_size (s : ByteArray) (w : World) (h : ¬ (2 ≤ s.size ∧ s.size ≤ 8)) :
    Calls Tryz.prog 65 #[.string s] w fun e w' => e = .returned (.tuple #[rdV 0 0, .int .i64 3]) ∧ Below w.heap.size w w' := by
  have b0 : Below w.heap.size w (w.alloc (.cells #[.int .i64 0, .int .i64 0] 63)) := (Below.refl _ _).alloc (Nat.le_refl _) _
  by_cases h2 : 2 ≤ s.size
  · have h8 : 8 < s.size := by omega
    have h2' : ¬ (s.size : Int) < 2 := by omega
    have h8' : (8 : Int) < (s.size : Int) := by omega
    clear h
    go_enter Tryz.func65, Tryz.ntmps65
    go_wp2_with fail
    exact bodyPost_ret (v := .tuple #[rdV 0 0, .int .i64 3]) (by simp [results, Tryz.results65, go_sem]) rfl ⟨rfl, b0⟩
  · have h2' : (s.size : Int) < 2 := by omega
    clear h
    go_enter Tryz.func65, Tryz.ntmps65
    go_wp2_with fail
    exact bodyPost_ret (v := .tuple #[rdV 0 0, .int .i64 3]) (by simp [results, Tryz.results65, go_sem]) rfl ⟨rfl, b0⟩
set_option maxRecDepth 100000 in
set_option maxHeartbeats 1000000 in
theorem refParse_none (s : ByteArray) (w : World) (h2 : 2 ≤ s.size) (h8 : s.size ≤ 8) (h : ∀ c, Elt.Ex c → s.extract 0 1 ≠ S [Elt.lt c]) :
    Calls Tryz.prog 65 #[.string s] w fun e w' => e = .returned (.tuple #[rdV 0 0, .int .i64 3]) ∧ Below w.heap.size w w' := by
  have b0 : Below w.heap.size w (w.alloc (.cells #[.int .i64 0, .int .i64 0] 63)) := (Below.refl _ _).alloc (Nat.le_refl _) _
  have r0 := Row.new w #[.int .i64 0, .int .i64 0] 63
  have HL := Lib.hid (fun W => refByLetter_no (s.extract 0 1) W h)
  clear h
  generalize hs1 : s.extract 0 1 = s1 at *
  go_enter Tryz.func65, Tryz.ntmps65
  go_wp2_with fail
  generalize w.alloc (.cells #[.int .i64 0, .int .i64 0] 63) = W00 at *
  refine (HL.out _).mono ?_
  rintro e W0 ⟨rfl, g0⟩
  have B0 := Lib.hid (b0.trans (g0.mono b0.size))
  have R0 := Lib.hid (r0.under g0)
  clear b0 r0 g0
  have f0 := R0.out.thaw 0
  have f1 := R0.out.thaw 1
  obtain ⟨q0, q1⟩ := row2 R0.out
  have HZ := Lib.hid (set2_row (.int .i64 0) (.int .i64 0) R0.out)
  go_wp2_with fail
  exact bodyPost_ret (v := .tuple #[rdV 0 0, .int .i64 3]) (by obtain ⟨z0, z1⟩ := row2 HZ.out; simp [results, Tryz.results65, z0, z1, go_sem]) rfl ⟨rfl, set2_below B0.out (Nat.le_refl _)⟩
theorem tail_neg (c v : Int) : neg (S (Elt.txt c v)) = decide (v < 0) ∨ Elt.dg c = 0 := by
  by_cases hd : Elt.dg c = 0
  · exact .inr hd
  · left
    obtain ⟨k, hk⟩ : ∃ k, Elt.dg c = k + 1 := ⟨Elt.dg c - 1, by omega⟩
    unfold neg stOf
    rw [show Elt.txt c v = Elt.lt c :: Elt.tail c v from rfl, ext_tail, S_list]
    unfold Elt.tail
    by_cases hv : v < 0
    · rw [show Elt.sg v = [45] from if_pos hv, decide_eq_true hv]; rfl
    · rw [show Elt.sg v = [] from if_neg hv, decide_eq_false hv, hk]
      obtain ⟨d, r, hd10, he⟩ := @Elt.ddn_head v.natAbs k
      rw [he, List.nil_append, List.head?_cons, beq_eq_false_iff_ne]
      intro e
      injection e with e
      have := Elt.b10_toNat hd10
      rw [e] at this
      have h45 : (45 : UInt8).toNat = 45 := rfl
      omega
theorem pout_yes {c v : Int} (h : Elt.Val c v) : pout (S (Elt.txt c v)) c = (c, v, 0) := by
  obtain ⟨b1, -, -, -⟩ := Elt.val_bd h
  obtain ⟨-, f6, f7, -⟩ := Elt.facts h.1
  have hn : neg (S (Elt.txt c v)) = decide (v < 0) := (tail_neg c v).resolve_right (by omega)
  have hdec : dec (Elt.ddn v.natAbs (Elt.dg c)) = some v.natAbs := by
    unfold dec; rw [Elt.ddn_dec, Nat.mod_eq_of_lt b1]; simp
  have hst : stOf (S (Elt.txt c v)) = S (Elt.tail c v) := ext_tail _ _
  have hr : restOf (S (Elt.txt c v)) = S (Elt.ddn v.natAbs (Elt.dg c)) ∧ signOf (S (Elt.txt c v)) * (v.natAbs : Int) = v := by
    unfold restOf signOf
    rw [hn, hst]
    by_cases hv : v < 0
    · rw [decide_eq_true hv, if_pos rfl, if_pos rfl]
      refine ⟨?_, by omega⟩
      unfold Elt.tail
      rw [show Elt.sg v = [45] from if_pos hv]
      exact ext_tail _ _
    · rw [decide_eq_false hv, if_neg (by decide), if_neg (by decide)]
      refine ⟨?_, by omega⟩
      unfold Elt.tail
      rw [show Elt.sg v = [] from if_neg hv, List.nil_append]
  unfold pout
  rw [hr.1, S_list, hdec]
  simp only
  rw [hr.2, if_pos ⟨h, rfl⟩]
theorem pout_no {s : ByteArray} (c : Int) (h : NoTxt s) : pout s c = (0, 0, 3) := by
  unfold pout
  cases dec (restOf s).data.toList with
  | none => rfl
  | some n => simp only; rw [if_neg (fun hh => h _ _ hh.1 hh.2.symm)]
theorem refParse_yes (c v : Int) (w : World) (h : Elt.Val c v) :
    Calls Tryz.prog 65 #[.string (S (Elt.txt c v))] w fun e w' => e = .returned (.tuple #[rdV c v, .int .i64 0]) ∧ Below w.heap.size w w' := by
  obtain ⟨l1, l2⟩ := Elt.tail_len h
  have hs : (S (Elt.txt c v)).size = 1 + (Elt.tail c v).length := by rw [S_size]; unfold Elt.txt; rw [List.length_cons]; omega
  have := refParse_letter (S (Elt.txt c v)) c w h.1 (by omega) (by omega) (ext_head _ _)
  rw [pout_yes h] at this
  exact this
theorem refParse_no (s : ByteArray) (w : World) (h : NoTxt s) :
    Calls Tryz.prog 65 #[.string s] w fun e w' => e = .returned (.tuple #[rdV 0 0, .int .i64 3]) ∧ Below w.heap.size w w' := by
  by_cases hs : 2 ≤ s.size ∧ s.size ≤ 8
  · by_cases hl : ∃ c, Elt.Ex c ∧ s.extract 0 1 = S [Elt.lt c]
    · obtain ⟨c, hc, hl⟩ := hl
      have := refParse_letter s c w hc hs.1 hs.2 hl
      rw [pout_no c h] at this
      exact this
    · exact refParse_none s w hs.1 hs.2 (fun c hc e => hl ⟨c, hc, e⟩)
  · exact refParse_size s w hs
/-- Whatever the text: both functions answer the same. -/
theorem both_parse (s : ByteArray) (hs : s.size ≤ 100000) : ∃ c v r : Int,
    (∀ w, Env w → Calls Tryz.prog 127 #[.string s] w fun e w' => e = .returned (.tuple #[rdV c v, .int .i64 r]) ∧ Below w.heap.size w w') ∧
    (∀ w, Calls Tryz.prog 65 #[.string s] w fun e w' => e = .returned (.tuple #[rdV c v, .int .i64 r]) ∧ Below w.heap.size w w') := by
  by_cases h : ∃ c v, Elt.Val c v ∧ s = S (Elt.txt c v)
  · obtain ⟨c, v, hv, rfl⟩ := h
    exact ⟨c, v, 0, fun w hE => parse_yes c v w hE hv, fun w => refParse_yes c v w hv⟩
  · have hn : NoTxt s := fun c v hv e => h ⟨c, v, hv, e⟩
    exact ⟨0, 0, 3, fun w hE => parse_no s w hE hs hn, fun w => refParse_no s w hn⟩
/-- Whatever the reading: both functions answer the same. -/
theorem both_format (c v : Int) : ∃ (t : ByteArray) (r : Int),
    (∀ w, Env w → Calls Tryz.prog 36 #[rdV c v] w fun e w' => e = .returned (.tuple #[.string t, .int .i64 r]) ∧ Below w.heap.size w w') ∧
    (∀ w, Calls Tryz.prog 41 #[rdV c v] w fun e w' => e = .returned (.tuple #[.string t, .int .i64 r]) ∧ Below w.heap.size w w') := by
  by_cases h : Elt.chk c v = 0
  · exact ⟨_, _, fun w hE => format_yes c v w hE (Elt.val_of h), fun w => refFormat_yes c v w (Elt.val_of h)⟩
  · exact ⟨_, _, fun w hE => format_no c v w hE.tab h, fun w => refFormat_no c v w h⟩
end Go.Proofs.YtneglkfcelpdgaaGreatDoor.El
namespace Go.Proofs.YtneglkfcelpdgaaGreatDoor.El
open Go.RowKit
set_option maxRecDepth 100000 in
set_option maxHeartbeats 4000000 in
theorem refValidate_any (v : Value) (L : List Elt.R) (w : World) (hL : RdIn w v L) :
    Calls Tryz.prog 49 #[v] w fun e w' => e = .returned (.int .i64 (Elt.vld L)) ∧ Below w.heap.size w w' := by
  obtain ⟨z, hz⟩ : ∃ z, Elt.vld L = z := ⟨_, rfl⟩
  rw [hz]
  have HZ := Lib.hid hz; clear hz
  have HL := Lib.hid hL
  obtain ⟨A, cap, rfl, h1, h2, -⟩ := hL
  have HI := Lib.hid (fun c v W (h : Elt.Ex c) => refIn_any c v W h)
  go_enter Tryz.func49, Tryz.ntmps49
  go_wp2_with fail
  go_loopw [3] (fun t wr => ∃ k : Nat, k ≤ L.length ∧ t = .int .i64 k ∧ Below w.heap.size w wr ∧ Hid (∀ j (h : j < L.length), j < k → Elt.Ex (L[j]).1)) (fun t _ => L.length - (intOf t).toNat)
  case atStart => exact ⟨0, Nat.zero_le _, rfl, Below.refl _ _, Lib.hid (fun j h h' => by omega)⟩
  case round =>
    obtain ⟨k, hk, rfl, hb, hn⟩ := hrel
    by_cases hlt : k < L.length
    · obtain ⟨A', cap', e, -, -, hR⟩ := HL.out.under hb
      injection e with e1 e2 e3
      subst e1
      obtain ⟨g, off, rfl, -, c0, c1⟩ := hR k hlt
      have k0 : (0 : Int) ≤ (k : Int) := by omega
      have k1 : (k : Int) < (L.length : Int) := by omega
      have HB := Lib.hid hb
      clear hb hR e3
      by_cases hx : Elt.Ex (L[k]).1
      · have HN : Hid (∀ j (h : j < L.length), j < k + 1 → Elt.Ex (L[j]).1) := Lib.hid (fun j h h' => by
          rcases Nat.lt_or_ge j k with q | q
          · exact hn.out j h q
          · obtain rfl : j = k := by omega
            exact hx)
        clear hn
        generalize L[k] = y at *
        obtain ⟨a, b⟩ := y
        have HD := Lib.hid (refDescribe_yes a wr hx)
        simp only [infoV] at HD
        clear hx
        simp only at c0 c1
        go_wp2_with fail
        refine HD.out.mono ?_
        rintro e w2 ⟨rfl, g2⟩
        have B2 := Lib.hid (HB.out.trans (g2.mono HB.out.size)); clear g2 HD
        go_wp2_with fail
        go_roundw
        case rel => exact ⟨k + 1, by omega, by go_num, B2.out.alloc B2.out.size _, HN⟩
        case measure => simp [intOf]; omega
      · have HV : Hid (z = 4) := Lib.hid (by
          rw [← HZ.out]
          refine Elt.vld_kind ⟨L[k], List.getElem_mem _, ?_⟩
          unfold Elt.chk
          rw [if_neg hx])
        clear hn
        generalize L[k] = y at *
        obtain ⟨a, b⟩ := y
        have HD := Lib.hid (refDescribe_no a wr hx)
        clear hx
        simp only at c0 c1
        go_wp2_with fail
        refine HD.out.mono ?_
        rintro e w2 ⟨rfl, g2⟩
        have B2 := Lib.hid (HB.out.trans (g2.mono HB.out.size)); clear g2 HD
        go_wp2_with fail
        go_ret
        exact ⟨ret_i64 HV.out.symm, B2.out.alloc B2.out.size _⟩
    · have k1 : ¬ (k : Int) < (L.length : Int) := by omega
      have H4 : Hid (∀ j (h : j < L.length), Elt.Ex (L[j]).1) := Lib.hid (fun j h => hn.out j h (by omega))
      have HB := Lib.hid hb
      clear hb hn hk
      go_wp2_with fail
      go_loopw [6] (fun t wr => ∃ k : Nat, k ≤ L.length ∧ t = .int .i64 k ∧ Below w.heap.size w wr ∧ Hid (∀ j (h : j < L.length), j < k → Elt.Val (L[j]).1 (L[j]).2)) (fun t _ => L.length - (intOf t).toNat)
      case atStart => exact ⟨0, Nat.zero_le _, rfl, HB.out, Lib.hid (fun j h h' => by omega)⟩
      case round =>
        clear HB k1
        obtain ⟨k, hk, rfl, hb, hn⟩ := hrel
        by_cases hlt : k < L.length
        · obtain ⟨A', cap', e, -, -, hR⟩ := HL.out.under hb
          injection e with e1 e2 e3
          subst e1
          obtain ⟨g, off, rfl, -, c0, c1⟩ := hR k hlt
          have k0 : (0 : Int) ≤ (k : Int) := by omega
          have k1 : (k : Int) < (L.length : Int) := by omega
          have HB := Lib.hid hb
          have hx := H4.out k hlt
          have HS := Lib.hid (HI.out (L[k]).1 (L[k]).2 wr hx)
          clear hb hR e3
          by_cases hv : Elt.lo (L[k]).1 ≤ (L[k]).2 ∧ (L[k]).2 ≤ Elt.hi (L[k]).1
          · have HN : Hid (∀ j (h : j < L.length), j < k + 1 → Elt.Val (L[j]).1 (L[j]).2) := Lib.hid (fun j h h' => by
              rcases Nat.lt_or_ge j k with q | q
              · exact hn.out j h q
              · obtain rfl : j = k := by omega
                exact ⟨hx, hv⟩)
            rw [decide_eq_true hv] at HS
            clear hn hv hx
            generalize L[k] = y at *
            obtain ⟨a, b⟩ := y
            simp only at c0 c1
            go_wp2_with fail
            refine HS.out.mono ?_
            rintro e w2 ⟨rfl, g2⟩
            have B2 := Lib.hid (HB.out.trans (g2.mono HB.out.size)); clear g2 HS
            go_wp2_with fail
            go_roundw
            case rel => exact ⟨k + 1, by omega, by go_num, B2.out, HN⟩
            case measure => simp [intOf]; omega
          · have HV : Hid (z = 1) := Lib.hid (by
              rw [← HZ.out]
              refine Elt.vld_range (fun ⟨r, hr, he⟩ => ?_) ⟨L[k], List.getElem_mem _, ?_⟩
              · obtain ⟨j, hj, rfl⟩ := List.getElem_of_mem hr
                have := H4.out j hj
                unfold Elt.chk at he
                rw [if_pos this] at he
                split at he <;> omega
              · unfold Elt.chk
                rw [if_pos hx, if_neg hv])
            rw [decide_eq_false hv] at HS
            clear hn hv hx
            generalize L[k] = y at *
            obtain ⟨a, b⟩ := y
            simp only at c0 c1
            go_wp2_with fail
            refine HS.out.mono ?_
            rintro e w2 ⟨rfl, g2⟩
            have B2 := Lib.hid (HB.out.trans (g2.mono HB.out.size)); clear g2 HS
            go_wp2_with fail
            go_ret
            exact ⟨ret_i64 HV.out.symm, B2.out⟩
        · have k1 : ¬ (k : Int) < (L.length : Int) := by omega
          have HV := Lib.hid (Elt.vld_good (L := L) (fun r hr => by
            obtain ⟨j, hj, rfl⟩ := List.getElem_of_mem hr
            exact hn.out j hj (by omega)))
          have HB := Lib.hid hb
          clear hb hn hk H4 HI
          go_wp2_with fail
          go_loopw [7] (fun t w' => ∃ m : Nat, t = .int .i64 ((m : Int) + 1) ∧ m ≤ L.length ∧ Below w.heap.size w w' ∧ Hid (∀ j, ∀ h : j + 1 < L.length, j < m → (L[j]).1 < (L[j + 1]).1)) (fun t _ => L.length + 2 - (intOf t).toNat)
          case atStart => exact ⟨0, rfl, Nat.zero_le _, HB.out, Lib.hid (fun j h h' => by omega)⟩
          case round =>
            clear HB k1
            obtain ⟨m, rfl, hml, hb, ha⟩ := hrel
            by_cases hlt : m + 1 < L.length
            · have hR := HL.out.under hb
              obtain ⟨A', cap', e, -, -, hR⟩ := hR
              injection e with e1 e2 e3
              subst e1
              obtain ⟨g, off, rfl, -, c0, c1⟩ := hR m (by omega)
              obtain ⟨g', off', e, -, d0, d1⟩ := hR (m + 1) hlt
              injection e with e
              injection e with e1 e2
              subst e1; subst e2
              have HB := Lib.hid hb; clear hb hR e3
              have k0 : (0 : Int) ≤ (m : Int) := by omega
              have k1 : (m : Int) < (L.length : Int) := by omega
              have k2 : (m : Int) + 1 < (L.length : Int) := by omega
              have k3 : (0 : Int) ≤ (m : Int) + 1 := by omega
              have x1 : IntKind.i64.wrap (m : Int) = (m : Int) := IntWalk.i64_in _ (by omega)
              by_cases hc : (L[m]).1 < (L[m + 1]).1
              · have HA : Hid (∀ j, ∀ h : j + 1 < L.length, j < m + 1 → (L[j]).1 < (L[j + 1]).1) := Lib.hid (fun j h h' => by
                  rcases Nat.lt_or_ge j m with q | q
                  · exact ha.out j h q
                  · obtain rfl : j = m := by omega
                    exact hc)
                clear ha
                generalize L[m] = x at *
                generalize L[m + 1] = y at *
                have hc' : ¬ y.1 ≤ x.1 := by omega
                clear hc
                go_wp2_with fail
                go_quiet (fail)
                go_wp2_with fail
                go_roundw
                case rel => exact ⟨m + 1, by go_num, by omega, by first | exact HB.out | exact below_drewN HB.out _, HA⟩
                case measure => simp [intOf]; omega
              · have HV8 : Hid (z = 8) := Lib.hid (by rw [← HZ.out]; exact HV.out.2 (fun h => hc (h m hlt)))
                clear ha
                generalize L[m] = x at *
                generalize L[m + 1] = y at *
                have hc' : y.1 ≤ x.1 := by omega
                clear hc
                go_wp2_with fail
                go_quiet (fail)
                go_wp2_with fail
                go_ret
                exact ⟨ret_i64 HV8.out.symm, by first | exact HB.out | exact below_drewN HB.out _⟩
            · have HV0 : Hid (z = 0) := Lib.hid (by rw [← HZ.out]; exact HV.out.1 (fun j h => ha.out j h (by omega)))
              have k2 : ¬ (m : Int) + 1 < (L.length : Int) := by omega
              have HB := Lib.hid hb; clear hb ha
              go_wp2_with fail
              go_ret
              exact ⟨ret_i64 HV0.out.symm, HB.out⟩
end Go.Proofs.YtneglkfcelpdgaaGreatDoor.El
