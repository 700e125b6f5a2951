/- Contracts of the reference's in, ByLetter, Digits, Format. -/
import Derived.Test.YthlcpmkjemdhkaaDoorRDesc
import Derived.Laws.BytesArg
namespace Go.Proofs.YthlcpmkjemdhkaaDoor
open Go.RowKit

set_option maxHeartbeats 1000000 in
theorem refIn_any (c v : Int) (w : World) (h : Elt.Ex c) :
    Calls Tryd.prog 40 #[rdV c v] w fun e w' => e = .returned (.bool (decide (Elt.lo c ≤ v ∧ v ≤ Elt.hi c))) ∧ Below w.heap.size w w' := by
  have b0 : Below w.heap.size w (w.alloc (.cells #[.int .i64 c, .int .i64 v] 47)) := (Below.refl _ _).alloc (Nat.le_refl _) _
  have r0 := Row.new w #[.int .i64 c, .int .i64 v] 47
  go_enter Tryd.func40, Tryd.ntmps40
  go_wp2_with fail
  generalize w.alloc (.cells #[.int .i64 c, .int .i64 v] 47) = W0 at *
  refine (refDescribe_yes c _ h).mono ?_
  rintro e w1 ⟨rfl, g1⟩
  go_upto_region 2 with fail
  refine forget (fun Y => Below w.heap.size w Y ∧ Row Y w.heap.size 47 #[.int .i64 c, .int .i64 v] ∧ Row Y w1.heap.size 30 #[.string (S [Elt.lt c]), .int .i64 (Elt.lo c), .int .i64 (Elt.hi c), .int .i64 (Elt.dg c)]) ⟨(b0.trans (g1.mono b0.size)).alloc (Nat.le_trans b0.size g1.size) _, (r0.under g1).alloc _, Row.new _ _ _⟩ ?_
  clear g1 b0 r0
  rintro Y ⟨bY, r2, r4⟩
  obtain ⟨p0, p1⟩ := row2 r2
  obtain ⟨q0, q1, q2, q3⟩ := row4 r4
  have BY := Lib.hid bY; clear bY r2 r4
  by_cases h1 : Elt.lo c ≤ v
  · by_cases h2 : v ≤ Elt.hi c
    · have HD := Lib.hid (show decide (Elt.lo c ≤ v ∧ v ≤ Elt.hi c) = true from decide_eq_true ⟨h1, h2⟩)
      go_wp2_with fail
      go_ret
      exact ⟨ret_bool HD.out.symm, BY.out⟩
    · have HD := Lib.hid (show decide (Elt.lo c ≤ v ∧ v ≤ Elt.hi c) = false from decide_eq_false (fun h => h2 h.2))
      go_wp2_with fail
      go_ret
      exact ⟨ret_bool (decide_eq_false (by omega)).symm, BY.out⟩
  · have HD := Lib.hid (show decide (Elt.lo c ≤ v ∧ v ≤ Elt.hi c) = false from decide_eq_false (fun h => h1 h.1))
    go_wp2_with fail
    go_ret
    exact ⟨ret_bool (by rw [decide_eq_false (show ¬ Elt.lo c ≤ v by omega)]; rfl), BY.out⟩
set_option maxHeartbeats 1000000 in
theorem refByLetter_yes (c : Int) (w : World) (h : Elt.Ex c) :
    Calls Tryd.prog 24 #[.string (S [Elt.lt c])] w fun e w' => e = .returned (.tuple #[.int .i64 c, .int .i64 0]) ∧ Below w.heap.size w w' := by
  have HX := Lib.hid h
  obtain ⟨c1, c2⟩ := h
  go_enter Tryd.func24, Tryd.ntmps24
  go_wp2_with fail
  go_loopw [4] (fun t wr => ∃ k : Int, 1 ≤ k ∧ k ≤ c ∧ t = .int .i64 k ∧ Below w.heap.size w wr) (fun t _ => (12 - intOf t).toNat)
  case atStart => exact ⟨1, by omega, by omega, rfl, Below.refl _ _⟩
  case round =>
    obtain ⟨k, k1, k2, rfl, hb⟩ := hrel
    have k3 : k ≤ 11 := by omega
    have HK : Hid (Elt.Ex k) := Lib.hid ⟨k1, k3⟩
    have HB := Lib.hid hb; clear hb
    by_cases he : k = c
    · subst he
      have HD := Lib.hid (fun W => refDescribe_yes k W HK.out)
      have x1 : ((S [Elt.lt k]).toList == (S [Elt.lt k]).toList) = true := beq_self_eq_true _
      simp only [infoV] at HD
      generalize S [Elt.lt k] = sk at *
      go_wp2_with fail
      refine (HD.out _).mono ?_
      rintro e w1 ⟨rfl, g1⟩
      have B1 := Lib.hid ((HB.out.trans (g1.mono HB.out.size))); clear g1
      go_wp2_with fail
      go_ret2
      exact ⟨rfl, B1.out.alloc B1.out.size _⟩
    · have hne : ((S [Elt.lt k]).toList == (S [Elt.lt c]).toList) = false := toList_ne (fun e => he (Elt.lt_inj HK.out HX.out (by have := S_inj e; injection this)))
      have HE := Lib.hid he; clear he
      have HD := Lib.hid (fun W => refDescribe_yes k W HK.out)
      simp only [infoV] at HD
      generalize S [Elt.lt k] = sk at *
      generalize S [Elt.lt c] = sc at *
      go_wp2_with fail
      refine (HD.out _).mono ?_
      rintro e w1 ⟨rfl, g1⟩
      have B1 := Lib.hid ((HB.out.trans (g1.mono HB.out.size))); clear g1
      go_wp2_with fail
      go_roundw
      case rel => exact ⟨k + 1, by omega, by have := HE.out; omega, by go_num, B1.out.alloc B1.out.size _⟩
      case measure => simp [intOf]; omega
set_option maxHeartbeats 1000000 in
theorem refByLetter_no (s : ByteArray) (w : World) (h : ∀ c, Elt.Ex c → s ≠ S [Elt.lt c]) :
    Calls Tryd.prog 24 #[.string s] w fun e w' => e = .returned (.tuple #[.int .i64 0, .int .i64 9]) ∧ Below w.heap.size w w' := by
  have H := Lib.hid h; clear h
  go_enter Tryd.func24, Tryd.ntmps24
  go_wp2_with fail
  go_loopw [4] (fun t wr => ∃ k : Int, 1 ≤ k ∧ k ≤ 12 ∧ t = .int .i64 k ∧ Below w.heap.size w wr) (fun t _ => (12 - intOf t).toNat)
  case atStart => exact ⟨1, by omega, by omega, rfl, Below.refl _ _⟩
  case round =>
    obtain ⟨k, k1, k2, rfl, hb⟩ := hrel
    have HB := Lib.hid hb; clear hb
    by_cases k3 : k ≤ 11
    · have HK : Hid (Elt.Ex k) := Lib.hid ⟨k1, k3⟩
      have hne : ((S [Elt.lt k]).toList == s.toList) = false := toList_ne (fun e => H.out k HK.out e.symm)
      have HD := Lib.hid (fun W => refDescribe_yes k W HK.out)
      simp only [infoV] at HD
      generalize S [Elt.lt k] = sk at *
      go_wp2_with fail
      refine (HD.out _).mono ?_
      rintro e w1 ⟨rfl, g1⟩
      have B1 := Lib.hid ((HB.out.trans (g1.mono HB.out.size))); clear g1
      go_wp2_with fail
      go_roundw
      case rel => exact ⟨k + 1, by omega, by omega, by go_num, B1.out.alloc B1.out.size _⟩
      case measure => simp [intOf]; omega
    · go_wp2_with fail
      go_ret2
      exact ⟨rfl, HB.out⟩
/-- A byte made a text. -/
theorem conv_one (w : World) (c : Nat) (h2 : c ≤ 9) :
    (convert 53 9 (.slice (some ⟨w.heap.size, 0, none⟩) 1 1)).run Tryd.prog (w.alloc (.cells #[.int .u8 (48 + (c : Int))] 5)) = .ok (.string (S [Elt.b10 c])) (w.alloc (.cells #[.int .u8 (48 + (c : Int))] 5)) := by
  have h := run_convert_bytes_arg (P := Tryd.prog) (w.alloc (.cells #[.int .u8 (48 + (c : Int))] 5)) 53 5 Tryd.underlying53 Tryd.underlying5 w.heap.size 0 1 1 [48 + (c : Int)] rfl
    (fun i hi => by
      obtain rfl : i = 0 := by omega
      have := heap_alloc_new w (.cells #[.int .u8 (48 + (c : Int))] 5)
      unfold World.cell?; rw [this]; rfl) 9 Tryd.underlying9
  rw [h]
  rw [show strOfNums [48 + (c : Int)] = S [Elt.b10 c] by
    unfold strOfNums S Elt.b10
    simp only [List.map_cons, List.map_nil]
    rw [show (48 + (c : Int)).toNat = 48 + c by omega]]
theorem S_one (x : UInt8) : (⟨#[x]⟩ : ByteArray) = S [x] := rfl
attribute [local go_sem] S_add S_size S_one
set_option maxHeartbeats 400000 in
theorem refDigits_any (n k : Nat) (w : World) (h2 : n ≤ 99999) (h3 : k ≤ 9) :
    Calls Tryd.prog 43 #[.int .i64 n, .int .i64 k] w fun e w' => e = .returned (.string (S (Elt.ddn n k))) ∧ Below w.heap.size w w' := by
  go_enter Tryd.func43, Tryd.ntmps43
  go_wp2_with fail
  go_loopw [0, 5, 6] (fun a s i wr => ∃ (j : Nat) (q : Nat) (l : List UInt8), j ≤ k ∧ a = .int .i64 (q : Int) ∧ s = .string (S l) ∧ i = .int .i64 j ∧ q ≤ 99999 ∧ Hid (q = n / 10 ^ j ∧ l = Elt.ddn n j) ∧ l.length ≤ 9 ∧ Below w.heap.size w wr) (fun _ _ i _ => k - (intOf i).toNat)
  case atStart => exact ⟨0, n, [], Nat.zero_le _, rfl, rfl, rfl, h2, Lib.hid ⟨by simp, rfl⟩, by simp, Below.refl _ _⟩
  case round =>
    obtain ⟨j, q, l, hj, rfl, rfl, rfl, q2, hd, hl, hb⟩ := hrel
    by_cases hlt : j < k
    · have kc := conv_one wr (q % 10) (by omega)
      have m1 : ((q % 10 : Nat) : Int) = (q : Int) % 10 := by omega
      rw [m1] at kc
      have HB := Lib.hid hb; clear hb
      have HL : Hid (l.length = j) := Lib.hid (by rw [hd.out.2, Elt.ddn_len])
      go_wp2_with fail
      go_roundw
      case rel => exact ⟨j + 1, q / 10, Elt.b10 (q % 10) :: l, by omega, by go_num, rfl, by go_num, by omega, Lib.hid ⟨by rw [hd.out.1, Nat.pow_succ, Nat.div_div_eq_div_mul], by rw [Elt.ddn, ← hd.out.1, ← hd.out.2]⟩, by have := HL.out; simp; omega, HB.out.alloc HB.out.size _⟩
      case measure => simp [intOf]; omega
    · obtain rfl : j = k := by omega
      go_wp2_with fail
      go_ret
      exact ⟨ret_str (by rw [hd.out.2]), hb⟩
set_option maxHeartbeats 1000000 in
theorem refFormat_no (c v : Int) (w : World) (h : Elt.chk c v ≠ 0) :
    Calls Tryd.prog 27 #[rdV c v] w fun e w' => e = .returned (.tuple #[.string ⟨#[]⟩, .int .i64 (Elt.chk c v)]) ∧ Below w.heap.size w w' := by
  have b0 : Below w.heap.size w (w.alloc (.cells #[.int .i64 c, .int .i64 v] 47)) := (Below.refl _ _).alloc (Nat.le_refl _) _
  have r0 := Row.new w #[.int .i64 c, .int .i64 v] 47
  rcases Elt.chk_cases c v with ⟨-, hk⟩ | ⟨hx, hr, hk⟩ | ⟨hx, hk⟩
  · exact absurd hk h
  · rw [hk]
    clear h hk
    have HI := Lib.hid (fun W => refIn_any c v W hx)
    rw [decide_eq_false hr] at HI
    have HD := Lib.hid (fun W => refDescribe_yes c W hx)
    clear hr hx
    simp only [infoV] at HD
    go_enter Tryd.func27, Tryd.ntmps27
    go_wp2_with fail
    generalize w.alloc (.cells #[.int .i64 c, .int .i64 v] 47) = W0 at *
    refine (HD.out _).mono ?_
    rintro e w1 ⟨rfl, g1⟩
    have b1 := b0.trans (g1.mono b0.size)
    have r1 := r0.under g1
    clear g1 b0 r0
    go_upto_region 4 with fail
    refine forget (fun Y => Below w.heap.size w Y ∧ Row Y w.heap.size 47 #[.int .i64 c, .int .i64 v]) ⟨b1.alloc b1.size _, r1.alloc _⟩ ?_
    clear b1 r1
    rintro Y ⟨bY, rY⟩
    obtain ⟨p0, p1⟩ := row2 rY
    go_wp2_with fail
    refine (HI.out _).mono ?_
    rintro e w2 ⟨rfl, g2⟩
    have B2 := Lib.hid (bY.trans (g2.mono bY.size)); clear g2 bY rY p0 p1
    go_wp2_with fail
    go_ret2
    exact ⟨rfl, B2.out⟩
  · rw [hk]
    clear h hk
    have HD := Lib.hid (fun W => refDescribe_no c W hx)
    clear hx
    go_enter Tryd.func27, Tryd.ntmps27
    go_wp2_with fail
    generalize w.alloc (.cells #[.int .i64 c, .int .i64 v] 47) = W0 at *
    refine (HD.out _).mono ?_
    rintro e w1 ⟨rfl, g1⟩
    have B1 := Lib.hid (b0.trans (g1.mono b0.size))
    clear g1 b0 r0
    go_wp2_with fail
    go_ret2
    exact ⟨rfl, B1.out.alloc B1.out.size _⟩
end Go.Proofs.YthlcpmkjemdhkaaDoor
