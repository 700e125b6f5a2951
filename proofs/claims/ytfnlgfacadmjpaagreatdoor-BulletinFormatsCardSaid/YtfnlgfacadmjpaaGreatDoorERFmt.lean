/- Contracts of the reference's in, ByLetter, Digits, Format. The contract of the reference's Format on valid readings. -/
import Derived.Test.YtfnlgfacadmjpaaGreatDoorEVal2
import Derived.Laws.BytesArg
namespace Go.Proofs.YtfnlgfacadmjpaaGreatDoor.El
open Go.RowKit

set_option maxHeartbeats 1000000 in
theorem refIn_any (c v : Int) (w : World) (h : Elt.Ex c) :
    Calls Tryz.prog 117 #[rdV c v] w fun e w' => e = .returned (.bool (decide (Elt.lo c ≤ v ∧ v ≤ Elt.hi c))) ∧ Below w.heap.size w w' := by
  have b0 : Below w.heap.size w (w.alloc (.cells #[.int .i64 c, .int .i64 v] 99)) := (Below.refl _ _).alloc (Nat.le_refl _) _
  have r0 := Row.new w #[.int .i64 c, .int .i64 v] 99
  go_enter Tryz.func117, Tryz.ntmps117
  go_wp2_with fail
  generalize w.alloc (.cells #[.int .i64 c, .int .i64 v] 99) = W0 at *
  refine (refDescribe_yes c _ h).mono ?_
  rintro e w1 ⟨rfl, g1⟩
  go_upto_region 2 with fail
  refine forget (fun Y => Below w.heap.size w Y ∧ Row Y w.heap.size 99 #[.int .i64 c, .int .i64 v] ∧ Row Y w1.heap.size 139 #[.string (S [Elt.lt c]), .int .i64 (Elt.lo c), .int .i64 (Elt.hi c), .int .i64 (Elt.dg c)]) ⟨(b0.trans (g1.mono b0.size)).alloc (Nat.le_trans b0.size g1.size) _, (r0.under g1).alloc _, Row.new _ _ _⟩ ?_
  clear g1 b0 r0
  rintro Y ⟨bY, r2, r4⟩
  obtain ⟨p0, p1⟩ := row2 r2
  obtain ⟨q0, q1, q2, q3⟩ := row4 r4
  have BY := Lib.hid bY; clear bY r2 r4
  by_cases h1 : Elt.lo c ≤ v
  · by_cases h2 : v ≤ Elt.hi c
    · have HD := Lib.hid (show decide (Elt.lo c ≤ v ∧ v ≤ Elt.hi c) = true from decide_eq_true ⟨h1, h2⟩)
      go_wp2_with fail
      go_ret
      exact ⟨ret_bool HD.out.symm, BY.out⟩
    · have HD := Lib.hid (show decide (Elt.lo c ≤ v ∧ v ≤ Elt.hi c) = false from decide_eq_false (fun h => h2 h.2))
      go_wp2_with fail
      go_ret
      exact ⟨ret_bool (decide_eq_false (by omega)).symm, BY.out⟩
  · have HD := Lib.hid (show decide (Elt.lo c ≤ v ∧ v ≤ Elt.hi c) = false from decide_eq_false (fun h => h1 h.1))
    go_wp2_with fail
    go_ret
    exact ⟨ret_bool (by rw [decide_eq_false (show ¬ Elt.lo c ≤ v by omega)]; rfl), BY.out⟩
set_option maxHeartbeats 1000000 in
theorem refByLetter_yes (c : Int) (w : World) (h : Elt.Ex c) :
    Calls Tryz.prog 142 #[.string (S [Elt.lt c])] w fun e w' => e = .returned (.tuple #[.int .i64 c, .int .i64 0]) ∧ Below w.heap.size w w' := by
  have HX := Lib.hid h
  obtain ⟨c1, c2⟩ := h
  go_enter Tryz.func142, Tryz.ntmps142
  go_wp2_with fail
  go_loopw [4] (fun t wr => ∃ k : Int, 1 ≤ k ∧ k ≤ c ∧ t = .int .i64 k ∧ Below w.heap.size w wr) (fun t _ => (12 - intOf t).toNat)
  case atStart => exact ⟨1, by omega, by omega, rfl, Below.refl _ _⟩
  case round =>
    obtain ⟨k, k1, k2, rfl, hb⟩ := hrel
    have k3 : k ≤ 11 := by omega
    have HK : Hid (Elt.Ex k) := Lib.hid ⟨k1, k3⟩
    have HB := Lib.hid hb; clear hb
    by_cases he : k = c
    · subst he
      have HD := Lib.hid (fun W => refDescribe_yes k W HK.out)
      have x1 : ((S [Elt.lt k]).toList == (S [Elt.lt k]).toList) = true := beq_self_eq_true _
      simp only [infoV] at HD
      generalize S [Elt.lt k] = sk at *
      go_wp2_with fail
      refine (HD.out _).mono ?_
      rintro e w1 ⟨rfl, g1⟩
      have B1 := Lib.hid ((HB.out.trans (g1.mono HB.out.size))); clear g1
      go_wp2_with fail
      go_ret2
      exact ⟨rfl, B1.out.alloc B1.out.size _⟩
    · have hne : ((S [Elt.lt k]).toList == (S [Elt.lt c]).toList) = false := toList_ne (fun e => he (Elt.lt_inj HK.out HX.out (by have := S_inj e; injection this)))
      have HE := Lib.hid he; clear he
      have HD := Lib.hid (fun W => refDescribe_yes k W HK.out)
      simp only [infoV] at HD
      generalize S [Elt.lt k] = sk at *
      generalize S [Elt.lt c] = sc at *
      go_wp2_with fail
      refine (HD.out _).mono ?_
      rintro e w1 ⟨rfl, g1⟩
      have B1 := Lib.hid ((HB.out.trans (g1.mono HB.out.size))); clear g1
      go_wp2_with fail
      go_roundw
      case rel => exact ⟨k + 1, by omega, by have := HE.out; omega, by go_num, B1.out.alloc B1.out.size _⟩
      case measure => simp [intOf]; omega
set_option maxHeartbeats 1000000 in
theorem refByLetter_no (s : ByteArray) (w : World) (h : ∀ c, Elt.Ex c → s ≠ S [Elt.lt c]) :
    Calls Tryz.prog 142 #[.string s] w fun e w' => e = .returned (.tuple #[.int .i64 0, .int .i64 9]) ∧ Below w.heap.size w w' := by
  have H := Lib.hid h; clear h
  go_enter Tryz.func142, Tryz.ntmps142
  go_wp2_with fail
  go_loopw [4] (fun t wr => ∃ k : Int, 1 ≤ k ∧ k ≤ 12 ∧ t = .int .i64 k ∧ Below w.heap.size w wr) (fun t _ => (12 - intOf t).toNat)
  case atStart => exact ⟨1, by omega, by omega, rfl, Below.refl _ _⟩
  case round =>
    obtain ⟨k, k1, k2, rfl, hb⟩ := hrel
    have HB := Lib.hid hb; clear hb
    by_cases k3 : k ≤ 11
    · have HK : Hid (Elt.Ex k) := Lib.hid ⟨k1, k3⟩
      have hne : ((S [Elt.lt k]).toList == s.toList) = false := toList_ne (fun e => H.out k HK.out e.symm)
      have HD := Lib.hid (fun W => refDescribe_yes k W HK.out)
      simp only [infoV] at HD
      generalize S [Elt.lt k] = sk at *
      go_wp2_with fail
      refine (HD.out _).mono ?_
      rintro e w1 ⟨rfl, g1⟩
      have B1 := Lib.hid ((HB.out.trans (g1.mono HB.out.size))); clear g1
      go_wp2_with fail
      go_roundw
      case rel => exact ⟨k + 1, by omega, by omega, by go_num, B1.out.alloc B1.out.size _⟩
      case measure => simp [intOf]; omega
    · go_wp2_with fail
      go_ret2
      exact ⟨rfl, HB.out⟩
/-- A byte made a text. -/
theorem conv_one (w : World) (c : Nat) (h2 : c ≤ 9) :
    (convert 40 9 (.slice (some ⟨w.heap.size, 0, none⟩) 1 1)).run Tryz.prog (w.alloc (.cells #[.int .u8 (48 + (c : Int))] 5)) = .ok (.string (S [Elt.b10 c])) (w.alloc (.cells #[.int .u8 (48 + (c : Int))] 5)) := by
  have h := run_convert_bytes_arg (P := Tryz.prog) (w.alloc (.cells #[.int .u8 (48 + (c : Int))] 5)) 40 5 Tryz.underlying40 Tryz.underlying5 w.heap.size 0 1 1 [48 + (c : Int)] rfl
    (fun i hi => by
      obtain rfl : i = 0 := by omega
      have := heap_alloc_new w (.cells #[.int .u8 (48 + (c : Int))] 5)
      unfold World.cell?; rw [this]; rfl) 9 Tryz.underlying9
  rw [h]
  rw [show strOfNums [48 + (c : Int)] = S [Elt.b10 c] by
    unfold strOfNums S Elt.b10
    simp only [List.map_cons, List.map_nil]
    rw [show (48 + (c : Int)).toNat = 48 + c by omega]]
theorem S_one (x : UInt8) : (⟨#[x]⟩ : ByteArray) = S [x] := rfl
attribute [local go_sem] S_add S_size S_one
set_option maxHeartbeats 400000 in
theorem refDigits_any (n k : Nat) (w : World) (h2 : n ≤ 99999) (h3 : k ≤ 9) :
    Calls Tryz.prog 113 #[.int .i64 n, .int .i64 k] w fun e w' => e = .returned (.string (S (Elt.ddn n k))) ∧ Below w.heap.size w w' := by
  go_enter Tryz.func113, Tryz.ntmps113
  go_wp2_with fail
  go_loopw [0, 5, 6] (fun a s i wr => ∃ (j : Nat) (q : Nat) (l : List UInt8), j ≤ k ∧ a = .int .i64 (q : Int) ∧ s = .string (S l) ∧ i = .int .i64 j ∧ q ≤ 99999 ∧ Hid (q = n / 10 ^ j ∧ l = Elt.ddn n j) ∧ l.length ≤ 9 ∧ Below w.heap.size w wr) (fun _ _ i _ => k - (intOf i).toNat)
  case atStart => exact ⟨0, n, [], Nat.zero_le _, rfl, rfl, rfl, h2, Lib.hid ⟨by simp, rfl⟩, by simp, Below.refl _ _⟩
  case round =>
    obtain ⟨j, q, l, hj, rfl, rfl, rfl, q2, hd, hl, hb⟩ := hrel
    by_cases hlt : j < k
    · have kc := conv_one wr (q % 10) (by omega)
      have m1 : ((q % 10 : Nat) : Int) = (q : Int) % 10 := by omega
      rw [m1] at kc
      have HB := Lib.hid hb; clear hb
      have HL : Hid (l.length = j) := Lib.hid (by rw [hd.out.2, Elt.ddn_len])
      go_wp2_with fail
      go_roundw
      case rel => exact ⟨j + 1, q / 10, Elt.b10 (q % 10) :: l, by omega, by go_num, rfl, by go_num, by omega, Lib.hid ⟨by rw [hd.out.1, Nat.pow_succ, Nat.div_div_eq_div_mul], by rw [Elt.ddn, ← hd.out.1, ← hd.out.2]⟩, by have := HL.out; simp; omega, HB.out.alloc HB.out.size _⟩
      case measure => simp [intOf]; omega
    · obtain rfl : j = k := by omega
      go_wp2_with fail
      go_ret
      exact ⟨ret_str (by rw [hd.out.2]), hb⟩
set_option maxHeartbeats 1000000 in
theorem refFormat_no (c v : Int) (w : World) (h : Elt.chk c v ≠ 0) :
    Calls Tryz.prog 73 #[rdV c v] w fun e w' => e = .returned (.tuple #[.string ⟨#[]⟩, .int .i64 (Elt.chk c v)]) ∧ Below w.heap.size w w' := by
  have b0 : Below w.heap.size w (w.alloc (.cells #[.int .i64 c, .int .i64 v] 99)) := (Below.refl _ _).alloc (Nat.le_refl _) _
  have r0 := Row.new w #[.int .i64 c, .int .i64 v] 99
  rcases Elt.chk_cases c v with ⟨-, hk⟩ | ⟨hx, hr, hk⟩ | ⟨hx, hk⟩
  · exact absurd hk h
  · rw [hk]
    clear h hk
    have HI := Lib.hid (fun W => refIn_any c v W hx)
    rw [decide_eq_false hr] at HI
    have HD := Lib.hid (fun W => refDescribe_yes c W hx)
    clear hr hx
    simp only [infoV] at HD
    go_enter Tryz.func73, Tryz.ntmps73
    go_wp2_with fail
    generalize w.alloc (.cells #[.int .i64 c, .int .i64 v] 99) = W0 at *
    refine (HD.out _).mono ?_
    rintro e w1 ⟨rfl, g1⟩
    have b1 := b0.trans (g1.mono b0.size)
    have r1 := r0.under g1
    clear g1 b0 r0
    go_upto_region 4 with fail
    refine forget (fun Y => Below w.heap.size w Y ∧ Row Y w.heap.size 99 #[.int .i64 c, .int .i64 v]) ⟨b1.alloc b1.size _, r1.alloc _⟩ ?_
    clear b1 r1
    rintro Y ⟨bY, rY⟩
    obtain ⟨p0, p1⟩ := row2 rY
    go_wp2_with fail
    refine (HI.out _).mono ?_
    rintro e w2 ⟨rfl, g2⟩
    have B2 := Lib.hid (bY.trans (g2.mono bY.size)); clear g2 bY rY p0 p1
    go_wp2_with fail
    go_ret2
    exact ⟨rfl, B2.out⟩
  · rw [hk]
    clear h hk
    have HD := Lib.hid (fun W => refDescribe_no c W hx)
    clear hx
    go_enter Tryz.func73, Tryz.ntmps73
    go_wp2_with fail
    generalize w.alloc (.cells #[.int .i64 c, .int .i64 v] 99) = W0 at *
    refine (HD.out _).mono ?_
    rintro e w1 ⟨rfl, g1⟩
    have B1 := Lib.hid (b0.trans (g1.mono b0.size))
    clear g1 b0 r0
    go_wp2_with fail
    go_ret2
    exact ⟨rfl, B1.out.alloc B1.out.size _⟩
end Go.Proofs.YtfnlgfacadmjpaaGreatDoor.El
namespace Go.Proofs.YtfnlgfacadmjpaaGreatDoor.El
open Go.RowKit

attribute [local go_sem] S_add S_size S_one
set_option maxRecDepth 100000 in
set_option maxHeartbeats 2000000 in
theorem refFormat_yes (c v : Int) (w : World) (h : Elt.Val c v) :
    Calls Tryz.prog 73 #[rdV c v] w fun e w' => e = .returned (.tuple #[.string (S (Elt.txt c v)), .int .i64 0]) ∧ Below w.heap.size w w' := by
  have b0 : Below w.heap.size w (w.alloc (.cells #[.int .i64 c, .int .i64 v] 99)) := (Below.refl _ _).alloc (Nat.le_refl _) _
  have r0 := Row.new w #[.int .i64 c, .int .i64 v] 99
  obtain ⟨d1, d2, d3, d4⟩ := Elt.val_bd h
  obtain ⟨-, f6, f7, -⟩ := Elt.facts h.1
  have HI := Lib.hid (fun W => refIn_any c v W h.1)
  rw [decide_eq_true h.2] at HI
  have HD := Lib.hid (fun W => refDescribe_yes c W h.1)
  have hsg : Hid (Elt.txt c v = [Elt.lt c] ++ Elt.sg v ++ Elt.ddn v.natAbs (Elt.dg c)) := Lib.hid (by simp [Elt.txt, Elt.tail])
  clear h
  simp only [infoV] at HD
  go_enter Tryz.func73, Tryz.ntmps73
  go_wp2_with fail
  generalize w.alloc (.cells #[.int .i64 c, .int .i64 v] 99) = W0 at *
  refine (HD.out _).mono ?_
  rintro e w1 ⟨rfl, g1⟩
  have b1 := b0.trans (g1.mono b0.size)
  have r1 := r0.under g1
  clear g1 b0 r0
  obtain ⟨k, hk⟩ : ∃ k, Elt.dg c = k := ⟨_, rfl⟩
  have hk4 : 4 ≤ k := by omega
  have hk5 : k ≤ 5 := by omega
  go_upto_region 4 with fail
  refine forget (fun Y => Below w.heap.size w Y ∧ Row Y w.heap.size 99 #[.int .i64 c, .int .i64 v] ∧ Row Y w1.heap.size 139 #[.string (S [Elt.lt c]), .int .i64 (Elt.lo c), .int .i64 (Elt.hi c), .int .i64 k]) ⟨b1.alloc b1.size _, r1.alloc _, by rw [← hk]; exact Row.new _ _ _⟩ ?_
  rw [hk] at hsg
  clear b1 r1 HD d4 f6 f7 hk
  generalize w1.heap.size = gi at *
  rintro Y ⟨bY, rY, iY⟩
  obtain ⟨p0, p1⟩ := row2 rY
  go_wp2_with fail
  refine (HI.out _).mono ?_
  rintro e w2 ⟨rfl, g2⟩
  have b2 := bY.trans (g2.mono bY.size)
  have r2 := rY.under g2
  have i2 := iY.under g2
  clear g2 bY rY iY p0 p1
  obtain ⟨p0, p1⟩ := row2 r2
  obtain ⟨q0, q1, q2, q3⟩ := row4 i2
  have B2 := Lib.hid b2
  have R2 := Lib.hid r2
  have I2 := Lib.hid i2
  clear b2 r2 i2
  have hn : v.natAbs ≤ 99999 := by omega
  have HG := Lib.hid (fun W => refDigits_any v.natAbs k W hn (by omega))
  have S0 : w2.drew.cell? ⟨gi, 0, none⟩ = some (.string (S [Elt.lt c])) ∧ w2.drew.cell? ⟨gi, 3, none⟩ = some (.int .i64 k) ∧ w2.drew.cell? ⟨w.heap.size, 1, none⟩ = some (.int .i64 v) := ⟨q0, q3, p1⟩
  have SK : Hid (∀ W', Below w2.heap.size w2 W' → W'.cell? ⟨gi, 0, none⟩ = some (.string (S [Elt.lt c])) ∧ W'.cell? ⟨gi, 3, none⟩ = some (.int .i64 k) ∧ W'.cell? ⟨w.heap.size, 1, none⟩ = some (.int .i64 v)) := Lib.hid (fun W' hb => by
    have := row4 (I2.out.under hb)
    have h2 := row2 (R2.out.under hb)
    exact ⟨this.1, this.2.2.2, h2.2⟩)
  have hl := Elt.ddn_len v.natAbs k
  have kb1 : ¬ 9223372036854775807 < 1 + k := by omega
  have kb2 : ¬ 9223372036854775807 < 2 + k := by omega
  by_cases hv : v < 0
  · have x1 : IntKind.i64.wrap (-v) = ((v.natAbs : Nat) : Int) := by rw [show -v = ((v.natAbs : Nat) : Int) by omega]; exact IntWalk.i64_in _ (by omega)
    have s1 := Lib.hid (show Elt.sg v = [45] from if_pos hv)
    generalize Elt.ddn v.natAbs k = dl at *
    go_upto_region 7 with fail
    refine wp_region_held_drew (S := fun w' : World => w'.cell? ⟨gi, 0, none⟩ = some (.string (S [Elt.lt c])) ∧ w'.cell? ⟨gi, 3, none⟩ = some (.int .i64 k) ∧ w'.cell? ⟨w.heap.size, 1, none⟩ = some (.int .i64 v)) (by kernel_rfl) S0 (fun hHeld => ?_)
    refine wpAnyH_take (i := 0) (v := ?_) rfl (by kernel_rfl) (by kernel_rfl) (by kernel_rfl) (fun _ _ _ h => h) (Or.inl ⟨by rfl, ?_⟩) (by assumption) ?_
    case refine_2 => (intro wx hSx; (try dsimp only at hSx); go_simp; first | done | with_reducible rfl)
    try simp only [Act.put]
    refine wpAnyH_take (i := 1) (v := ?_) rfl (by kernel_rfl) (by kernel_rfl) (by kernel_rfl) (fun _ _ _ h => h) (Or.inl ⟨by rfl, ?_⟩) (by assumption) ?_
    case refine_2 => (intro wx hSx; (try dsimp only at hSx); go_simp; first | done | with_reducible rfl)
    try simp only [Act.put]
    refine wpAnyH_take (i := 2) (v := ?_) rfl (by kernel_rfl) (by kernel_rfl) (by kernel_rfl) (fun _ _ _ h => h) (Or.inl ⟨by rfl, ?_⟩) (by assumption) ?_
    case refine_2 => (intro wx hSx; (try dsimp only at hSx); go_simp; first | done | with_reducible rfl)
    try simp only [Act.put]
    refine wpAnyH_take (i := 3) (v := ?_) rfl (by kernel_rfl) (by kernel_rfl) (by kernel_rfl) (fun _ _ _ h => h) (Or.inl ⟨by rfl, ?_⟩) (by assumption) ?_
    case refine_2 => (intro wx hSx; (try dsimp only at hSx); go_simp; first | done | with_reducible rfl)
    try simp only [Act.put]
    refine wpAnyH_take (i := 4) (v := ?_) rfl (by kernel_rfl) (by kernel_rfl) (by kernel_rfl) (fun _ _ _ h => h) (Or.inl ⟨by rfl, ?_⟩) (by assumption) ?_
    case refine_2 => (intro wx hSx; (try dsimp only at hSx); go_simp; first | done | with_reducible rfl)
    try simp only [Act.put]
    refine wpAnyH_take (i := 5) (v := ?_) rfl (by kernel_rfl) (by kernel_rfl) (by kernel_rfl) (fun _ _ _ h => h) (Or.inl ⟨by rfl, ?_⟩) (by assumption) ?_
    case refine_2 => (intro wx hSx; (try dsimp only at hSx); go_simp; first | done | with_reducible rfl)
    try simp only [Act.put]
    refine wpAnyH_take (i := 6) (v := ?_) rfl (by kernel_rfl) (by kernel_rfl) (by kernel_rfl) (fun _ _ _ h => h) (Or.inl ⟨by rfl, ?_⟩) (by assumption) ?_
    case refine_2 => (intro wx hSx; (try dsimp only at hSx); go_simp; first | done | with_reducible rfl)
    try simp only [Act.put]
    refine wpAnyH_take (i := 7) (v := ?_) rfl (by kernel_rfl) (by kernel_rfl) (by kernel_rfl) (fun _ _ _ h => h) (Or.inl ⟨by rfl, ?_⟩) (by assumption) ?_
    case refine_2 => (intro wx hSx; (try dsimp only at hSx); go_simp; first | done | with_reducible rfl)
    try simp only [Act.put]
    refine wpAnyH_ready (rs := [8]) (by kernel_rfl) (by simp) ?_
    refine AllReadyH.cons rfl (fun K hK => ?_) AllReadyH.nil
    go_simp
    refine (HG.out _).mono ?_
    rintro e w3 ⟨rfl, g3⟩
    have G3 : Hid (Below w2.heap.size w2 w3) := Lib.hid (undrew g3)
    clear g3
    have SS := SK.out w3 G3.out
    go_wp2_with fail
    refine hK.out _ _ SS (fun hHeld2 => ?_)
    clear SS
    clear hK K hHeld
    try simp only [Act.put]
    refine wpAnyH_take (i := 9) (oi := ⟨some 30, _, _, _, _, none⟩) (v := ?_) rfl (by kernel_rfl) (by kernel_rfl) (by kernel_rfl) (fun _ _ _ h => h) (Or.inl ⟨by rfl, ?_⟩) (by assumption) ?_
    case refine_2 => (intro wx hSx; (try dsimp only at hSx); go_simp; first | done | with_reducible rfl)
    try simp only [Act.put]
    refine wpAnyH_take (i := 10) (oi := ⟨some 2, _, _, _, _, none⟩) (v := ?_) rfl (by kernel_rfl) (by kernel_rfl) (by kernel_rfl) (fun _ _ _ h => h) (Or.inl ⟨by rfl, ?_⟩) (by assumption) ?_
    case refine_2 => (intro wx hSx; (try dsimp only at hSx); go_simp; first | done | with_reducible rfl)
    try simp only [Act.put]
    refine wpAnyH_take (i := 11) (oi := ⟨some 3, _, _, _, _, none⟩) (v := ?_) rfl (by kernel_rfl) (by kernel_rfl) (by kernel_rfl) (fun _ _ _ h => h) (Or.inl ⟨by rfl, ?_⟩) (by assumption) ?_
    case refine_2 => (intro wx hSx; (try dsimp only at hSx); go_simp; first | done | with_reducible rfl)
    try simp only [Act.put]
    refine wpAnyH_done (by kernel_rfl) ?_ _
    go_wp2_with fail
    go_ret2
    exact ⟨ret_str2 (by rw [hsg.out, s1.out]; rfl), B2.out.trans (G3.out.mono B2.out.size)⟩
  · obtain ⟨n, rfl⟩ := Int.eq_ofNat_of_zero_le (show 0 ≤ v by omega)
    have s1 := Lib.hid (show Elt.sg (n : Int) = [] from if_neg hv)
    simp only [Int.natAbs_natCast] at HG hl hsg hn
    generalize Elt.ddn n k = dl at *
    go_upto_region 8 with fail
    refine wp_region_held_drew (S := fun w' : World => w'.cell? ⟨gi, 0, none⟩ = some (.string (S [Elt.lt c])) ∧ w'.cell? ⟨gi, 3, none⟩ = some (.int .i64 k) ∧ w'.cell? ⟨w.heap.size, 1, none⟩ = some (.int .i64 (n : Int))) (by kernel_rfl) S0 (fun hHeld => ?_)
    refine wpAnyH_take (i := 0) (v := ?_) rfl (by kernel_rfl) (by kernel_rfl) (by kernel_rfl) (fun _ _ _ h => h) (Or.inl ⟨by rfl, ?_⟩) (by assumption) ?_
    case refine_2 => (intro wx hSx; (try dsimp only at hSx); go_simp; first | done | with_reducible rfl)
    try simp only [Act.put]
    refine wpAnyH_take (i := 1) (v := ?_) rfl (by kernel_rfl) (by kernel_rfl) (by kernel_rfl) (fun _ _ _ h => h) (Or.inl ⟨by rfl, ?_⟩) (by assumption) ?_
    case refine_2 => (intro wx hSx; (try dsimp only at hSx); go_simp; first | done | with_reducible rfl)
    try simp only [Act.put]
    refine wpAnyH_take (i := 2) (v := ?_) rfl (by kernel_rfl) (by kernel_rfl) (by kernel_rfl) (fun _ _ _ h => h) (Or.inl ⟨by rfl, ?_⟩) (by assumption) ?_
    case refine_2 => (intro wx hSx; (try dsimp only at hSx); go_simp; first | done | with_reducible rfl)
    try simp only [Act.put]
    refine wpAnyH_take (i := 3) (v := ?_) rfl (by kernel_rfl) (by kernel_rfl) (by kernel_rfl) (fun _ _ _ h => h) (Or.inl ⟨by rfl, ?_⟩) (by assumption) ?_
    case refine_2 => (intro wx hSx; (try dsimp only at hSx); go_simp; first | done | with_reducible rfl)
    try simp only [Act.put]
    refine wpAnyH_take (i := 4) (v := ?_) rfl (by kernel_rfl) (by kernel_rfl) (by kernel_rfl) (fun _ _ _ h => h) (Or.inl ⟨by rfl, ?_⟩) (by assumption) ?_
    case refine_2 => (intro wx hSx; (try dsimp only at hSx); go_simp; first | done | with_reducible rfl)
    try simp only [Act.put]
    refine wpAnyH_take (i := 5) (v := ?_) rfl (by kernel_rfl) (by kernel_rfl) (by kernel_rfl) (fun _ _ _ h => h) (Or.inl ⟨by rfl, ?_⟩) (by assumption) ?_
    case refine_2 => (intro wx hSx; (try dsimp only at hSx); go_simp; first | done | with_reducible rfl)
    try simp only [Act.put]
    refine wpAnyH_ready (rs := [6]) (by kernel_rfl) (by simp) ?_
    refine AllReadyH.cons rfl (fun K hK => ?_) AllReadyH.nil
    go_simp
    refine (HG.out _).mono ?_
    rintro e w3 ⟨rfl, g3⟩
    have G3 : Hid (Below w2.heap.size w2 w3) := Lib.hid (undrew g3)
    clear g3
    have SS := SK.out w3 G3.out
    go_wp2_with fail
    refine hK.out _ _ SS (fun hHeld2 => ?_)
    clear SS
    clear hK K hHeld
    try simp only [Act.put]
    refine wpAnyH_take (i := 7) (oi := ⟨some 38, _, _, _, _, none⟩) (v := ?_) rfl (by kernel_rfl) (by kernel_rfl) (by kernel_rfl) (fun _ _ _ h => h) (Or.inl ⟨by rfl, ?_⟩) (by assumption) ?_
    case refine_2 => (intro wx hSx; (try dsimp only at hSx); go_simp; first | done | with_reducible rfl)
    try simp only [Act.put]
    refine wpAnyH_take (i := 8) (oi := ⟨some 2, _, _, _, _, none⟩) (v := ?_) rfl (by kernel_rfl) (by kernel_rfl) (by kernel_rfl) (fun _ _ _ h => h) (Or.inl ⟨by rfl, ?_⟩) (by assumption) ?_
    case refine_2 => (intro wx hSx; (try dsimp only at hSx); go_simp; first | done | with_reducible rfl)
    try simp only [Act.put]
    refine wpAnyH_take (i := 9) (oi := ⟨some 3, _, _, _, _, none⟩) (v := ?_) rfl (by kernel_rfl) (by kernel_rfl) (by kernel_rfl) (fun _ _ _ h => h) (Or.inl ⟨by rfl, ?_⟩) (by assumption) ?_
    case refine_2 => (intro wx hSx; (try dsimp only at hSx); go_simp; first | done | with_reducible rfl)
    try simp only [Act.put]
    refine wpAnyH_done (by kernel_rfl) ?_ _
    go_wp2_with fail
    go_ret2
    exact ⟨ret_str2 (by rw [hsg.out, s1.out, List.append_nil]; rfl), B2.out.trans (G3.out.mono B2.out.size)⟩
end Go.Proofs.YtfnlgfacadmjpaaGreatDoor.El
