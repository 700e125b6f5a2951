/- Lists of shares are compared share by share: the contract of the reference's Shares; the sanity check of every statement of the layer. -/
import Derived.Test.YtehehhehilgnkaaGreatSome
import Derived.Laws.StructEq
import Derived.ChangeKeysEq
namespace Go.Proofs.YtehehhehilgnkaaGreat
open Go.RowKit

theorem eq_share (a b a' b' : Int) (w : World) :
    (Op.equalIn 10000 75 (.agg #[.int .i64 a, .int .i64 b]) (.agg #[.int .i64 a', .int .i64 b'])).run Tryz.prog w = .ok (a == a' && b == b') w := by
  have u3 := Tryz.underlying3
  have a3 := Tryz.isAgg3
  have z3 := Tryz.sizeOf3
  have hS : Tryz.prog.underlying 75 = some (.struct (Tryz.prog.fieldsOf 75)) := by kernel_rfl
  rw [show (10000 : Nat) = 9999 + 1 from rfl, run_equalIn_agg w 9999 75 _ _ hS (by kernel_rfl)]
  simp only [Program.fieldsOf, Tryz.underlying75]
  go_simp
  by_cases h1 : a = a' <;> by_cases h2 : b = b' <;> simp [h1, h2]
/-- A list of shares as the program holds it. -/
def ShIn (w : World) (v : Value) (L : List (Nat × Int)) : Prop := ∃ A cap, v = .slice A L.length cap ∧ L.length ≤ cap ∧ cap ≤ 9223372036854775807 ∧ ∀ i (h : i < L.length), ∃ g, A = some ⟨g, 0, none⟩ ∧ g < w.heap.size ∧ w.cell? ⟨g, i * 2, none⟩ = some (.int .i64 ((L[i]).1 : Int)) ∧ w.cell? ⟨g, i * 2 + 1, none⟩ = some (.int .i64 (L[i]).2)
theorem ShIn.of {W w : World} {v : Value} {L : List (Nat × Int)} (h : ShareR W L v w) : ShIn w v L := by
  obtain ⟨g, cap, h1, h2, h3, h4, h5, h6, h7⟩ := h
  exact ⟨some ⟨g, 0, none⟩, cap, h1, h2, h3, fun i hi => ⟨g, rfl, h6, (h7 i hi).1, (h7 i hi).2⟩⟩
theorem ShIn.under {w w' : World} {v : Value} {L : List (Nat × Int)} (h : ShIn w v L) (hb : Below w.heap.size w w') : ShIn w' v L := by
  obtain ⟨A, cap, h1, h2, h3, h4⟩ := h
  refine ⟨A, cap, h1, h2, h3, fun i hi => ?_⟩
  obtain ⟨g, a, b, c, d⟩ := h4 i hi
  exact ⟨g, a, Nat.lt_of_lt_of_le b hb.size, (hb.cell (p := ⟨g, i * 2, none⟩) b).trans c, (hb.cell (p := ⟨g, i * 2 + 1, none⟩) b).trans d⟩
theorem ShIn.nil (w : World) : ShIn w (.slice none 0 0) [] := ⟨none, 0, rfl, Nat.le_refl _, by omega, fun i hi => by simp at hi⟩
theorem ShIn.drewN {w : World} {v : Value} {L : List (Nat × Int)} (h : ShIn w v L) (k : Nat) : ShIn (w.drewN k) v L := h
attribute [local go_sem] eq_share
set_option maxRecDepth 100000 in
set_option maxHeartbeats 4000000 in
theorem shareq_any (va vb : Value) (L M : List (Nat × Int)) (w : World) (ha : ShIn w va L) (hb : ShIn w vb M) :
    Calls Tryz.prog 34 #[va, vb] w fun e w' => e = .returned (.bool (decide (L = M))) ∧ Below w.heap.size w w' := by
  obtain ⟨A, cA, rfl, lA, mA, hA⟩ := ha
  obtain ⟨B, cB, rfl, lB, mB, hB⟩ := hb
  have HA := Lib.hid hA; clear hA
  have HB := Lib.hid hB; clear hB
  by_cases hl : L.length = M.length
  · have HL := Lib.hid hl
    rw [← hl] at lB
    rw [← hl]
    clear hl
    go_enter Tryz.func34, Tryz.ntmps34
    go_wp2_with fail
    go_loopw [5] (fun t wr => ∃ k : Nat, k ≤ L.length ∧ t = .int .i64 k ∧ L.take k = M.take k ∧ ∃ q, wr = w.drewN q) (fun t _ => L.length - (intOf t).toNat)
    case atStart => exact ⟨0, by omega, rfl, rfl, 0, rfl⟩
    case round =>
      obtain ⟨k, hk, rfl, ht, q, rfl⟩ := hrel
      have HT := Lib.hid ht; clear ht
      by_cases hlt : k < L.length
      · have hltM : k < M.length := HL.out ▸ hlt
        obtain ⟨g, rfl, -, c0, c1⟩ := HA.out k hlt
        obtain ⟨g', rfl, -, d0, d1⟩ := HB.out k hltM
        have k0 : (0 : Int) ≤ (k : Int) := by omega
        have k1 : (k : Int) < (L.length : Int) := by omega
        have x1 : IntKind.i64.wrap (k : Int) = (k : Int) := IntWalk.i64_in _ (by omega)
        have hs : Hid (L[k] = M[k] → L.take (k + 1) = M.take (k + 1)) := Lib.hid (fun e => by rw [List.take_succ_eq_append_getElem hlt, List.take_succ_eq_append_getElem hltM, HT.out, e])
        have hn : Hid (L[k] ≠ M[k] → decide (L = M) = false) := Lib.hid (fun e => decide_eq_false (fun h => e (by subst h; rfl)))
        generalize L[k] = x at *
        generalize M[k] = y at *
        obtain ⟨x0, x2⟩ := x
        obtain ⟨y0, y2⟩ := y
        simp only at c0 c1 d0 d1
        by_cases h1 : x0 = y0
        · subst h1
          by_cases h2 : x2 = y2
          · subst h2
            go_wp2_with fail
            go_quiet (fail)
            go_wp2_with fail
            go_roundw
            case rel => exact ⟨k + 1, by omega, by go_num, hs.out (by trivial), _, rfl⟩
            case measure => simp [intOf]; omega
          · have e2 : (x2 == y2) = false := beq_eq_false_iff_ne.2 h2
            have HN : Hid (decide (L = M) = false) := Lib.hid (hn.out (fun h => h2 (congrArg Prod.snd h)))
            clear h2
            go_wp2_with fail
            go_quiet (fail)
            go_wp2_with fail
            go_ret
            exact ⟨by rw [HN.out]; rfl, ⟨rfl, rfl, rfl, Nat.le_refl _, fun _ _ => rfl⟩⟩
        · have e1 : ((x0 : Int) == (y0 : Int)) = false := beq_eq_false_iff_ne.2 (by omega)
          have HN : Hid (decide (L = M) = false) := Lib.hid (hn.out (fun h => h1 (congrArg Prod.fst h)))
          clear h1
          go_wp2_with fail
          go_quiet (fail)
          go_wp2_with fail
          go_ret
          exact ⟨by rw [HN.out]; rfl, ⟨rfl, rfl, rfl, Nat.le_refl _, fun _ _ => rfl⟩⟩
      · have hke : k = L.length := by omega
        have hd : decide (L = M) = true := decide_eq_true (by
          have := HT.out
          rw [hke, List.take_length, HL.out, List.take_length] at this
          exact this)
        have HD := Lib.hid hd; clear hd hke
        have k1 : ¬ ((k : Int) < (L.length : Int)) := by omega
        go_wp2_with fail
        go_ret
        exact ⟨by rw [HD.out]; rfl, ⟨rfl, rfl, rfl, Nat.le_refl _, fun _ _ => rfl⟩⟩
  · have HD := Lib.hid (show decide (L = M) = false from decide_eq_false (fun h => hl (by rw [h])))
    have e1 : ((L.length : Int) == (M.length : Int)) = false := beq_eq_false_iff_ne.2 (by omega)
    clear hl
    go_enter Tryz.func34, Tryz.ntmps34
    go_wp2_with fail
    go_ret
    exact ⟨by rw [HD.out]; rfl, Below.refl _ _⟩
theorem ex_a : Lat.idx 2 0 2 0 = 5 := by decide +kernel
theorem ex_b : Lat.idx 2 0 1 1 = 4 := by decide +kernel
theorem ex_l : Lat.loc 2 0 630 210 0 = [(4, 420), (5, 420)] := by decide +kernel
theorem frq2 : Lat.frq 2 := ⟨by decide, by decide⟩
theorem index_a (w : World) : Calls Tryz.prog 31 #[.int .i64 2, .agg #[.int .i64 0, .int .i64 840, .int .i64 0, .int .i64 0]] w fun e w' => e = .returned (.tuple #[.int .i64 5, .int .i64 0]) ∧ Below w.heap.size w w' := by
  have h := index_yes 2 0 840 0 0 w frq2 (by unfold Ico.Vld; omega) (by decide +kernel) (by decide +kernel) (by decide +kernel)
  rw [show Lat.xa 2 840 = 2 by decide +kernel, show Lat.xa 2 0 = 0 by decide +kernel, ex_a] at h
  exact h
theorem index_b (w : World) : Calls Tryz.prog 31 #[.int .i64 2, .agg #[.int .i64 0, .int .i64 420, .int .i64 420, .int .i64 0]] w fun e w' => e = .returned (.tuple #[.int .i64 4, .int .i64 0]) ∧ Below w.heap.size w w' := by
  have h := index_yes 2 0 420 420 0 w frq2 (by unfold Ico.Vld; omega) (by decide +kernel) (by decide +kernel) (by decide +kernel)
  rw [show Lat.xa 2 420 = 1 by decide +kernel, ex_b] at h
  exact h
theorem locate_ex (w : World) : Calls Tryz.prog 32 #[.int .i64 2, .agg #[.int .i64 0, .int .i64 630, .int .i64 210, .int .i64 0]] w (LocateR w [(4, 420), (5, 420)]) := by
  have h := locate_yes 2 0 630 210 0 w frq2 (by unfold Ico.Vld; omega)
  rw [ex_l] at h
  exact h
theorem count_ex (w : World) : Calls Tryz.prog 33 #[.int .i64 2] w fun e w' => e = .returned (.int .i64 42) ∧ w = w' := count_yes 2 w frq2
theorem shin_lit (w : World) : ShIn (w.alloc (.cells #[.int .i64 4, .int .i64 420, .int .i64 5, .int .i64 420] 75)) (.slice (some ⟨w.heap.size, 0, none⟩) 2 2) [(4, 420), (5, 420)] := by
  have r := Row.new w #[.int .i64 4, .int .i64 420, .int .i64 5, .int .i64 420] 75
  refine ⟨_, 2, rfl, Nat.le_refl _, by omega, fun i hi => ⟨w.heap.size, rfl, r.lt, ?_⟩⟩
  obtain ⟨c0, c1, c2, c3⟩ := row4 r
  have : i = 0 ∨ i = 1 := by simp at hi; omega
  rcases this with rfl | rfl
  · exact ⟨c0, c1⟩
  · exact ⟨c2, c3⟩
set_option maxRecDepth 100000 in
set_option maxHeartbeats 4000000 in
theorem awake_any (w : World) :
    Calls Tryz.prog 15 #[] w fun e w' => e = .returned (.bool true) ∧ Below w.heap.size w w' := by
  go_enter Tryz.func15, Tryz.ntmps15
  go_wp2_with fail
  refine (index_a _).mono ?_
  rintro e w1 ⟨rfl, b1⟩
  go_wp2_with fail
  refine (index_b _).mono ?_
  rintro e w2 ⟨rfl, hb2⟩
  have b2 := b1.trans (hb2.mono b1.size)
  clear b1 hb2
  go_wp2_with fail
  refine (locate_ex _).mono ?_
  rintro e w3 ⟨v, rfl, hr⟩
  have b3 : Below w.heap.size w w3 := by
    obtain ⟨_, _, _, _, _, h4, _⟩ := hr
    exact b2.trans (h4.mono b2.size)
  have S3 := Lib.hid (ShIn.of hr)
  have B3 := Lib.hid b3
  clear hr b2 b3
  go_wp2_with fail
  refine (count_ex _).mono ?_
  rintro e w4 ⟨rfl, rfl⟩
  go_wp2_with fail
  refine (shareq_any _ _ _ _ _ (S3.out.under ((Below.refl _ _).alloc (Nat.le_refl _) _)) (shin_lit _)).mono ?_
  rintro e w5 ⟨rfl, hb5⟩
  have B5 := Lib.hid (B3.out.trans ((((Below.refl _ _).alloc (Nat.le_refl _) _).trans (hb5.mono (by simp))).mono B3.out.size))
  clear hb5
  go_wp2_with fail
  go_ret
  exact ⟨by simp, B5.out⟩
theorem awake_from {w0 : World} (X : World) (hb : Below w0.heap.size w0 X) :
    Calls Tryz.prog 15 #[] X fun e w' => e = .returned (.bool true) ∧ Below w0.heap.size w0 w' :=
  (awake_any X).mono fun _ _ ⟨he, hg⟩ => ⟨he, hb.trans (hg.mono hb.size)⟩
end Go.Proofs.YtehehhehilgnkaaGreat

