/- The contracts of the reference's Same and Find. -/
import Derived.Test.YthlcpmkjemdhkaaDoorVal2
import Derived.Test.YthlcpmkjemdhkaaDoorAwake
import Derived.Laws.StructEq
import Derived.ChangeKeysEq
namespace Go.Proofs.YthlcpmkjemdhkaaDoor
open Go.RowKit
attribute [local go_sem] eq_reading
set_option maxRecDepth 100000 in
set_option maxHeartbeats 4000000 in
theorem same_any (va vb : Value) (L M : List Elt.R) (w : World) (ha : RdIn w va L) (hb : RdIn w vb M) :
    Calls Tryd.prog 19 #[va, vb] w fun e w' => e = .returned (.bool (decide (L = M))) ∧ Below w.heap.size w w' := by
  obtain ⟨A, cA, rfl, lA, mA, hA⟩ := ha
  obtain ⟨B, cB, rfl, lB, mB, hB⟩ := hb
  have HA := Lib.hid hA; clear hA
  have HB := Lib.hid hB; clear hB
  by_cases hl : L.length = M.length
  · have HL := Lib.hid hl
    rw [← hl] at lB
    rw [← hl]
    clear hl
    go_enter Tryd.func19, Tryd.ntmps19
    go_wp2_with fail
    go_loopw [5] (fun t wr => ∃ k : Nat, k ≤ L.length ∧ t = .int .i64 k ∧ L.take k = M.take k ∧ ∃ q, wr = w.drewN q) (fun t _ => L.length - (intOf t).toNat)
    case atStart => exact ⟨0, by omega, rfl, rfl, 0, rfl⟩
    case round =>
      obtain ⟨k, hk, rfl, ht, q, rfl⟩ := hrel
      have HT := Lib.hid ht; clear ht
      by_cases hlt : k < L.length
      · have hltM : k < M.length := HL.out ▸ hlt
        obtain ⟨g, off, rfl, -, c0, c1⟩ := HA.out k hlt
        obtain ⟨g', off', rfl, -, d0, d1⟩ := HB.out k hltM
        have k0 : (0 : Int) ≤ (k : Int) := by omega
        have k1 : (k : Int) < (L.length : Int) := by omega
        have x1 : IntKind.i64.wrap (k : Int) = (k : Int) := IntWalk.i64_in _ (by omega)
        have hs : Hid (L[k] = M[k] → L.take (k + 1) = M.take (k + 1)) := Lib.hid (fun e => by rw [List.take_succ_eq_append_getElem hlt, List.take_succ_eq_append_getElem hltM, HT.out, e])
        have hn : Hid (L[k] ≠ M[k] → decide (L = M) = false) := Lib.hid (fun e => decide_eq_false (fun h => e (by subst h; rfl)))
        generalize L[k] = x at *
        generalize M[k] = y at *
        obtain ⟨x0, x2⟩ := x
        obtain ⟨y0, y2⟩ := y
        simp only at c0 c1 d0 d1
        by_cases h1 : x0 = y0
        · subst h1
          by_cases h2 : x2 = y2
          · subst h2
            go_wp2_with fail
            go_quiet (fail)
            go_wp2_with fail
            go_roundw
            case rel => exact ⟨k + 1, by omega, by go_num, hs.out (by trivial), _, rfl⟩
            case measure => simp [intOf]; omega
          · have e2 : (x2 == y2) = false := beq_eq_false_iff_ne.2 h2
            have HN : Hid (decide (L = M) = false) := Lib.hid (hn.out (fun h => h2 (congrArg Prod.snd h)))
            clear h2
            go_wp2_with fail
            go_quiet (fail)
            go_wp2_with fail
            go_ret
            exact ⟨by rw [HN.out]; rfl, ⟨rfl, rfl, rfl, Nat.le_refl _, fun _ _ => rfl⟩⟩
        · have e1 : ((x0 : Int) == (y0 : Int)) = false := beq_eq_false_iff_ne.2 (by omega)
          have HN : Hid (decide (L = M) = false) := Lib.hid (hn.out (fun h => h1 (congrArg Prod.fst h)))
          clear h1
          go_wp2_with fail
          go_quiet (fail)
          go_wp2_with fail
          go_ret
          exact ⟨by rw [HN.out]; rfl, ⟨rfl, rfl, rfl, Nat.le_refl _, fun _ _ => rfl⟩⟩
      · have hke : k = L.length := by omega
        have hd : decide (L = M) = true := decide_eq_true (by
          have := HT.out
          rw [hke, List.take_length, HL.out, List.take_length] at this
          exact this)
        have HD := Lib.hid hd; clear hd hke
        have k1 : ¬ ((k : Int) < (L.length : Int)) := by omega
        go_wp2_with fail
        go_ret
        exact ⟨by rw [HD.out]; rfl, ⟨rfl, rfl, rfl, Nat.le_refl _, fun _ _ => rfl⟩⟩
  · have HD := Lib.hid (show decide (L = M) = false from decide_eq_false (fun h => hl (by rw [h])))
    have e1 : ((L.length : Int) == (M.length : Int)) = false := beq_eq_false_iff_ne.2 (by omega)
    clear hl
    go_enter Tryd.func19, Tryd.ntmps19
    go_wp2_with fail
    go_ret
    exact ⟨by rw [HD.out]; rfl, Below.refl _ _⟩
end Go.Proofs.YthlcpmkjemdhkaaDoor
