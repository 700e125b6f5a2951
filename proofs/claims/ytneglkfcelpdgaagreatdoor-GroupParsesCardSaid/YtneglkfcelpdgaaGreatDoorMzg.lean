/- Contract of the program's Same. -/
import Derived.Test.YtneglkfcelpdgaaGreatDoorMt
import Derived.Test.YtneglkfcelpdgaaGreatDoorMm
import Derived.Laws.StructEq
import Derived.ChangeKeysEq
namespace Go.Proofs.YtneglkfcelpdgaaGreatDoor
open Go.RowKit
attribute [local go_sem] El.eq_reading
set_option maxHeartbeats 1000000 in
theorem eqRs_any (va vb : Value) (L M : List El.Elt.R) (w : World) (ha : El.RdIn w va L) (hb : El.RdIn w vb M) :
    Calls Tryz.prog 53 #[va, vb] w fun e w' => e = .returned (.bool (decide (L = M))) ∧ Below w.heap.size w w' := by
  obtain ⟨A, cA, rfl, lA, mA, hA⟩ := ha
  obtain ⟨B, cB, rfl, lB, mB, hB⟩ := hb
  have HA := Lib.hid hA; clear hA
  have HB := Lib.hid hB; clear hB
  by_cases hl : L.length = M.length
  · have HL := Lib.hid hl
    rw [← hl] at lB
    rw [← hl]
    clear hl
    go_enter Tryz.func53, Tryz.ntmps53
    go_wp2_with fail
    go_loopw [5, 13] (fun _ t wr => ∃ k : Nat, k ≤ L.length ∧ t = .int .i64 k ∧ L.take k = M.take k ∧ ∃ q, wr = w.drewN q) (fun _ t _ => L.length - (intOf t).toNat)
    case atStart => exact ⟨0, by omega, rfl, rfl, 0, rfl⟩
    case round =>
      obtain ⟨k, hk, rfl, ht, q, rfl⟩ := hrel
      have HT := Lib.hid ht; clear ht
      by_cases hlt : k < L.length
      · have hltM : k < M.length := HL.out ▸ hlt
        obtain ⟨g, off, rfl, -, c0, c1⟩ := HA.out k hlt
        obtain ⟨g', off', rfl, -, d0, d1⟩ := HB.out k hltM
        have k0 : (0 : Int) ≤ (k : Int) := by omega
        have k1 : (k : Int) < (L.length : Int) := by omega
        have x1 : IntKind.i64.wrap (k : Int) = (k : Int) := IntWalk.i64_in _ (by omega)
        have hs : Hid (L[k] = M[k] → L.take (k + 1) = M.take (k + 1)) := Lib.hid (fun e => by rw [List.take_succ_eq_append_getElem hlt, List.take_succ_eq_append_getElem hltM, HT.out, e])
        have hn : Hid (L[k] ≠ M[k] → decide (L = M) = false) := Lib.hid (fun e => decide_eq_false (fun h => e (by subst h; rfl)))
        generalize L[k] = x at *
        generalize M[k] = y at *
        obtain ⟨x0, x2⟩ := x
        obtain ⟨y0, y2⟩ := y
        simp only at c0 c1 d0 d1
        by_cases h1 : x0 = y0
        · subst h1
          by_cases h2 : x2 = y2
          · subst h2
            go_wp2_with fail
            all_goals try go_quiet (fail)
            all_goals go_wp2_with fail
            go_roundw
            case rel => exact ⟨k + 1, by omega, by go_num, hs.out (by trivial), _, rfl⟩
            case measure => simp [intOf]; omega
          · have e2 : (x2 == y2) = false := beq_eq_false_iff_ne.2 h2
            have HN : Hid (decide (L = M) = false) := Lib.hid (hn.out (fun h => h2 (congrArg Prod.snd h)))
            clear h2
            go_wp2_with fail
            all_goals try go_quiet (fail)
            all_goals go_wp2_with fail
            go_ret
            exact ⟨by rw [HN.out]; rfl, ⟨rfl, rfl, rfl, Nat.le_refl _, fun _ _ => rfl⟩⟩
        · have e1 : ((x0 : Int) == (y0 : Int)) = false := beq_eq_false_iff_ne.2 (by omega)
          have HN : Hid (decide (L = M) = false) := Lib.hid (hn.out (fun h => h1 (congrArg Prod.fst h)))
          clear h1
          go_wp2_with fail
          all_goals try go_quiet (fail)
          all_goals go_wp2_with fail
          go_ret
          exact ⟨by rw [HN.out]; rfl, ⟨rfl, rfl, rfl, Nat.le_refl _, fun _ _ => rfl⟩⟩
      · have hke : k = L.length := by omega
        have hd : decide (L = M) = true := decide_eq_true (by
          have := HT.out
          rw [hke, List.take_length, HL.out, List.take_length] at this
          exact this)
        have HD := Lib.hid hd; clear hd hke
        have k1 : ¬ ((k : Int) < (L.length : Int)) := by omega
        go_wp2_with fail
        go_ret
        exact ⟨by rw [HD.out]; rfl, ⟨rfl, rfl, rfl, Nat.le_refl _, fun _ _ => rfl⟩⟩
  · have HD := Lib.hid (show decide (L = M) = false from decide_eq_false (fun h => hl (by rw [h])))
    have e1 : ((L.length : Int) == (M.length : Int)) = false := beq_eq_false_iff_ne.2 (by omega)
    clear hl
    go_enter Tryz.func53, Tryz.ntmps53
    go_wp2_with fail
    go_ret
    exact ⟨by rw [HD.out]; rfl, Below.refl _ _⟩
attribute [local go_sem] Pl.eq_place
/-- Two reports are equal in all fields. -/
def Eqr (k : Int) (nm : ByteArray) (t F A B C : Int) (L : List El.Elt.R) (k' : Int) (nm' : ByteArray) (t' F' A' B' C' : Int) (L' : List El.Elt.R) : Prop := k = k' ∧ nm = nm' ∧ t = t' ∧ (F = F' ∧ A = A' ∧ B = B' ∧ C = C') ∧ L = L'
instance (k : Int) (nm : ByteArray) (t F A B C : Int) (L : List El.Elt.R) (k' : Int) (nm' : ByteArray) (t' F' A' B' C' : Int) (L' : List El.Elt.R) : Decidable (Eqr k nm t F A B C L k' nm' t' F' A' B' C' L') := inferInstanceAs (Decidable (_ ∧ _))
set_option maxHeartbeats 4000000 in
theorem same_any (k : Int) (nm : ByteArray) (t F A B C : Int) (u : Value) (L : List El.Elt.R) (k' : Int) (nm' : ByteArray) (t' F' A' B' C' : Int) (u' : Value) (L' : List El.Elt.R) (w : World) (hL : El.RdIn w u L) (hL' : El.RdIn w u' L') :
    Calls Tryz.prog 17 #[repV k nm t F A B C u, repV k' nm' t' F' A' B' C' u'] w fun e w' => e = .returned (.bool (decide (Eqr k nm t F A B C L k' nm' t' F' A' B' C' L'))) ∧ Below w.heap.size w w' := by
  have b2 := ((Below.refl w.heap.size w).alloc (Nat.le_refl _) (.cells (repC k nm t F A B C u) 26)).alloc (by simp) (.cells (repC k' nm' t' F' A' B' C' u') 26)
  by_cases h1 : k = k'
  · by_cases h2 : nm = nm'
    · by_cases h3 : t = t'
      · by_cases h4 : F = F' ∧ A = A' ∧ B = B' ∧ C = C'
        · obtain ⟨rfl, rfl, rfl, rfl⟩ := h4
          subst h1 h2 h3
          have D := Lib.hid (show decide (Eqr k nm t F A B C L k nm t F A B C L') = decide (L = L') by rw [decide_eq_decide]; unfold Eqr; exact ⟨fun h => h.2.2.2.2, fun h => ⟨rfl, rfl, rfl, ⟨rfl, rfl, rfl, rfl⟩, h⟩⟩)
          have q : (nm.toList == nm.toList) = true := beq_self_eq_true _
          have HE := Lib.hid (eqRs_any u u' L L' _ (hL.under b2) (hL'.under b2))
          clear hL hL'
          go_enter Tryz.func17, Tryz.ntmps17
          go_wp2_with fail
          refine HE.out.mono ?_
          rintro e w3 ⟨rfl, g3⟩
          go_wp2_with fail
          go_ret
          exact ⟨ret_bool (by rw [D.out]), b2.trans (g3.mono b2.size)⟩
        · subst h1 h2 h3
          have D := Lib.hid (show decide (Eqr k nm t F A B C L k nm t F' A' B' C' L') = false from decide_eq_false (fun h => h4 h.2.2.2.1))
          have q : (nm.toList == nm.toList) = true := beq_self_eq_true _
          have H4 := Lib.hid h4
          clear hL hL' h4
          go_enter Tryz.func17, Tryz.ntmps17
          go_wp2_with fail
          all_goals first | (exfalso; exact H4.out ⟨by assumption, by assumption, by assumption, by assumption⟩) | (go_ret; exact ⟨ret_bool (by rw [D.out]), ((Below.refl _ _).alloc (Nat.le_refl _) _).alloc (by simp) _⟩)
      · have D := Lib.hid (show decide (Eqr k nm t F A B C L k' nm' t' F' A' B' C' L') = false from decide_eq_false (fun h => h3 h.2.2.1))
        have q : (nm.toList == nm'.toList) = true := toList_same h2
        have q3 : (t == t') = false := beq_eq_false_iff_ne.2 h3
        clear hL hL' h3 h2
        subst h1
        go_enter Tryz.func17, Tryz.ntmps17
        go_wp2_with fail
        go_ret
        exact ⟨ret_bool (by rw [D.out]), b2⟩
    · have D := Lib.hid (show decide (Eqr k nm t F A B C L k' nm' t' F' A' B' C' L') = false from decide_eq_false (fun h => h2 h.2.1))
      have q : (nm.toList == nm'.toList) = false := toList_ne h2
      clear hL hL' h2
      subst h1
      go_enter Tryz.func17, Tryz.ntmps17
      go_wp2_with fail
      go_ret
      exact ⟨ret_bool (by rw [D.out]), b2⟩
  · have D := Lib.hid (show decide (Eqr k nm t F A B C L k' nm' t' F' A' B' C' L') = false from decide_eq_false (fun h => h1 h.1))
    have q : (k == k') = false := beq_eq_false_iff_ne.2 h1
    clear hL hL' h1
    go_enter Tryz.func17, Tryz.ntmps17
    go_wp2_with fail
    go_ret
    exact ⟨ret_bool (by rw [D.out]), b2⟩
end Go.Proofs.YtneglkfcelpdgaaGreatDoor
