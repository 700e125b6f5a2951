/- The contract of the reference's Find. -/
import Derived.Test.YtngbjccfmglbaaaDoorVal2
namespace Go.Proofs.YtngbjccfmglbaaaDoor
open Go.RowKit
theorem fnd_here {L : List Elt.R} {c : Int} {k : Nat} (h : k < L.length) (hn : ∀ j (h : j < L.length), j < k → (L[j]).1 ≠ c) (he : (L[k]).1 = c) : Elt.fnd L c = some (L[k]).2 := by
  have q : L.find? (fun r => r.1 == c) = some L[k] := List.find?_eq_some_iff_getElem.2 ⟨beq_iff_eq.2 he, k, h, rfl, fun j hj => by
    have := hn j (by omega) hj
    simpa using this⟩
  unfold Elt.fnd
  rw [q]
  rfl
theorem fnd_none {L : List Elt.R} {c : Int} (hn : ∀ j (h : j < L.length), (L[j]).1 ≠ c) : Elt.fnd L c = none := by
  have q : L.find? (fun r => r.1 == c) = none := List.find?_eq_none.2 (fun r hr => by
    obtain ⟨j, hj, rfl⟩ := List.getElem_of_mem hr
    simpa using hn j hj)
  unfold Elt.fnd
  rw [q]
  rfl
set_option maxHeartbeats 1000000 in
theorem refFind_any (v : Value) (L : List Elt.R) (c : Int) (w : World) (hL : RdIn w v L) :
    Calls Tryd.prog 11 #[v, .int .i64 c] w (FndR w L c) := by
  obtain ⟨A, cap, rfl, h1, h2, h3⟩ := hL
  have H := Lib.hid h3; clear h3
  go_enter Tryd.func11, Tryd.ntmps11
  go_wp2_with fail
  go_loop [6] (fun t => ∃ k : Nat, k ≤ L.length ∧ t = .int .i64 k ∧ Hid (∀ j (h : j < L.length), j < k → (L[j]).1 ≠ c)) (fun t => L.length - (intOf t).toNat)
  case atStart => exact ⟨0, Nat.zero_le _, rfl, Lib.hid (fun j h h' => by omega)⟩
  case round =>
    obtain ⟨k, hk, rfl, hn⟩ := hrel
    by_cases hlt : k < L.length
    · obtain ⟨g, off, rfl, -, c0, c1⟩ := H.out k hlt
      have k0 : (0 : Int) ≤ (k : Int) := by omega
      have k1 : (k : Int) < (L.length : Int) := by omega
      by_cases he : (L[k]).1 = c
      · have HF := Lib.hid (fnd_here hlt hn.out he)
        have e1 : ((L[k]).1 == c) = true := beq_iff_eq.2 he
        clear he hn
        generalize L[k] = y at *
        go_wp2_with fail
        go_ret2
        exact ⟨by rw [HF.out]; rfl, Below.refl _ _⟩
      · have e1 : ((L[k]).1 == c) = false := beq_eq_false_iff_ne.2 he
        have HN : Hid (∀ j (h : j < L.length), j < k + 1 → (L[j]).1 ≠ c) := Lib.hid (fun j h h' => by
          rcases Nat.lt_or_ge j k with q | q
          · exact hn.out j h q
          · obtain rfl : j = k := by omega
            exact he)
        clear he hn
        generalize L[k] = y at *
        go_wp2_with fail
        go_round
        case rel => exact ⟨k + 1, by omega, by go_num, HN⟩
        case measure => simp [intOf]; omega
    · have k1 : ¬ (k : Int) < (L.length : Int) := by omega
      have HF := Lib.hid (fnd_none (fun j h => hn.out j h (by omega)))
      go_wp2_with fail
      go_ret2
      exact ⟨by rw [HF.out]; rfl, Below.refl _ _⟩
end Go.Proofs.YtngbjccfmglbaaaDoor


