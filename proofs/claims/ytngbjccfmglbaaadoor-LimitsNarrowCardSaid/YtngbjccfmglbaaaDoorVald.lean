/- The contract of Validate of the program. -/
import Derived.Test.YtngbjccfmglbaaaDoorRd
import Derived.Test.YtngbjccfmglbaaaDoorShelf
namespace Go.Proofs.YtngbjccfmglbaaaDoor
open Go.RowKit

theorem agg47 : ∀ w, (isAgg 30).run Tryd.prog w = .ok true w := Tryd.isAgg30
theorem size47 : ∀ w, (Go.sizeOf 30).run Tryd.prog w = .ok 2 w := Tryd.sizeOf30
set_option maxHeartbeats 1000000 in
theorem index_nil (A : Option Addr) (cap g : Nat) (lb : Array Value) (w : World) :
    Calls Tryd.prog 45 #[.slice A 0 cap, .func (.func g) #[] lb] w fun e w' => e = .returned (.int .i64 (-1)) ∧ w = w' := by
  go_enter Tryd.func45, Tryd.ntmps45
  go_wp2_with fail
  go_loop [5, 8] (fun _ t => t = .int .i64 0) (fun _ _ => 0)
  case atStart => rfl
  case round =>
    subst hrel
    go_wp2_with fail
    go_ret
    exact ⟨rfl, rfl⟩
theorem least {L : List Elt.R} (p : Elt.R → Bool) : (∀ j (h : j < L.length), p L[j] = false) ∨ ∃ k, ∃ h : k < L.length, p L[k] = true ∧ ∀ j (hj : j < L.length), j < k → p L[j] = false := by
  induction L with
  | nil => exact .inl (fun j h => by simp at h)
  | cons x r ih =>
    by_cases hx : p x = true
    · exact .inr ⟨0, by simp, hx, fun j _ h => by omega⟩
    · have hx' : p x = false := by simpa using hx
      rcases ih with h | ⟨k, hk, h1, h2⟩
      · refine .inl (fun j hj => ?_)
        cases j with
        | zero => exact hx'
        | succ j => exact h j (by simpa using hj)
      · refine .inr ⟨k + 1, by simpa using hk, h1, fun j hj hlt => ?_⟩
        cases j with
        | zero => exact hx'
        | succ j => exact h2 j (by simpa using hj) (by omega)
theorem getE {L : List Elt.R} {j : Nat} (h : j < L.length) : L[j]! = L[j] := by
  rw [List.getElem!_eq_getElem?_getD, List.getElem?_eq_getElem h]; rfl
theorem encR_len (x : Elt.R) : (encR x).length = 2 := rfl
theorem enc_cells {w : World} {g off : Nat} {L : List Elt.R} (hc : ∀ i (h : i < L.length), w.cell? ⟨g, off + i * 2, none⟩ = some (.int .i64 (L[i]).1) ∧ w.cell? ⟨g, off + i * 2 + 1, none⟩ = some (.int .i64 (L[i]).2)) :
    ∀ j, j < L.length → ∀ i v, (encR L[j]!)[i]? = some v → w.cell? ⟨g, off + j * 2 + i, none⟩ = some v := by
  intro j hj i v hv
  rw [getE hj] at hv
  obtain ⟨c0, c1⟩ := hc j hj
  match i, hv with
  | 0, hv => simp [encR] at hv; rw [← hv]; exact c0
  | 1, hv => simp [encR] at hv; rw [← hv]; exact c1
  | i + 2, hv => simp [encR] at hv
end Go.Proofs.YtngbjccfmglbaaaDoor

