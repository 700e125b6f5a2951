/- Small and SmallAll of the laws' data. -/
import Derived.Test.YtfnlgfacadmjpaaGreatDoorBFt
namespace Go.Proofs.YtfnlgfacadmjpaaGreatDoor.Bu
open Go.RowKit

set_option maxHeartbeats 400000 in
theorem small_any (k : Int) (nm : ByteArray) (t F A B C : Int) (u : Value) (L : List El.Elt.R) (w : World) (hL : El.RdIn w u L) :
    Calls Tryz.prog 29 #[repV k nm t F A B C u] w fun e w' => e = .returned (.bool (decide (nm.size ≤ 40) && decide (L.length ≤ 40))) ∧ Below w.heap.size w w' := by
  obtain ⟨Au, cu, rfl, -⟩ := hL
  go_enter Tryz.func29, Tryz.ntmps29
  by_cases h1 : nm.size ≤ 40
  · have i1 : (nm.size : Int) ≤ 40 := by omega
    by_cases h2 : L.length ≤ 40
    · have i2 : (L.length : Int) ≤ 40 := by omega
      have H := Lib.hid (show (decide (nm.size ≤ 40) && decide (L.length ≤ 40)) = true by rw [decide_eq_true h1, decide_eq_true h2]; rfl)
      clear h1 h2
      go_wp2_with fail
      go_ret
      exact ⟨ret_bool (by rw [H.out]), (Below.refl _ _).alloc (Nat.le_refl _) _⟩
    · have i2 : ¬ (L.length : Int) ≤ 40 := by omega
      have H := Lib.hid (show (decide (nm.size ≤ 40) && decide (L.length ≤ 40)) = false by rw [decide_eq_false h2, Bool.and_false])
      clear h1 h2
      go_wp2_with fail
      go_ret
      exact ⟨ret_bool (by rw [H.out]), (Below.refl _ _).alloc (Nat.le_refl _) _⟩
  · have i1 : ¬ (nm.size : Int) ≤ 40 := by omega
    have H := Lib.hid (show (decide (nm.size ≤ 40) && decide (L.length ≤ 40)) = false by rw [decide_eq_false h1, Bool.false_and])
    clear h1
    go_wp2_with fail
    go_ret
    exact ⟨ret_bool (by rw [H.out]), (Below.refl _ _).alloc (Nat.le_refl _) _⟩
/-- What SmallAll says of a list that it lets pass. -/
def Sml (n : Nat) (R : List Rp) : Prop := R.length ≤ n ∧ ∀ r ∈ R, r.nm.size ≤ 40 ∧ r.L.length ≤ 40
structure SmO (n : Nat) (R : List Rp) (e : Ending) : Prop where
  ex : ∃ b : Bool, e = .returned (.bool b) ∧ (b = true → Sml n R)
set_option maxRecDepth 100000 in
set_option maxHeartbeats 4000000 in
theorem smallAll_any (u : Value) (R : List Rp) (n : Nat) (w : World) (hu : RpsIn w u R) :
    Calls Tryz.prog 10 #[u, .int .i64 n] w fun e w' => SmO n R e ∧ Below w.heap.size w w' := by
  have HU := Lib.hid hu
  obtain ⟨A, cap, rfl, h1, h2, -⟩ := hu
  by_cases hlen : R.length ≤ n
  · have hl : ¬ (n : Int) < (R.length : Int) := by omega
    go_enter Tryz.func10, Tryz.ntmps10
    go_wp2_with fail
    go_loopw [5] (fun t Y => ∃ k : Nat, k ≤ R.length ∧ t = .int .i64 k ∧ Hid (Below w.heap.size w Y) ∧ Hid (∀ r ∈ R.take k, r.nm.size ≤ 40 ∧ r.L.length ≤ 40)) (fun t _ => R.length - (intOf t).toNat)
    case atStart => exact ⟨0, Nat.zero_le _, rfl, Lib.hid (Below.refl _ _), Lib.hid (fun r h => absurd h (by simp))⟩
    case round =>
      obtain ⟨k, hk, rfl, M, HT⟩ := hrel
      by_cases hlt : k < R.length
      · have k0 : (0 : Int) ≤ (k : Int) := by omega
        have k1 : (k : Int) < (R.length : Int) := by omega
        obtain ⟨A', cap', ea, -, -, h4⟩ := (HU.out.under M.out)
        injection ea with ea el ec
        clear el
        subst ea
        subst ec
        obtain ⟨g, off, rfl, hgl, h8, hrd⟩ := h4 k hlt
        have HST := Lib.hid (fun (h : R[k].nm.size ≤ 40 ∧ R[k].L.length ≤ 40) => show ∀ r ∈ R.take (k + 1), r.nm.size ≤ 40 ∧ r.L.length ≤ 40 from fun r hr => by
          rw [List.take_succ_eq_append_getElem hlt] at hr
          rcases List.mem_append.1 hr with hr | hr
          · exact HT.out r hr
          · rw [List.mem_singleton.1 hr]; exact h)
        obtain ⟨rk, hrk0⟩ : ∃ rk, R[k] = rk := ⟨_, rfl⟩
        rw [hrk0] at h8 hrd HST
        clear hrk0 h4 hgl
        obtain ⟨kk, nm, tt, F, A0, B0, C, uu, L⟩ := rk
        obtain ⟨Au, cu, eu, -⟩ := id hrd
        simp only at eu hrd
        subst eu
        obtain ⟨c0, c1, c2, c3, c4, c5, c6, c7⟩ := h8
        simp only at c0 c1 c2 c3 c4 c5 c6 c7
        have HSm := Lib.hid (small_any kk nm tt F A0 B0 C (.slice Au L.length cu) L wr hrd)
        obtain ⟨bz, hbz⟩ : ∃ bz, (decide (nm.size ≤ 40) && decide (L.length ≤ 40)) = bz := ⟨_, rfl⟩
        rw [hbz] at HSm
        have HBZ := Lib.hid hbz
        clear hrd hbz
        go_wp2_with fail
        refine HSm.out.mono ?_
        rintro e w3 ⟨rfl, hb⟩
        have M3 : Hid (Below w.heap.size w w3) := Lib.hid (M.out.trans (hb.mono M.out.size))
        clear hb M HSm c0 c1 c2 c3 c4 c5 c6 c7
        cases bz
        · go_wp2_with fail
          go_ret
          exact ⟨⟨⟨false, rfl, fun h => absurd h (by decide)⟩⟩, M3.out⟩
        · go_wp2_with fail
          go_roundw
          case rel => exact ⟨k + 1, by omega, by go_num, M3, Lib.hid (HST.out (by have h := HBZ.out; rw [Bool.and_eq_true, decide_eq_true_iff, decide_eq_true_iff] at h; exact h))⟩
          case measure => simp [intOf]; omega
      · have k1 : ¬ (k : Int) < (R.length : Int) := by omega
        have HE := Lib.hid (show ∀ r ∈ R, r.nm.size ≤ 40 ∧ r.L.length ≤ 40 by
          have h := HT.out
          rwa [List.take_of_length_le (by omega)] at h)
        go_wp2_with fail
        go_ret
        exact ⟨⟨⟨true, rfl, fun _ => ⟨hlen, HE.out⟩⟩⟩, M.out⟩
  · have hl : (n : Int) < (R.length : Int) := by omega
    clear hlen
    go_enter Tryz.func10, Tryz.ntmps10
    go_wp2_with fail
    go_ret
    exact ⟨⟨⟨false, rfl, fun h => absurd h (by decide)⟩⟩, Below.refl _ _⟩
end Go.Proofs.YtfnlgfacadmjpaaGreatDoor.Bu
