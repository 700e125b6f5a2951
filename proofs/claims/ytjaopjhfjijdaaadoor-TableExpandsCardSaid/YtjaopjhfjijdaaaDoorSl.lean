/- The contract of SmallTable, of tables of bounded length. -/
import Derived.Test.YtjaopjhfjijdaaaDoorRv
namespace Go.Proofs.YtjaopjhfjijdaaaDoor
open Go.RowKit

/-- What SmallTable leaves. -/
def SmallR (w : World) (es : List En) (ss : List Sq) (e : Ending) (w' : World) : Prop := ∃ z : Bool, e = .returned (.bool z) ∧ (z = true → es.length ≤ 300 ∧ ss.length ≤ 300 ∧ ∀ s ∈ ss, s.2.length ≤ 300) ∧ Below w.heap.size w w'
set_option maxRecDepth 100000 in
set_option maxHeartbeats 2000000 in
theorem smallTable_any (tv : Value) (v : Int) (es : List En) (ss : List Sq) (w : World) (hT : TbIn w tv v es ss) (he : es.length ≤ 281474976710656) (hs : ss.length ≤ 281474976710656) (hc : ∀ s ∈ ss, s.2.length ≤ 281474976710656) :
    Calls Tryd.prog 8 #[tv] w (SmallR w es ss) := by
  obtain ⟨a, b, rfl, hE, hS⟩ := hT
  have HS := Lib.hid hS
  have HC := Lib.hid hc
  clear hc
  obtain ⟨A, cap, rfl, -, -, -⟩ := hE
  obtain ⟨B, cbp, rfl, -, -, -⟩ := hS
  have HJ0 : Hid (Row (w.alloc (.cells #[.int .i64 v, .slice A es.length cap, .slice B ss.length cbp] 25)) w.heap.size 25 #[.int .i64 v, .slice A es.length cap, .slice B ss.length cbp] ∧ Below w.heap.size w (w.alloc (.cells #[.int .i64 v, .slice A es.length cap, .slice B ss.length cbp] 25))) := Lib.hid ⟨Row.new _ _ _, (Below.refl _ _).alloc (Nat.le_refl _) _⟩
  go_enter Tryd.func8, Tryd.ntmps8
  go_upto_region 1 with fail
  refine forget (fun Y => Hid (Row Y w.heap.size 25 #[.int .i64 v, .slice A es.length cap, .slice B ss.length cbp] ∧ Below w.heap.size w Y)) HJ0 ?_
  clear HJ0
  intro Y HJ
  obtain ⟨q0, q1, q2⟩ := row3 HJ.out.1
  go_wp2_with fail
  clear q0 q1 q2
  go_loopw [3, 4] (fun u t Y => ∃ k m : Nat, t = .int .i64 k ∧ u = .int .i64 m ∧ k ≤ ss.length ∧ m ≤ 900000000000000 ∧ es.length + ss.length ≤ m ∧ Hid ((Row Y w.heap.size 25 #[.int .i64 v, .slice A es.length cap, .slice B ss.length cbp] ∧ Below w.heap.size w Y) ∧ ∀ j (hj : j < ss.length), j < k → (ss[j]).2.length ≤ m)) (fun _ t _ => ss.length - (intOf t).toNat)
  case atStart => exact ⟨0, es.length + ss.length, rfl, by go_num, Nat.zero_le _, by omega, Nat.le_refl _, Lib.hid ⟨HJ.out, fun j _ q => absurd q (Nat.not_lt_zero _)⟩⟩
  case round =>
    clear HJ
    obtain ⟨k, m, rfl, rfl, hk, hm, hem, M⟩ := hrel
    obtain ⟨q0, q1, q2⟩ := row3 M.out.1.1
    by_cases hlt : k < ss.length
    · have k0 : (0 : Int) ≤ (k : Int) := by omega
      have k1 : (k : Int) < (ss.length : Int) := by omega
      by_cases h6 : m < 600
      · have k2 : (m : Int) < 600 := by omega
        obtain ⟨g, off, Bc, cc, rfl, c0, c1, -, -⟩ := HS.out.elem M.out.1.2 hlt
        have hl := HC.out _ (List.getElem_mem hlt)
        have HM : Hid ((Row wr w.heap.size 25 #[.int .i64 v, .slice A es.length cap, .slice (some ⟨g, off, none⟩) ss.length cbp] ∧ Below w.heap.size w wr) ∧ ∀ j (hj : j < ss.length), j < k + 1 → (ss[j]).2.length ≤ m + (ss[k]).2.length) := Lib.hid ⟨M.out.1, fun j hj hjk => by
          by_cases e : j = k
          · subst e; omega
          · have := M.out.2 j hj (by omega); omega⟩
        clear M
        go_wp2_with fail
        go_roundw
        case rel => exact ⟨k + 1, m + (ss[k]).2.length, by go_num, by go_num, by omega, by omega, by omega, HM⟩
        case measure => simp [intOf]; omega
      · have k2 : ¬ (m : Int) < 600 := by omega
        have k3 : ¬ (m : Int) ≤ 300 := by omega
        go_wp2_with fail
        go_ret
        exact ⟨_, rfl, fun q => (by first | (cases q; done) | (exact absurd q (by simp))), M.out.1.2⟩
    · have k1 : ¬ (k : Int) < (ss.length : Int) := by omega
      go_wp2_with fail
      go_ret
      refine ⟨_, rfl, fun q => ?_, M.out.1.2⟩
      have hq0 : (m : Int) ≤ 300 := by simpa using q
      have hq : m ≤ 300 := by omega
      exact ⟨by omega, by omega, all_mem fun j hj => by have := M.out.2 j hj (by omega); omega⟩
end Go.Proofs.YtjaopjhfjijdaaaDoor
