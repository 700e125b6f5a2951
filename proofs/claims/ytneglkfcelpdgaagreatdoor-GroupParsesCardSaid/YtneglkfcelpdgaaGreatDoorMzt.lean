/- The reference's contracts of word and of Format of a report that is not valid.; The contract of the program's Format of a report that is not valid. -/
import Derived.Test.YtneglkfcelpdgaaGreatDoorMzr
import Derived.Test.YtneglkfcelpdgaaGreatDoorMzb
import Derived.Test.YtneglkfcelpdgaaGreatDoorMzc
namespace Go.Proofs.YtneglkfcelpdgaaGreatDoor
open Go.RowKit

theorem join_more (x : List UInt8) : ∀ (ws : List (List UInt8)), ws ≠ [] → Lib.join (ws ++ [x]) [32] = Lib.join ws [32] ++ ([32] ++ x)
  | [], h => absurd rfl h
  | [a], _ => by simp [Lib.join, List.intercalate]
  | a :: b :: r, _ => by
    have ih := join_more x (b :: r) (by simp)
    have e : ∀ l : List (List UInt8), Lib.join (a :: b :: l) [32] = a ++ ([32] ++ Lib.join (b :: l) [32]) := fun l => by simp [Lib.join, List.intercalate]
    rw [List.cons_append, List.cons_append, e, ← List.cons_append, ih, e]
    simp
set_option maxHeartbeats 1000000 in
theorem refWord_any (k : Int) (w : World) (hk : 1 ≤ k ∧ k ≤ 3) :
    Calls Tryz.prog 38 #[.int .i64 k] w fun e w' => e = .returned (.string (S (kw k))) ∧ Below w.heap.size w w' := by
  rcases (by omega : k = 1 ∨ k = 2 ∨ k = 3) with rfl | rfl | rfl
  all_goals
    go_enter Tryz.func38, Tryz.ntmps38
    go_wp2_with fail
    go_ret
    exact ⟨rfl, (Below.refl _ _).alloc (Nat.le_refl _) _⟩
set_option maxHeartbeats 1000000 in
theorem refFormat_no (k : Int) (nm : ByteArray) (t F A B C : Int) (u : Value) (L : List El.Elt.R) (w : World) (hL : El.RdIn w u L) (hs : nm.size ≤ 9223372036854775806) (hV : vcode k nm t F A B C L ≠ 0) :
    Calls Tryz.prog 12 #[repV k nm t F A B C u] w fun e w' => e = .returned (.tuple #[.string ⟨#[]⟩, .int .i64 (vcode k nm t F A B C L)]) ∧ Below w.heap.size w w' := by
  obtain ⟨Au, cu, rfl, -⟩ := id hL
  have b1 := (Below.refl w.heap.size w).alloc (Nat.le_refl _) (.cells (repC k nm t F A B C (.slice Au L.length cu)) 26)
  have r1 := Row.new w (repC k nm t F A B C (.slice Au L.length cu)) 26
  have HV := Lib.hid (fun W (h : El.RdIn W (.slice Au L.length cu) L) => refVal_any k nm t F A B C (.slice Au L.length cu) L W h hs)
  generalize vcode k nm t F A B C L = e0 at *
  have q : (e0 != 0) = true := by rw [bne_iff_ne]; exact hV
  go_enter Tryz.func12, Tryz.ntmps12
  go_upto_region 1 with fail
  generalize w.alloc (.cells (repC k nm t F A B C (.slice Au L.length cu)) 26) = W1 at *
  obtain ⟨c0, c1, c2, c3, c4, c5, c6, c7⟩ := row8 r1
  go_wp2_with fail
  refine (HV.out _ (hL.under b1)).mono ?_
  rintro e w2 ⟨rfl, g2⟩
  have B2 := Lib.hid (b1.trans (g2.mono b1.size))
  clear b1 r1 g2
  go_wp2_with fail
  go_ret2
  exact ⟨rfl, B2.out⟩
end Go.Proofs.YtneglkfcelpdgaaGreatDoor
namespace Go.Proofs.YtneglkfcelpdgaaGreatDoor
open Go.RowKit

set_option maxHeartbeats 1000000 in
theorem format_no (k : Int) (nm : ByteArray) (t F A B C : Int) (u : Value) (L : List El.Elt.R) (w : World) (hL : El.RdIn w u L) (hE : Env w) (hV : vcode k nm t F A B C L ≠ 0) :
    Calls Tryz.prog 11 #[repV k nm t F A B C u] w fun e w' => e = .returned (.tuple #[.string ⟨#[]⟩, .int .i64 (vcode k nm t F A B C L)]) ∧ Below w.heap.size w w' := by
  obtain ⟨Au, cu, rfl, -⟩ := id hL
  have b1 := (Below.refl w.heap.size w).alloc (Nat.le_refl _) (.cells (repC k nm t F A B C (.slice Au L.length cu)) 26)
  have r1 := Row.new w (repC k nm t F A B C (.slice Au L.length cu)) 26
  have HV := Lib.hid (fun W (h : El.RdIn W (.slice Au L.length cu) L) (hT : El.Tab W) => validate_any k nm t F A B C (.slice Au L.length cu) L W h hT)
  generalize vcode k nm t F A B C L = e0 at *
  have q : (e0 != 0) = true := by rw [bne_iff_ne]; exact hV
  go_enter Tryz.func11, Tryz.ntmps11
  go_upto_region 1 with fail
  generalize w.alloc (.cells (repC k nm t F A B C (.slice Au L.length cu)) 26) = W1 at *
  obtain ⟨c0, c1, c2, c3, c4, c5, c6, c7⟩ := row8 r1
  go_wp2_with fail
  refine (HV.out _ (hL.under b1) (hE.under b1).tab).mono ?_
  rintro e w2 ⟨rfl, g2⟩
  have B2 := Lib.hid (b1.trans (g2.mono b1.size))
  clear b1 r1 g2
  go_wp2_with fail
  go_ret2
  exact ⟨rfl, B2.out⟩
end Go.Proofs.YtneglkfcelpdgaaGreatDoor
