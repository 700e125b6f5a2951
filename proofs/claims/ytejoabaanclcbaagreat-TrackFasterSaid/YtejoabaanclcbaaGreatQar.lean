/- Texts of this proof. -/
import Derived.Test.YtejoabaanclcbaaGreatRLw
import Derived.Test.YtejoabaanclcbaaGreatQaj
namespace Go.Proofs.YtejoabaanclcbaaGreat
open Go.RowKit Go.Maps

theorem refNearest_bad (n F a b c : Int) (w : World) (h : ¬ (1 ≤ n ∧ n ≤ 8) ∨ vb F a b c = false) :
    Calls Tryz.prog 25 #[.int .i64 n, .agg #[.int .i64 F, .int .i64 a, .int .i64 b, .int .i64 c]] w fun e w' => e = .returned (.tuple #[.int .i64 0, .int .i64 1]) ∧ Below w.heap.size w w' := by
  go_enter Tryz.func25, Tryz.ntmps25
  go_wp2_with fail
  refine (refLocate_bad _ _ _ _ _ _ h).mono ?_
  rintro e w1 ⟨rfl, hb1⟩
  go_wp2_with fail
  go_ret2
  exact ⟨rfl, ((Below.refl _ _).alloc (Nat.le_refl _) _).trans (hb1.mono (by simp))⟩
set_option maxRecDepth 100000 in
set_option maxHeartbeats 4000000 in
theorem refNearest_yes (n f : Nat) (A B C : Int) (w : World) (hn : Lat.frq n) (hv : Ico.Vld f A B C) :
    Calls Tryz.prog 25 #[.int .i64 n, .agg #[.int .i64 f, .int .i64 A, .int .i64 B, .int .i64 C]] w fun e w' => e = .returned (.tuple #[.int .i64 ((best (Lat.loc n f A B C)).1 : Nat), .int .i64 0]) ∧ Below w.heap.size w w' := by
  go_enter Tryz.func25, Tryz.ntmps25
  go_wp2_with fail
  refine (refLocate_yes n f A B C _ hn hv).mono ?_
  obtain ⟨l1, l3⟩ := Lat.loc_pos hn hv
  unfold RLocP
  generalize hloc : Lat.loc n f A B C = L at *
  have HLOC := Lib.hid hloc; clear hloc
  rintro e w1 ⟨v, rfl, h4, hSL⟩
  obtain ⟨g, cap, rfl, -, h2, -, h6, h7⟩ : ∃ g cap, v = .slice (some ⟨g, 0, none⟩) L.length cap ∧ 0 < L.length ∧ L.length ≤ cap ∧ cap ≤ maxLen ∧ g < w1.heap.size ∧ Shs w1 g L := by
    rcases hSL with ⟨h, -⟩ | h
    · rw [h] at l1; simp at l1
    · exact h
  clear hSL
  have b1 : Below w.heap.size w w1 := ((Below.refl _ _).alloc (Nat.le_refl _) _).trans (h4.mono (by simp))
  obtain ⟨q0, q1⟩ := h7 0 l1
  have H7 := Lib.hid h7; clear h7
  simp only [Nat.zero_mul, Nat.zero_add] at q0 q1
  have l0 : (0 : Int) < (L.length : Int) := by omega
  have hh : L.headD (0, 0) = L[0] := by cases L with | nil => simp at l1 | cons x r => rfl
  have N0 : Nr w g w1.heap.size L (bestTo L 0) (w1.alloc (.cells #[.int .i64 (L[0].1 : Int), .int .i64 L[0].2] 84)) :=
    ⟨b1.alloc b1.size _, H7.out.under h6 ((Below.refl _ _).alloc (Nat.le_refl _) _), by simp; omega, b1.size, by omega, by unfold bestTo; rw [hh]; exact Row.new _ _ _⟩
  have HN := Lib.hid N0; clear N0 hh b1 h4
  clear h6
  generalize hL0 : L[0] = x0 at *
  clear hL0
  go_upto_region 5 with fail
  refine forget (fun Y => Nr w g w1.heap.size L (bestTo L 0) Y) HN.out ?_
  clear HN H7 q0 q1
  generalize w1.heap.size = gb at *
  rintro Y N
  have HN := Lib.hid N; clear N
  go_wp2_with fail
  go_loopw [25] (fun t wr => ∃ k : Nat, k ≤ L.length ∧ t = .int .i64 k ∧ Nr w g gb L (bestTo L k) wr) (fun t _ => L.length - (intOf t).toNat)
  case atStart => exact ⟨0, by omega, rfl, HN.out⟩
  case round =>
    clear HN
    obtain ⟨k, hk, rfl, N⟩ := hrel
    by_cases hlt : k < L.length
    · have k0 : (0 : Int) ≤ (k : Int) := by omega
      have k1 : (k : Int) < (L.length : Int) := by omega
      obtain ⟨q0, q1⟩ := N.shs k hlt
      have HB := Lib.hid (bestTo_succ L k hlt)
      have P := N.put L[k]
      obtain ⟨r0, r1⟩ : wr.cell? ⟨gb, 0, none⟩ = some (.int .i64 ((bestTo L k).1 : Int)) ∧ wr.cell? ⟨gb, 1, none⟩ = some (.int .i64 (bestTo L k).2) := ⟨(N.row.cell 0).trans rfl, (N.row.cell 1).trans rfl⟩
      have hgb := Lib.hid N.row.lt
      have hgl := Lib.hid N.lg
      generalize hx : L[k] = x at *
      have HN := Lib.hid N; clear N P
      clear hx
      generalize hb : bestTo L k = bb at *
      clear hb
      go_upto_region 8 with fail
      refine forget (fun Z => Nr w g gb L bb Z ∧ Row Z wr.heap.size 84 #[.int .i64 (x.1 : Int), .int .i64 x.2]) ⟨HN.out.under ((Below.refl _ _).alloc (Nat.le_refl _) _), Row.new _ _ _⟩ ?_
      clear q0 q1 r0 r1 HN hgb hgl
      generalize wr.heap.size = gx at *
      rintro Z ⟨N, rx⟩
      obtain ⟨q0, q1⟩ : Z.cell? ⟨gx, 0, none⟩ = some (.int .i64 (x.1 : Int)) ∧ Z.cell? ⟨gx, 1, none⟩ = some (.int .i64 x.2) := ⟨(rx.cell 0).trans rfl, (rx.cell 1).trans rfl⟩
      obtain ⟨r0, r1⟩ : Z.cell? ⟨gb, 0, none⟩ = some (.int .i64 (bb.1 : Int)) ∧ Z.cell? ⟨gb, 1, none⟩ = some (.int .i64 bb.2) := ⟨(N.row.cell 0).trans rfl, (N.row.cell 1).trans rfl⟩
      have f0 := N.row.thaw 0
      have f1 := N.row.thaw 1
      have HN := Lib.hid N; clear N rx
      by_cases hc : bb.2 < x.2
      · have HC := Lib.hid (show better bb x = x from if_pos hc)
        go_wp2_with fail
        go_roundw
        case rel => exact ⟨k + 1, by omega, by go_num, by rw [HB.out, HC.out]; exact HN.out.put x⟩
        case measure => simp [intOf]; omega
      · have HC := Lib.hid (show better bb x = bb from if_neg hc)
        go_wp2_with fail
        go_roundw
        case rel => exact ⟨k + 1, by omega, by go_num, by rw [HB.out, HC.out]; exact HN.out⟩
        case measure => simp [intOf]; omega
    · have hke : k = L.length := by omega
      have k1 : ¬ ((k : Int) < (L.length : Int)) := by omega
      have hbe : bestTo L k = best L := by unfold bestTo best; rw [hke, List.take_length]
      rw [hbe] at N
      have HKE := Lib.hid hke; clear hke hbe
      obtain ⟨r0, r1⟩ : wr.cell? ⟨gb, 0, none⟩ = some (.int .i64 ((best L).1 : Int)) ∧ wr.cell? ⟨gb, 1, none⟩ = some (.int .i64 (best L).2) := ⟨(N.row.cell 0).trans rfl, (N.row.cell 1).trans rfl⟩
      have HN := Lib.hid N; clear N
      go_wp2_with fail
      go_ret2
      exact ⟨by rw [HLOC.out]; rfl, HN.out.below⟩
end Go.Proofs.YtejoabaanclcbaaGreat



namespace Go.Proofs.YtejoabaanclcbaaGreat
open Go.RowKit

/-- A function's answer is a pair of numbers, whatever the world. -/
def Pair (F : Nat) (n f a b c x y : Int) : Prop := ∀ w, Calls Tryz.prog F #[.int .i64 n, .agg #[.int .i64 f, .int .i64 a, .int .i64 b, .int .i64 c]] w fun e w' => e = .returned (.tuple #[.int .i64 x, .int .i64 y]) ∧ Below w.heap.size w w'
/-- A function's answer is a list of shares and a number. -/
def Lst (F : Nat) (n f a b c : Int) (L : List (Nat × Int)) (y : Int) : Prop := ∀ w, Calls Tryz.prog F #[.int .i64 n, .agg #[.int .i64 f, .int .i64 a, .int .i64 b, .int .i64 c]] w fun e w' => ∃ v, e = .returned (.tuple #[v, .int .i64 y]) ∧ Below w.heap.size w w' ∧ ShIn w' v L
theorem ok_or (n F a b c : Int) : (¬ (1 ≤ n ∧ n ≤ 8) ∨ vb F a b c = false) ∨ ∃ m f : Nat, n = m ∧ F = f ∧ Lat.frq m ∧ Ico.Vld f a b c := by
  by_cases hn : 1 ≤ n ∧ n ≤ 8
  · cases h : vb F a b c
    · exact .inl (.inr rfl)
    · obtain ⟨f, hf, hv⟩ := vb_nat h
      exact .inr ⟨n.toNat, f, by omega, hf, ⟨by omega, by omega⟩, hv⟩
  · exact .inl (.inl hn)
end Go.Proofs.YtejoabaanclcbaaGreat


