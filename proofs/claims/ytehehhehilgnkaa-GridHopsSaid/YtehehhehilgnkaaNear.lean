/- The contract of Nearest. -/
import Derived.Test.YtehehhehilgnkaaLocate
namespace Go.Proofs.Ytehehhehilgnkaa
open Go.RowKit Go.Maps

def better (b x : Nat × Int) : Nat × Int := if b.2 < x.2 then x else b
/-- The share with the greatest weight, the first of several. -/
def best (L : List (Nat × Int)) : Nat × Int := L.foldl better (L.headD (0, 0))
def bestTo (L : List (Nat × Int)) (k : Nat) : Nat × Int := (L.take k).foldl better (L.headD (0, 0))
theorem bestTo_succ (L : List (Nat × Int)) (k : Nat) (h : k < L.length) : bestTo L (k + 1) = better (bestTo L k) L[k] := by
  unfold bestTo
  rw [List.take_succ_eq_append_getElem h, List.foldl_append]; rfl
/-- What is known while the shares are gone through. -/
structure Nr (W : World) (g gb : Nat) (L : List (Nat × Int)) (b : Nat × Int) (w : World) : Prop where
  below : Below W.heap.size W w
  shs : Shs w g L
  lg : g < w.heap.size
  gb0 : W.heap.size ≤ gb
  ne : g ≠ gb
  row : Row w gb 55 #[.int .i64 (b.1 : Int), .int .i64 b.2]
theorem Nr.under {W w w' : World} {g gb : Nat} {L : List (Nat × Int)} {b : Nat × Int} (h : Nr W g gb L b w) (hb : Below w.heap.size w w') : Nr W g gb L b w' :=
  ⟨h.below.trans (hb.mono h.below.size), h.shs.under h.lg hb, Nat.lt_of_lt_of_le h.lg hb.size, h.gb0, h.ne, h.row.under hb⟩
theorem Nr.put {W w : World} {g gb : Nat} {L : List (Nat × Int)} {b : Nat × Int} (h : Nr W g gb L b w) (x : Nat × Int) : Nr W g gb L x ((w.setCell ⟨gb, 0, none⟩ (.int .i64 (x.1 : Int))).setCell ⟨gb, 1, none⟩ (.int .i64 x.2)) :=
  ⟨(h.below.setCell h.gb0 _).setCell h.gb0 _, fun i hi => by
      obtain ⟨a, b⟩ := h.shs i hi
      have hne : gb ≠ g := Ne.symm h.ne
      exact ⟨by rw [World.cell?_setCell_far _ _ _ _ hne, World.cell?_setCell_far _ _ _ _ hne]; exact a, by rw [World.cell?_setCell_far _ _ _ _ hne, World.cell?_setCell_far _ _ _ _ hne]; exact b⟩,
    by simpa using h.lg, h.gb0, h.ne, (h.row.put 0 _).put 1 _⟩
theorem nearest_bad (n F a b c : Int) (w : World) (h : ¬ (1 ≤ n ∧ n ≤ 8) ∨ vb F a b c = false) :
    Calls Try.prog 18 #[.int .i64 n, .agg #[.int .i64 F, .int .i64 a, .int .i64 b, .int .i64 c]] w fun e w' => e = .returned (.tuple #[.int .i64 0, .int .i64 1]) ∧ Below w.heap.size w w' := by
  go_enter Try.func18, Try.ntmps18
  go_wp2_with fail
  refine (locate_bad _ _ _ _ _ _ h).mono ?_
  rintro e w1 ⟨rfl, hb1⟩
  go_wp2_with fail
  go_ret2
  exact ⟨rfl, ((Below.refl _ _).alloc (Nat.le_refl _) _).trans (hb1.mono (by simp))⟩
set_option maxRecDepth 100000 in
set_option maxHeartbeats 4000000 in
theorem nearest_yes (n f : Nat) (A B C : Int) (w : World) (hn : Lat.frq n) (hv : Ico.Vld f A B C) :
    Calls Try.prog 18 #[.int .i64 n, .agg #[.int .i64 f, .int .i64 A, .int .i64 B, .int .i64 C]] w fun e w' => e = .returned (.tuple #[.int .i64 ((best (Lat.loc n f A B C)).1 : Nat), .int .i64 0]) ∧ Below w.heap.size w w' := by
  go_enter Try.func18, Try.ntmps18
  go_wp2_with fail
  refine (locate_yes n f A B C _ hn hv).mono ?_
  obtain ⟨l1, l3⟩ := Lat.loc_pos hn hv
  generalize hloc : Lat.loc n f A B C = L at *
  have HLOC := Lib.hid hloc; clear hloc
  rintro e w1 ⟨v, rfl, g, cap, rfl, h2, h3, h4, h5, h6, h7⟩
  have b1 : Below w.heap.size w w1 := ((Below.refl _ _).alloc (Nat.le_refl _) _).trans (h4.mono (by simp))
  obtain ⟨q0, q1⟩ := h7 0 l1
  have H7 := Lib.hid h7; clear h7
  simp only [Nat.zero_mul, Nat.zero_add] at q0 q1
  have l0 : (0 : Int) < (L.length : Int) := by omega
  have hh : L.headD (0, 0) = L[0] := by cases L with | nil => simp at l1 | cons x r => rfl
  have N0 : Nr w g w1.heap.size L (bestTo L 0) (w1.alloc (.cells #[.int .i64 (L[0].1 : Int), .int .i64 L[0].2] 55)) :=
    ⟨b1.alloc b1.size _, H7.out.under h6 ((Below.refl _ _).alloc (Nat.le_refl _) _), by simp; omega, b1.size, by omega, by unfold bestTo; rw [hh]; exact Row.new _ _ _⟩
  have HN := Lib.hid N0; clear N0 hh b1 h4 h5
  clear h6
  generalize hL0 : L[0] = x0 at *
  clear hL0
  go_upto_region 5 with fail
  refine forget (fun Y => Nr w g w1.heap.size L (bestTo L 0) Y) HN.out ?_
  clear HN H7 q0 q1
  generalize w1.heap.size = gb at *
  rintro Y N
  have HN := Lib.hid N; clear N
  go_wp2_with fail
  go_loopw [25] (fun t wr => ∃ k : Nat, k ≤ L.length ∧ t = .int .i64 k ∧ Nr w g gb L (bestTo L k) wr) (fun t _ => L.length - (intOf t).toNat)
  case atStart => exact ⟨0, by omega, rfl, HN.out⟩
  case round =>
    clear HN
    obtain ⟨k, hk, rfl, N⟩ := hrel
    by_cases hlt : k < L.length
    · have k0 : (0 : Int) ≤ (k : Int) := by omega
      have k1 : (k : Int) < (L.length : Int) := by omega
      obtain ⟨q0, q1⟩ := N.shs k hlt
      have HB := Lib.hid (bestTo_succ L k hlt)
      have P := N.put L[k]
      obtain ⟨r0, r1⟩ : wr.cell? ⟨gb, 0, none⟩ = some (.int .i64 ((bestTo L k).1 : Int)) ∧ wr.cell? ⟨gb, 1, none⟩ = some (.int .i64 (bestTo L k).2) := ⟨(N.row.cell 0).trans rfl, (N.row.cell 1).trans rfl⟩
      have hgb := Lib.hid N.row.lt
      have hgl := Lib.hid N.lg
      generalize hx : L[k] = x at *
      have HN := Lib.hid N; clear N P
      clear hx
      generalize hb : bestTo L k = bb at *
      clear hb
      go_upto_region 8 with fail
      refine forget (fun Z => Nr w g gb L bb Z ∧ Row Z wr.heap.size 55 #[.int .i64 (x.1 : Int), .int .i64 x.2]) ⟨HN.out.under ((Below.refl _ _).alloc (Nat.le_refl _) _), Row.new _ _ _⟩ ?_
      clear q0 q1 r0 r1 HN hgb hgl
      generalize wr.heap.size = gx at *
      rintro Z ⟨N, rx⟩
      obtain ⟨q0, q1⟩ : Z.cell? ⟨gx, 0, none⟩ = some (.int .i64 (x.1 : Int)) ∧ Z.cell? ⟨gx, 1, none⟩ = some (.int .i64 x.2) := ⟨(rx.cell 0).trans rfl, (rx.cell 1).trans rfl⟩
      obtain ⟨r0, r1⟩ : Z.cell? ⟨gb, 0, none⟩ = some (.int .i64 (bb.1 : Int)) ∧ Z.cell? ⟨gb, 1, none⟩ = some (.int .i64 bb.2) := ⟨(N.row.cell 0).trans rfl, (N.row.cell 1).trans rfl⟩
      have f0 := N.row.thaw 0
      have f1 := N.row.thaw 1
      have HN := Lib.hid N; clear N rx
      by_cases hc : bb.2 < x.2
      · have HC := Lib.hid (show better bb x = x from if_pos hc)
        go_wp2_with fail
        go_roundw
        case rel => exact ⟨k + 1, by omega, by go_num, by rw [HB.out, HC.out]; exact HN.out.put x⟩
        case measure => simp [intOf]; omega
      · have HC := Lib.hid (show better bb x = bb from if_neg hc)
        go_wp2_with fail
        go_roundw
        case rel => exact ⟨k + 1, by omega, by go_num, by rw [HB.out, HC.out]; exact HN.out⟩
        case measure => simp [intOf]; omega
    · have hke : k = L.length := by omega
      have k1 : ¬ ((k : Int) < (L.length : Int)) := by omega
      have hbe : bestTo L k = best L := by unfold bestTo best; rw [hke, List.take_length]
      rw [hbe] at N
      have HKE := Lib.hid hke; clear hke hbe
      obtain ⟨r0, r1⟩ : wr.cell? ⟨gb, 0, none⟩ = some (.int .i64 ((best L).1 : Int)) ∧ wr.cell? ⟨gb, 1, none⟩ = some (.int .i64 (best L).2) := ⟨(N.row.cell 0).trans rfl, (N.row.cell 1).trans rfl⟩
      have HN := Lib.hid N; clear N
      go_wp2_with fail
      go_ret2
      exact ⟨by rw [HLOC.out]; rfl, HN.out.below⟩
end Go.Proofs.Ytehehhehilgnkaa
