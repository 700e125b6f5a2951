/- Both sides of PlaceAnswers' questions answer the same. -/
import Derived.Test.YteccblhmpggcgaaDoorRefD
import Derived.Test.YteccblhmpggcgaaDoorRefText
import Derived.Test.YteccblhmpggcgaaDoorRefCross
namespace Go.Proofs.YteccblhmpggcgaaDoor
open Go.RowKit

/-- Same, asked of any numbers. -/
def sameV (F a b c G x y z : Int) : Bool := vb F a b c && (vb G x y z && sw F.toNat a b c G.toNat x y z)
theorem same_from (F a b c G x y z : Int) (w0 w : World) (hb : Below w0.heap.size w0 w) :
    Calls Tryd.prog 22 #[.agg #[.int .i64 F, .int .i64 a, .int .i64 b, .int .i64 c], .agg #[.int .i64 G, .int .i64 x, .int .i64 y, .int .i64 z]] w fun e w' => e = .returned (.bool (sameV F a b c G x y z)) ∧ Below w0.heap.size w0 w' := by
  have key : Calls Tryd.prog 22 #[.agg #[.int .i64 F, .int .i64 a, .int .i64 b, .int .i64 c], .agg #[.int .i64 G, .int .i64 x, .int .i64 y, .int .i64 z]] w fun e w' => e = .returned (.bool (sameV F a b c G x y z)) ∧ Below w.heap.size w w' := by
    unfold sameV
    cases h1 : vb F a b c
    · exact same_no1 F a b c G x y z w h1
    · cases h2 : vb G x y z
      · exact same_no2 F a b c G x y z w h1 h2
      · obtain ⟨f, rfl, hf⟩ := vb_to h1
        obtain ⟨g, rfl, hg⟩ := vb_to h2
        exact same_both f a b c g x y z w hf hg
  exact key.mono fun _ _ ⟨he, hg⟩ => ⟨he, hb.trans (hg.mono hb.size)⟩
theorem refSame_from (F a b c G x y z : Int) (w0 w : World) (hb : Below w0.heap.size w0 w) :
    Calls Tryd.prog 23 #[.agg #[.int .i64 F, .int .i64 a, .int .i64 b, .int .i64 c], .agg #[.int .i64 G, .int .i64 x, .int .i64 y, .int .i64 z]] w fun e w' => e = .returned (.bool (sameV F a b c G x y z)) ∧ Below w0.heap.size w0 w' := by
  have key : Calls Tryd.prog 23 #[.agg #[.int .i64 F, .int .i64 a, .int .i64 b, .int .i64 c], .agg #[.int .i64 G, .int .i64 x, .int .i64 y, .int .i64 z]] w fun e w' => e = .returned (.bool (sameV F a b c G x y z)) ∧ Below w.heap.size w w' := by
    unfold sameV
    cases h1 : vb F a b c
    · exact refSame_no1 F a b c G x y z w h1
    · cases h2 : vb G x y z
      · exact refSame_no2 F a b c G x y z w h1 h2
      · obtain ⟨f, rfl, hf⟩ := vb_to h1
        obtain ⟨g, rfl, hg⟩ := vb_to h2
        exact refSame_both f a b c g x y z w hf hg
  exact key.mono fun _ _ ⟨he, hg⟩ => ⟨he, hb.trans (hg.mono hb.size)⟩
theorem both_normal (F a b c : Int) : ∃ p q r s e0 : Int,
    (∀ w, Calls Tryd.prog 13 #[.agg #[.int .i64 F, .int .i64 a, .int .i64 b, .int .i64 c]] w fun e w' => e = .returned (.tuple #[.agg #[.int .i64 p, .int .i64 q, .int .i64 r, .int .i64 s], .int .i64 e0]) ∧ Below w.heap.size w w') ∧
    (∀ w, Calls Tryd.prog 14 #[.agg #[.int .i64 F, .int .i64 a, .int .i64 b, .int .i64 c]] w fun e w' => e = .returned (.tuple #[.agg #[.int .i64 p, .int .i64 q, .int .i64 r, .int .i64 s], .int .i64 e0]) ∧ Below w.heap.size w w') := by
  cases hv : vb F a b c
  · exact ⟨_, _, _, _, _, fun w => normal_no F a b c w hv, fun w => refNormal_no F a b c w hv⟩
  · obtain ⟨f, rfl, h⟩ := vb_to hv
    exact ⟨_, _, _, _, _, fun w => normal_yes f a b c w h, fun w => refNormal_yes f a b c w h⟩
/-- A list of n places, the numbers D one after the other. -/
def LstAt (w : World) (v : Value) (n : Nat) (D : Nat → Int) : Prop := ∃ A cap, v = .slice A n cap ∧ n ≤ cap ∧ cap ≤ 9223372036854775807 ∧ ∀ i, i < n → ∃ g, A = some ⟨g, 0, none⟩ ∧ g < w.heap.size ∧
  w.cell? ⟨g, i * 4, none⟩ = some (.int .i64 (D (i * 4))) ∧ w.cell? ⟨g, i * 4 + 1, none⟩ = some (.int .i64 (D (i * 4 + 1))) ∧ w.cell? ⟨g, i * 4 + 2, none⟩ = some (.int .i64 (D (i * 4 + 2))) ∧ w.cell? ⟨g, i * 4 + 3, none⟩ = some (.int .i64 (D (i * 4 + 3)))
theorem LstAt.under {w w' : World} {v : Value} {n : Nat} {D : Nat → Int} (h : LstAt w v n D) (hb : Below w.heap.size w w') : LstAt w' v n D := by
  obtain ⟨A, cap, e, h1, h2, h3⟩ := h
  refine ⟨A, cap, e, h1, h2, fun i hi => ?_⟩
  obtain ⟨g, k0, k1, k2, k3, k4, k5⟩ := h3 i hi
  exact ⟨g, k0, Nat.lt_of_lt_of_le k1 hb.size, (hb.cell (p := ⟨g, _, none⟩) k1).trans k2, (hb.cell (p := ⟨g, _, none⟩) k1).trans k3, (hb.cell (p := ⟨g, _, none⟩) k1).trans k4, (hb.cell (p := ⟨g, _, none⟩) k1).trans k5⟩
def dat (f : Nat) (a b c : Int) (j : Nat) : Int :=
  match j % 4 with
  | 0 => ((Ico.fcs f a b c 20).getD (j / 4) 0 : Nat)
  | 1 => Ico.wt f a b c (Ico.cor ((Ico.fcs f a b c 20).getD (j / 4) 0) 0)
  | 2 => Ico.wt f a b c (Ico.cor ((Ico.fcs f a b c 20).getD (j / 4) 0) 1)
  | _ => Ico.wt f a b c (Ico.cor ((Ico.fcs f a b c 20).getD (j / 4) 0) 2)
theorem lst_of {w : World} {f : Nat} {a b c : Int} {g cap : Nat} (h : Has w f a b c g) (hg : g < w.heap.size) (h1 : (Ico.fcs f a b c 20).length ≤ cap) (h2 : cap ≤ 9223372036854775807) :
    LstAt w (.slice (some ⟨g, 0, none⟩) (Ico.fcs f a b c 20).length cap) (Ico.fcs f a b c 20).length (dat f a b c) := by
  refine ⟨_, _, rfl, h1, h2, fun i hi => ⟨g, rfl, hg, ?_⟩⟩
  obtain ⟨k0, k1, k2, k3⟩ := h i hi
  have e : (Ico.fcs f a b c 20).getD i 0 = (Ico.fcs f a b c 20)[i] := by rw [List.getD_eq_getElem?_getD, List.getElem?_eq_getElem hi]; rfl
  unfold dat
  rw [show i * 4 % 4 = 0 by omega, show i * 4 / 4 = i by omega, show (i * 4 + 1) % 4 = 1 by omega, show (i * 4 + 1) / 4 = i by omega, show (i * 4 + 2) % 4 = 2 by omega, show (i * 4 + 2) / 4 = i by omega, show (i * 4 + 3) % 4 = 3 by omega, show (i * 4 + 3) / 4 = i by omega]
  simp only [e]
  exact ⟨k0, k1, k2, k3⟩
theorem both_addresses (F a b c : Int) : ∃ (n : Nat) (D : Nat → Int) (r : Int), n ≤ 20 ∧
    (∀ w, Calls Tryd.prog 15 #[.agg #[.int .i64 F, .int .i64 a, .int .i64 b, .int .i64 c]] w fun e w' => ∃ v, e = .returned (.tuple #[v, .int .i64 r]) ∧ Below w.heap.size w w' ∧ LstAt w' v n D) ∧
    (∀ w, Calls Tryd.prog 16 #[.agg #[.int .i64 F, .int .i64 a, .int .i64 b, .int .i64 c]] w fun e w' => ∃ v, e = .returned (.tuple #[v, .int .i64 r]) ∧ Below w.heap.size w w' ∧ LstAt w' v n D) := by
  cases hv : vb F a b c
  · refine ⟨0, fun _ => 0, 1, by omega, fun w => ?_, fun w => ?_⟩
    · exact (addresses_no F a b c w hv).mono fun e w' ⟨he, hb⟩ => ⟨_, he, hb, none, 0, rfl, by omega, by omega, fun i hi => by omega⟩
    · exact (refAddresses_no F a b c w hv).mono fun e w' ⟨he, hb⟩ => ⟨_, he, hb, none, 0, rfl, by omega, by omega, fun i hi => by omega⟩
  · obtain ⟨f, rfl, h⟩ := vb_to hv
    refine ⟨(Ico.fcs f a b c 20).length, dat f a b c, 0, Ico.fcs_len_le _ _ _ _ _, fun w => ?_, fun w => ?_⟩
    · exact (addresses_open f a b c w h).mono fun e w' ⟨g, cap, he, hb, h1, h2, h3, h4, hH⟩ => ⟨_, he, hb, lst_of hH h2 h3 h4⟩
    · exact (refAddresses_open f a b c w h).mono fun e w' ⟨g, cap, he, hb, h1, h2, h3, h4, hH⟩ => ⟨_, he, hb, lst_of hH h2 h3 h4⟩
attribute [local go_sem] eq_place
set_option maxHeartbeats 2000000 in
theorem places_any (l m : Value) (n : Nat) (D : Nat → Int) (w : World) (hn : n ≤ 20) (h1 : LstAt w l n D) (h2 : LstAt w m n D) :
    Calls Tryd.prog 19 #[l, m] w fun e w' => e = .returned (.bool true) ∧ Below w.heap.size w w' := by
  obtain ⟨A, cap, rfl, a1, a2, a3⟩ := h1
  obtain ⟨B, cap', rfl, b1, b2, b3⟩ := h2
  have HA := Lib.hid a3; clear a3
  have HB := Lib.hid b3; clear b3
  go_enter Tryd.func19, Tryd.ntmps19
  go_wp2_with fail
  go_loopw [5] (fun t wr => ∃ i : Nat, i ≤ n ∧ t = .int .i64 i ∧ ∃ q, wr = w.drewN q) (fun t _ => n - (intOf t).toNat)
  case atStart => exact ⟨0, by omega, rfl, 0, rfl⟩
  case round =>
    obtain ⟨i, hi, rfl, q, rfl⟩ := hrel
    by_cases hlt : i < n
    · obtain ⟨g, rfl, -, c0, c1, c2, c3⟩ := HA.out i hlt
      obtain ⟨g', rfl, -, d0, d1, d2, d3⟩ := HB.out i hlt
      have k1 : (0 : Int) ≤ (i : Int) := by omega
      have k2 : (i : Int) < (n : Int) := by omega
      clear HA HB
      go_wp2_with fail
      go_quiet (fail)
      go_wp2_with fail
      go_roundw
      case rel => exact ⟨i + 1, by omega, by go_num, _, rfl⟩
      case measure => simp [intOf]; omega
    · obtain rfl : i = n := by omega
      go_wp2_with fail
      go_ret
      exact ⟨rfl, below_drewN (Below.refl _ _) q⟩
end Go.Proofs.YteccblhmpggcgaaDoor
