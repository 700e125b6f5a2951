/- The contract of the reference's Choose. -/
import Derived.Test.YtjaopjhfjijdaaaDoorRf
namespace Go.Proofs.YtjaopjhfjijdaaaDoor
open Go.RowKit

/-- A list of tables as the program holds it. -/
def TlIn (w : World) (v : Value) (T : List (Int × List En × List Sq)) : Prop := ∃ A cap, v = .slice A T.length cap ∧ T.length ≤ cap ∧ cap ≤ 1000 ∧ ∀ i (h : i < T.length), ∃ g off B cb D cd, A = some ⟨g, off, none⟩ ∧ g < w.heap.size ∧ w.cell? ⟨g, off + i * 3, none⟩ = some (.int .i64 (T[i]).1) ∧ w.cell? ⟨g, off + i * 3 + 1, none⟩ = some (.slice B (T[i]).2.1.length cb) ∧ w.cell? ⟨g, off + i * 3 + 2, none⟩ = some (.slice D (T[i]).2.2.length cd) ∧ EnIn w (.slice B (T[i]).2.1.length cb) (T[i]).2.1 ∧ SqIn w (.slice D (T[i]).2.2.length cd) (T[i]).2.2
theorem TlIn.under {w w' : World} {v : Value} {T : List (Int × List En × List Sq)} (h : TlIn w v T) (hb : Below w.heap.size w w') : TlIn w' v T := by
  obtain ⟨A, cap, h1, h2, h3, h4⟩ := h
  refine ⟨A, cap, h1, h2, h3, fun i hi => ?_⟩
  obtain ⟨g, off, B, cb, D, cd, a, b, c, d, e, f, k⟩ := h4 i hi
  exact ⟨g, off, B, cb, D, cd, a, Nat.lt_of_lt_of_le b hb.size, (hb.cell (p := ⟨g, off + i * 3, none⟩) b).trans c, (hb.cell (p := ⟨g, off + i * 3 + 1, none⟩) b).trans d, (hb.cell (p := ⟨g, off + i * 3 + 2, none⟩) b).trans e, f.under hb, k.under hb⟩
/-- What Choose leaves. -/
def ChR (w : World) (T : List (Int × List En × List Sq)) (y : Int) (e : Ending) (w' : World) : Prop := ∃ (x : Int) (t : Value), e = .returned (.tuple #[t, .int .i64 x]) ∧ Below w.heap.size w w' ∧
  ((x = 9 ∧ (∀ j (hj : j < T.length), (T[j]).1 ≠ y) ∧ t = .agg #[.int .i64 0, .slice none 0 0, .slice none 0 0]) ∨ (x = 0 ∧ ∃ i, ∃ hi : i < T.length, (T[i]).1 = y ∧ (∀ j (hj : j < T.length), j < i → (T[j]).1 ≠ y) ∧ TbIn w' t (T[i]).1 (T[i]).2.1 (T[i]).2.2))
theorem set3_row {w : World} {g : Nat} {t : TypeId} {y0 y1 y2 : Value} (u0 u1 u2 : Value) (h : Row w g t #[y0, y1, y2]) :
    Row (((w.setCell ⟨g, 0, none⟩ u0).setCell ⟨g, 1, none⟩ u1).setCell ⟨g, 2, none⟩ u2) g t #[u0, u1, u2] := by
  have h0 : Row (w.setCell ⟨g, 0, none⟩ u0) g t #[u0, y1, y2] := h.put 0 _
  have h1 : Row ((w.setCell ⟨g, 0, none⟩ u0).setCell ⟨g, 1, none⟩ u1) g t #[u0, u1, y2] := h0.put 1 _
  exact h1.put 2 _
theorem set3_below {w0 w : World} {B g : Nat} {u0 u1 u2 : Value} (h : Below B w0 w) (hg : B ≤ g) : Below B w0 (((w.setCell ⟨g, 0, none⟩ u0).setCell ⟨g, 1, none⟩ u1).setCell ⟨g, 2, none⟩ u2) :=
  ((h.setCell (p := ⟨g, 0, none⟩) hg _).setCell (p := ⟨g, 1, none⟩) hg _).setCell (p := ⟨g, 2, none⟩) hg _
set_option maxRecDepth 100000 in
set_option maxHeartbeats 2000000 in
theorem refChoose_any (v : Value) (T : List (Int × List En × List Sq)) (y : Int) (w : World) (h : TlIn w v T) :
    Calls Tryd.prog 21 #[v, .int .i64 y] w (ChR w T y) := by
  have HT := Lib.hid h
  obtain ⟨A, cap, rfl, h1, h2, -⟩ := h
  have HJ : Hid (Row (w.alloc (.cells #[.int .i64 0, .slice none 0 0, .slice none 0 0] 25)) w.heap.size 25 #[.int .i64 0, .slice none 0 0, .slice none 0 0] ∧ Below w.heap.size w (w.alloc (.cells #[.int .i64 0, .slice none 0 0, .slice none 0 0] 25))) := Lib.hid ⟨Row.new _ _ _, (Below.refl _ _).alloc (Nat.le_refl _) _⟩
  go_enter Tryd.func21, Tryd.ntmps21
  go_upto_region 1 with fail
  refine forget (fun Y => Hid (Row Y w.heap.size 25 #[.int .i64 0, .slice none 0 0, .slice none 0 0] ∧ Below w.heap.size w Y)) HJ ?_
  clear HJ
  intro Y0 HJ
  go_wp2_with fail
  go_loopw [6] (fun t Y => ∃ k : Nat, k ≤ T.length ∧ t = .int .i64 k ∧ Hid ((Row Y w.heap.size 25 #[.int .i64 0, .slice none 0 0, .slice none 0 0] ∧ Below w.heap.size w Y) ∧ ∀ j (hj : j < T.length), j < k → (T[j]).1 ≠ y)) (fun t _ => T.length - (intOf t).toNat)
  case atStart => exact ⟨0, Nat.zero_le _, rfl, Lib.hid ⟨HJ.out, fun j _ q => absurd q (Nat.not_lt_zero _)⟩⟩
  case round =>
    clear HJ
    obtain ⟨k, hk, rfl, M⟩ := hrel
    by_cases hlt : k < T.length
    · have k0 : (0 : Int) ≤ (k : Int) := by omega
      have k1 : (k : Int) < (T.length : Int) := by omega
      obtain ⟨A', cap', ea, -, -, h4⟩ := HT.out
      injection ea with ea
      subst ea
      obtain ⟨g, off, B, cb, D, cd, rfl, hgl, c0, c1, c2, hE, hS⟩ := h4 k hlt
      replace c0 := (M.out.1.2.cell (p := ⟨g, off + k * 3, none⟩) hgl).trans c0
      replace c1 := (M.out.1.2.cell (p := ⟨g, off + k * 3 + 1, none⟩) hgl).trans c1
      replace c2 := (M.out.1.2.cell (p := ⟨g, off + k * 3 + 2, none⟩) hgl).trans c2
      have HE := Lib.hid hE
      have HS := Lib.hid hS
      clear h4 hE hS
      by_cases hq : (T[k]).1 = y
      · have e1 : ((T[k]).1 == y) = true := by simpa using hq
        obtain ⟨q0, q1, q2⟩ := row3 M.out.1.1
        have f0 := M.out.1.1.thaw 0
        have f1 := M.out.1.1.thaw 1
        have f2 := M.out.1.1.thaw 2
        have HQ := Lib.hid hq
        clear hq
        have RR := set3_row (.int .i64 (T[k]).1) (.slice B (T[k]).2.1.length cb) (.slice D (T[k]).2.2.length cd) M.out.1.1
        have BB := set3_below (u0 := .int .i64 (T[k]).1) (u1 := .slice B (T[k]).2.1.length cb) (u2 := .slice D (T[k]).2.2.length cd) M.out.1.2 (Nat.le_refl _)
        have HR := Lib.hid RR
        have HB := Lib.hid BB
        clear RR BB
        go_wp2_with fail
        exact bodyPost_ret (v := .tuple #[.agg #[.int .i64 (T[k]).1, .slice B (T[k]).2.1.length cb, .slice D (T[k]).2.2.length cd], .int .i64 0]) (by obtain ⟨z0, z1, z2⟩ := row3 HR.out; simp [results, Tryd.results21, z0, z1, z2, go_sem]) rfl ⟨0, _, rfl, HB.out, .inr ⟨rfl, k, hlt, HQ.out, fun j hj hjk => M.out.2 j hj hjk, _, _, rfl, HE.out.under HB.out, HS.out.under HB.out⟩⟩
      · have e1 : ((T[k]).1 == y) = false := by simpa using hq
        have HM := Lib.hid (⟨M.out.1, fun j hj hjk => by
          by_cases e : j = k
          · subst e; exact hq
          · exact M.out.2 j hj (by omega)⟩ : (Row wr w.heap.size 25 #[.int .i64 0, .slice none 0 0, .slice none 0 0] ∧ Below w.heap.size w wr) ∧ ∀ j (hj : j < T.length), j < k + 1 → (T[j]).1 ≠ y)
        clear M hq
        go_wp2_with fail
        go_roundw
        case rel => exact ⟨k + 1, by omega, by go_num, HM⟩
        case measure => simp [intOf]; omega
    · have k1 : ¬ (k : Int) < (T.length : Int) := by omega
      obtain ⟨q0, q1, q2⟩ := row3 M.out.1.1
      have f0 := M.out.1.1.thaw 0
      have f1 := M.out.1.1.thaw 1
      have f2 := M.out.1.1.thaw 2
      have HR := Lib.hid (set3_row (.int .i64 0) (.slice none 0 0) (.slice none 0 0) M.out.1.1)
      have HB := Lib.hid (set3_below (u0 := .int .i64 0) (u1 := .slice none 0 0) (u2 := .slice none 0 0) M.out.1.2 (Nat.le_refl _))
      go_wp2_with fail
      exact bodyPost_ret (v := .tuple #[.agg #[.int .i64 0, .slice none 0 0, .slice none 0 0], .int .i64 9]) (by obtain ⟨z0, z1, z2⟩ := row3 HR.out; simp [results, Tryd.results21, z0, z1, z2, go_sem]) rfl ⟨9, _, rfl, HB.out, .inl ⟨rfl, fun j hj => M.out.2 j hj (by omega), rfl⟩⟩
end Go.Proofs.YtjaopjhfjijdaaaDoor
