/- The contract of the reference's Of. -/
import Derived.Test.YtjabnicflpeopaaRfB
namespace Go.Proofs.Ytjabnicflpeopaa
open Go.RowKit

/-- The bits that a list of numbers stands for. -/
def isb (X : List Int) : Nat → Bool := fun i => decide (X.getD i 0 = 1)
theorem isb_bl (f : Nat → Bool) (n i : Nat) (h : i < n) : isb (bl f n) i = f i := by
  unfold isb
  rw [bl_at f n i h]
  cases f i <;> rfl
/-- What is in memory while the list is made. -/
structure Om (w : World) (g0 g1 g2 : Nat) (K n : Nat) (f : Nat → Bool) (i : Nat) (Z : World) : Prop where
  r0 : Row Z g0 24 #[.slice none 0 0, .int .i64 0]
  r2 : Row Z g2 24 #[.slice (some ⟨g1, 0, none⟩) K K, .int .i64 (n : Int)]
  own : ∃ M, Own Z g1 M ∧ Pk M n (upto f i)
  below : Below g0 w Z
theorem upto_skip {L : List Nat} {N i : Nat} {f : Nat → Bool} (h : Pk L N (upto f i)) (hf : f i = false) : Pk L N (upto f (i + 1)) := by
  refine h.cong (fun j _ => ?_)
  unfold upto
  by_cases e : j = i
  · subst e; simp [hf]
  · by_cases h1 : j < i
    · simp [h1, show j < i + 1 by omega]
    · simp [h1, show ¬ j < i + 1 by omega]
theorem one_val {i : Nat} : (2 : Int) ^ (7 - i % 8) % 256 = ((true.toNat <<< (7 - i % 8) : Nat) : Int) := by
  have p := pw_le (b := true) (i := i)
  have e : (2 : Int) ^ (7 - i % 8) = ((true.toNat <<< (7 - i % 8) : Nat) : Int) := by
    rw [Nat.shiftLeft_eq, Bool.toNat_true, Nat.one_mul, Int.natCast_pow]
    rfl
  rw [e]
  generalize true.toNat <<< (7 - i % 8) = y at p ⊢
  omega
set_option maxHeartbeats 2000000 in
theorem refOf_own (w : World) (A : Option Addr) (c : Nat) (X : List Int) (h : Ins w A c X) (hn : X.length ≤ 40000) :
    Calls Try.prog 27 #[.slice A X.length c] w fun e w' => ∃ g, e = .returned (btV (some ⟨g, 0, none⟩) (pack X.length (isb X)).length (pack X.length (isb X)) X.length) ∧ Own w' g (pack X.length (isb X)) ∧ w.heap.size ≤ g ∧ Below w.heap.size w w' := by
  have H := Lib.hid h
  have h1 := h.1
  have h2 := h.2.1
  generalize hK : (X.length + 7) / 8 = K
  have s1 : (0 : Int) ≤ ((X.length : Int) + 7) / 8 := by omega
  have mk := mk_bytes (((X.length : Int) + 7) / 8) K (by omega) (by omega)
  have HK := Lib.hid hK.symm
  have hK2 : K ≤ 5001 := by omega
  clear h hK
  go_enter Try.func27, Try.ntmps27
  go_upto_region 2 with fail
  have MS : Hid (Om w w.heap.size (w.heap.size + 1) (w.heap.size + 1 + 1) K X.length (isb X) 0 (((w.alloc (.cells #[.slice none 0 0, .int .i64 0] 24)).alloc (.cells (byc (List.replicate K 0)).toArray 5)).alloc (.cells #[.slice (some ⟨w.heap.size + 1, 0, none⟩) K K, .int .i64 (X.length : Int)] 24))) :=
    Lib.hid ⟨((Row.new _ _ _).alloc _).alloc _, Row.newAt (by simp), ⟨_, (Row.newAt (by simp)).alloc _, by
      rw [HK.out]
      exact (Pk.zero X.length).cong (fun j _ => by unfold upto; simp)⟩, ((((Below.refl _ _).alloc (Nat.le_refl _) _).alloc (by simp) _).alloc (by simp; omega) _)⟩
  have Z : Hid (w.heap.size ≠ w.heap.size + 1 ∧ w.heap.size + 1 + 1 ≠ w.heap.size + 1 ∧ w.heap.size ≤ w.heap.size + 1) := Lib.hid ⟨by omega, by omega, by omega⟩
  clear mk s1
  refine forget (fun Y => Hid (Om w w.heap.size (w.heap.size + 1) (w.heap.size + 1 + 1) K X.length (isb X) 0 Y)) MS ?_
  clear MS
  generalize w.heap.size + 1 + 1 = g2 at Z ⊢
  generalize w.heap.size + 1 = g1 at Z ⊢
  generalize hG : w.heap.size = g0 at Z ⊢
  have G0 := Lib.hid hG
  clear hG
  intro Y MS
  go_wp2_with fail
  go_loopw [4] (fun t Y => ∃ i : Nat, i ≤ X.length ∧ t = .int .i64 i ∧ Hid (Om w g0 g1 g2 K X.length (isb X) i Y)) (fun t _ => X.length - (intOf t).toNat)
  case atStart => exact ⟨0, Nat.zero_le _, rfl, MS⟩
  case round =>
    clear MS
    obtain ⟨i, hi', rfl, M⟩ := hrel
    by_cases hlt : i < X.length
    · have i0 : (0 : Int) ≤ (i : Int) := by omega
      have i1 : (i : Int) < (X.length : Int) := by omega
      obtain ⟨bk, off, rfl, hblt, hc⟩ := H.out.2.2.2 i hlt
      have cx : wr.cell? ⟨bk, off + i, none⟩ = some (.int .i64 X[i]) := (M.out.below.cell (p := ⟨bk, off + i, none⟩) (by rw [← G0.out]; exact hblt)).trans hc
      have hX : X.getD i 0 = X[i] := by rw [List.getD_eq_getElem?_getD, List.getElem?_eq_getElem hlt]; rfl
      clear hc
      by_cases hx : X[i] = 1
      · have HF : Hid (isb X i = true) := Lib.hid (by unfold isb; rw [hX, hx]; rfl)
        rw [hx] at cx
        clear hX hx
        obtain ⟨p0, p1⟩ := row2 M.out.r2
        obtain ⟨W, hO, hP⟩ := M.out.own
        have hl8 : i / 8 < W.length := by rw [hP.len]; omega
        have HWl : W.length = K := hP.len.trans HK.out.symm
        have cb : wr.cell? ⟨g1, i / 8, none⟩ = some (.int .u8 (W[i / 8] : Int)) := by rw [Row.cell hO, List.getElem?_toArray]; exact byc_at hl8
        have fb := Row.thaw hO (i / 8)
        have B := Lib.hid (put_int hl8 hP.byte true)
        have HS := Lib.hid (upto_step hP hlt)
        rw [HF.out] at HS
        have HM := Lib.hid (show Row wr g0 24 _ ∧ Row wr g2 24 _ ∧ Below g0 w wr ∧ Own wr g1 W from ⟨M.out.r0, M.out.r2, M.out.below, hO⟩)
        have u0 : (0 : Int) ≤ (i : Int) / 8 := by omega
        have u1 : (i : Int) / 8 < (K : Int) := by omega
        have u3 : ((i : Int) / 8).toNat = i / 8 := by omega
        have u4 : (0 : Int) ≤ 7 - (i : Int) % 8 := by omega
        have HWl2 := Lib.hid HWl
        clear M hO hP HF HWl
        generalize W[i / 8] = x at cb B
        clear hl8
        go_wp2_with fail
        go_roundw
        case rel =>
          refine ⟨i + 1, by omega, by go_num, Lib.hid ⟨HM.out.1.far (p := ⟨g1, i / 8, none⟩) (fun e => Z.out.1 e.symm) _, HM.out.2.1.far (p := ⟨g1, i / 8, none⟩) (fun e => Z.out.2.1 e.symm) _, ⟨_, ?_, HS.out⟩, HM.out.2.2.1.setCell (p := ⟨g1, i / 8, none⟩) Z.out.2.2 _⟩⟩
          rw [one_val, B.out, Own, byc_set, ← List.setIfInBounds_toArray]
          exact Row.put HM.out.2.2.2 _ _
        case measure => simp [intOf]; omega
      · have hne : (X[i] == (1 : Int)) = false := by simp [hx]
        have HF : Hid (isb X i = false) := Lib.hid (by unfold isb; rw [hX]; simp [hx])
        clear hX hx
        generalize X[i] = x at cx hne
        go_wp2_with fail
        go_roundw
        case rel => exact ⟨i + 1, by omega, by go_num, Lib.hid ⟨M.out.r0, M.out.r2, by obtain ⟨W, a, b⟩ := M.out.own; exact ⟨W, a, upto_skip b HF.out⟩, M.out.below⟩⟩
        case measure => simp [intOf]; omega
    · have k1 : ¬ (i : Int) < (X.length : Int) := by omega
      obtain rfl : i = X.length := by omega
      obtain ⟨p0, p1⟩ := row2 M.out.r2
      obtain ⟨q0, q1⟩ := row2 M.out.r0
      have f0 := M.out.r0.thaw 0
      have f1 := M.out.r0.thaw 1
      clear hlt
      go_wp2_with fail
      obtain ⟨W, hO, hP⟩ := M.out.own
      have zr := set2_row (.slice (some ⟨g1, 0, none⟩) K K) (.int .i64 (X.length : Int)) M.out.r0
      have zo : Own ((wr.setCell ⟨g0, 0, none⟩ (.slice (some ⟨g1, 0, none⟩) K K)).setCell ⟨g0, 1, none⟩ (.int .i64 (X.length : Int))) g1 W :=
        Row.far (p := ⟨g0, 1, none⟩) (Row.far (p := ⟨g0, 0, none⟩) hO Z.out.1 _) Z.out.1 _
      have zb := set2_below (u0 := .slice (some ⟨g1, 0, none⟩) K K) (u1 := .int .i64 (X.length : Int)) M.out.below (Nat.le_refl g0)
      clear p0 p1 q0 q1 f0 f1 M
      generalize (wr.setCell ⟨g0, 0, none⟩ (.slice (some ⟨g1, 0, none⟩) K K)).setCell ⟨g0, 1, none⟩ (.int .i64 (X.length : Int)) = V9 at zr zo zb ⊢
      obtain ⟨k7, k8⟩ := row2 zr
      have ZB := Lib.hid zb
      have hW : W = pack X.length (isb X) := hP.eq (fun j hj => by unfold upto; simp [hj])
      have hWl : (pack X.length (isb X)).length = K := by rw [pack_len, HK.out]
      have ZO := Lib.hid (show Own V9 g1 (pack X.length (isb X)) from hW ▸ zo)
      have HWl := Lib.hid hWl
      clear zr zb zo hW hO hP hWl
      exact bodyPost_ret (v := .agg #[.slice (some ⟨g1, 0, none⟩) K K, .int .i64 (X.length : Int)]) (by simp [results, Try.results27, go_sem, k7, k8]) rfl ⟨g1, by rw [btV, HWl.out], ZO.out, by rw [G0.out]; exact Z.out.2.2, by rw [G0.out]; exact ZB.out⟩
theorem refOf_any (w : World) (A : Option Addr) (c : Nat) (X : List Int) (h : Ins w A c X) (hn : X.length ≤ 40000) :
    Calls Try.prog 27 #[.slice A X.length c] w fun e w' => ∃ A' c', e = .returned (btV A' c' (pack X.length (isb X)) X.length) ∧ Bys w' A' c' (pack X.length (isb X)) ∧ Below w.heap.size w w' :=
  (refOf_own w A c X h hn).mono fun _ _ ⟨g, h1, h2, _, h4⟩ => ⟨_, _, h1, Own.bys h2 (pack_pk _ _).byte (by rw [pack_len]; omega), h4⟩
end Go.Proofs.Ytjabnicflpeopaa
