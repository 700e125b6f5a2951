/- The sanity check of every statement of the layer. -/
import Derived.Test.YtjabnicflpeopaaRfF
import Derived.Test.YtjabnicflpeopaaBitD
namespace Go.Proofs.Ytjabnicflpeopaa
open Go.RowKit

theorem app_one : appA [] 0 5 3 = ⟨[160], 3, 0⟩ := by
  have hv : vb [] 0 = true := vb_yes ⟨by decide, by decide, by decide, fun i _ => bt_ge (Nat.zero_le _)⟩
  have hf : fits 5 3 = true := (fits_iff _ _).2 ⟨by decide, by decide, by decide, by decide⟩
  unfold appA
  rw [if_neg (by simp [hv]), if_neg (by simp [hf]), if_neg (by decide)]
  have e : pack ((0 : Int).toNat + (3 : Int).toNat) (wrt [] (0 : Int).toNat (5 : Int).toNat (3 : Int).toNat) = [160] := by decide +kernel
  rw [e]
  rfl
theorem app_two : appA [160] 3 1 6 = ⟨[160, 128], 9, 0⟩ := by
  have hv : vb [160] 3 = true := by
    have h : Pk [160] 3 (wrt [] 0 5 3) := by
      have h0 := pack_pk 3 (wrt [] 0 5 3)
      have e : pack 3 (wrt [] 0 5 3) = [160] := by decide +kernel
      rw [e] at h0
      exact h0
    exact vb_yes (h.vd (by decide))
  have hf : fits 1 6 = true := (fits_iff _ _).2 ⟨by decide, by decide, by decide, by decide⟩
  unfold appA
  rw [if_neg (by simp [hv]), if_neg (by simp [hf]), if_neg (by decide)]
  have e : pack ((3 : Int).toNat + (6 : Int).toNat) (wrt [160] (3 : Int).toNat (1 : Int).toNat (6 : Int).toNat) = [160, 128] := by decide +kernel
  rw [e]
  rfl
/-- A box of a list of bits. -/
def Bx (w : World) (g : Nat) (A : Option Addr) (c : Nat) (L : List Nat) (n : Int) : Prop := Row w g 24 #[.slice A L.length c, .int .i64 n] ∧ Bys w A c L
theorem Bx.under {w w' : World} {g : Nat} {A : Option Addr} {c : Nat} {L : List Nat} {n : Int} (h : Bx w g A c L n) (hb : Below w.heap.size w w') : Bx w' g A c L n := ⟨h.1.under hb, h.2.under hb⟩
theorem Bx.new {w : World} {A : Option Addr} {c : Nat} {L : List Nat} {n : Int} (h : Bys w A c L) : Bx (w.alloc (.cells #[.slice A L.length c, .int .i64 n] 24)) w.heap.size A c L n :=
  ⟨Row.new _ _ _, h.under ((Below.refl _ _).alloc (Nat.le_refl _) _)⟩
theorem Bx.alloc {w : World} {g : Nat} {A : Option Addr} {c : Nat} {L : List Nat} {n : Int} (h : Bx w g A c L n) (o : Obj) : Bx (w.alloc o) g A c L n := h.under ((Below.refl _ _).alloc (Nat.le_refl _) _)
theorem bys_new (w : World) (L : List Nat) (hb : ∀ x ∈ L, x < 256) (hl : L.length ≤ 9223372036854775807) : Bys (w.alloc (.cells (byc L).toArray 5)) (some ⟨w.heap.size, 0, none⟩) L.length L := Own.bys (Row.new _ _ _) hb hl
theorem alloc_below {B : Nat} {w0 w : World} (h : Below B w0 w) (hB : B ≤ w0.heap.size) (o : Obj) : Below B w0 (w.alloc o) := h.alloc (Nat.le_trans hB h.size) o
theorem refSame_yes (w : World) (A B : Option Addr) (c d : Nat) (L : List Nat) (n : Int) (h : Bys w A c L) (k : Bys w B d L) :
    Calls Try.prog 15 #[.agg #[.slice A L.length c, .int .i64 n], .agg #[.slice B L.length d, .int .i64 n]] w fun e w' => e = .returned (.bool true) ∧ Below w.heap.size w w' := by
  have h0 := refSame_any w A B c d L L n n h k
  rw [show decide (n = n ∧ L = L) = true by simp] at h0
  exact h0
set_option maxHeartbeats 2000000 in
theorem awake_any (w : World) : Calls Try.prog 8 #[] w fun e w' => e = .returned (.bool true) ∧ Below w.heap.size w w' := by
  go_enter Try.func8, Try.ntmps8
  go_wp2_with fail
  refine (append_any w none 0 [] 0 5 3 (Bys.none _) (by decide) (by decide)).mono ?_
  rw [app_one]
  rintro e w1 ⟨A1, c1, rfl, HP1, hb1⟩
  have X1 : Hid (Bx (w1.alloc (.cells #[.slice A1 [160].length c1, .int .i64 3] 24)) w1.heap.size A1 c1 [160] 3 ∧ Below w.heap.size w (w1.alloc (.cells #[.slice A1 [160].length c1, .int .i64 3] 24))) := Lib.hid ⟨Bx.new HP1, alloc_below hb1 (Nat.le_refl _) _⟩
  clear HP1 hb1
  go_upto_region 2 with fail
  refine forget (fun Y => Hid (Bx Y w1.heap.size A1 c1 [160] 3 ∧ Below w.heap.size w Y)) X1 ?_
  clear X1
  generalize w1.heap.size = g1
  intro Y X1
  obtain ⟨p0, p1⟩ := row2 X1.out.1.1
  go_wp2_with fail
  refine (append_any Y A1 c1 [160] 3 1 6 X1.out.1.2 (by decide) (by decide)).mono ?_
  rw [app_two]
  rintro e w2 ⟨A2, c2, rfl, HP2, hb2⟩
  have X2 : Hid (Bx (w2.alloc (.cells #[.slice A2 [160, 128].length c2, .int .i64 9] 24)) w2.heap.size A2 c2 [160, 128] 9 ∧ Bx (w2.alloc (.cells #[.slice A2 [160, 128].length c2, .int .i64 9] 24)) g1 A1 c1 [160] 3 ∧ Below w.heap.size w (w2.alloc (.cells #[.slice A2 [160, 128].length c2, .int .i64 9] 24))) := Lib.hid ⟨Bx.new HP2, (X1.out.1.under hb2).alloc _, alloc_below (X1.out.2.trans (hb2.mono X1.out.2.size)) (Nat.le_refl _) _⟩
  clear HP2 hb2 p0 p1 X1
  go_upto_region 3 with fail
  refine forget (fun Y => Hid (Bx Y w2.heap.size A2 c2 [160, 128] 9 ∧ Bx Y g1 A1 c1 [160] 3 ∧ Below w.heap.size w Y)) X2 ?_
  clear X2
  generalize w2.heap.size = g2
  intro Z X2
  obtain ⟨p0, p1⟩ := row2 X2.out.1.1
  obtain ⟨q0, q1⟩ := row2 X2.out.2.1.1
  go_wp2_with fail
  refine (refSame_yes _ A1 _ c1 1 [160] 3 (X2.out.2.1.alloc _).2 (bys_new Z [160] (by decide) (by decide))).mono ?_
  rintro e w3 ⟨rfl, hb3⟩
  have X3 : Hid (Bx w3 g2 A2 c2 [160, 128] 9 ∧ Below w.heap.size w w3) := Lib.hid ⟨(X2.out.1.alloc _).under hb3, (alloc_below X2.out.2.2 (Nat.le_refl _) _).trans (hb3.mono (alloc_below X2.out.2.2 (Nat.le_refl _) _).size)⟩
  clear hb3 X2 p0 p1 q0 q1
  obtain ⟨p0, p1⟩ := row2 X3.out.1.1
  go_wp2_with fail
  refine (refSame_yes _ A2 _ c2 2 [160, 128] 9 (X3.out.1.alloc _).2 (bys_new w3 [160, 128] (by decide) (by decide))).mono ?_
  rintro e w4 ⟨rfl, hb4⟩
  have B4 := Lib.hid ((alloc_below X3.out.2 (Nat.le_refl _) _).trans (hb4.mono (alloc_below X3.out.2 (Nat.le_refl _) _).size))
  clear hb4 X3 p0 p1
  go_wp2_with fail
  go_ret
  exact ⟨rfl, B4.out⟩
end Go.Proofs.Ytjabnicflpeopaa
