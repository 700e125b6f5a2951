/- BitsAnswers: the walk. -/
import Derived.Test.YtjabnicflpeopaaBa
namespace Go.Proofs.Ytjabnicflpeopaa
open Go.RowKit

set_option maxHeartbeats 8000000 in
set_option maxRecDepth 100000 in
theorem bitsAnswers_any (A0 : Option Addr) (c0 : Nat) (L0 : List Nat) (n0 : Int) (v : Value) (value width at_ : Int) (w : World) (h0 : Bys w A0 c0 L0) (hn0 : I64 n0) (hv : ListIn w v) :
    Calls Try.prog 3 #[btV A0 c0 L0 n0, v, .int .i64 value, .int .i64 width, .int .i64 at_] w fun e w' => e = .returned (.bool true) ∧ Below w.heap.size w w' := by
  have HX0 : Hid (Bx (w.alloc (.cells #[.slice A0 L0.length c0, .int .i64 n0] 24)) w.heap.size A0 c0 L0 n0 ∧ Below w.heap.size w (w.alloc (.cells #[.slice A0 L0.length c0, .int .i64 n0] 24)) ∧ ListIn (w.alloc (.cells #[.slice A0 L0.length c0, .int .i64 n0] 24)) v) := Lib.hid ⟨Bx.new h0, (Below.refl _ _).alloc (Nat.le_refl _) _, hv.under ((Below.refl _ _).alloc (Nat.le_refl _) _)⟩
  have hl0 := h0.1
  have hl1 := h0.2.1
  have HN0 := Lib.hid hn0
  clear h0 hv hn0
  by_cases h6 : L0.length ≤ 6000
  · have h6' : (L0.length : Int) ≤ 6000 := by omega
    go_enter Try.func3, Try.ntmps3
    go_upto_region 1 with fail
    generalize w.alloc (.cells #[.slice A0 L0.length c0, .int .i64 n0] 24) = W at HX0 ⊢
    have HW : Hid (Below w.heap.size w W) := Lib.hid HX0.out.2.1
    generalize w.heap.size = g5 at HX0 ⊢
    obtain ⟨p0, p1⟩ := row2 HX0.out.1.1
    go_wp2_with fail
    refine (new_any W v HX0.out.2.2).mono ?_
    rintro e w1 ⟨rfl, hs, hb⟩
    have X1 := Lib.hid (show Bx w1 g5 A0 c0 L0 n0 ∧ Src W W.heap.size w1 from ⟨HX0.out.1.under hb, hs⟩)
    have G5 : Hid (g5 ≠ W.heap.size) := Lib.hid (by have := HX0.out.1.1.lt; omega)
    clear hs hb HX0 p0 p1
    generalize W.heap.size = b at X1 G5 ⊢
    go_wp2_with fail
    refine (list_any W b w1 X1.out.2).mono ?_
    rintro e w2 ⟨Ax, cx, Lx, nx, rfl, hB, hs, hg, -, n1, n2⟩
    have HNx := Lib.hid (list_I64 n1 n2)
    have X2 := Lib.hid (show Bx w2 g5 A0 c0 L0 n0 ∧ Src W b w2 ∧ Bys w2 Ax cx Lx from ⟨X1.out.1.read G5.out X1.out.2 hg, hs, hB⟩)
    clear hB hs hg n1 n2 X1
    go_wp2_with fail
    refine (list_any W b w2 X2.out.2.1).mono ?_
    rintro e w3 ⟨Ay, cy, Ly, ny, rfl, hB, hs, hg, -, n1, n2⟩
    have HNy := Lib.hid (list_I64 n1 n2)
    have X3 := Lib.hid (show Bx w3 g5 A0 c0 L0 n0 ∧ Src W b w3 ∧ Bys w3 Ax cx Lx ∧ Bys w3 Ay cy Ly from ⟨X2.out.1.read G5.out X2.out.2.1 hg, hs, X2.out.2.2.read X2.out.2.1 hg, hB⟩)
    clear hB hs hg n1 n2 X2
    have al : (w3.alloc (.cells #[.slice Ax Lx.length cx, .int .i64 nx] 24)).heap.size = w3.heap.size + 1 := by simp
    have X5 := Lib.hid (show Bx ((w3.alloc (.cells #[.slice Ax Lx.length cx, .int .i64 nx] 24)).alloc (.cells #[.slice Ay Ly.length cy, .int .i64 ny] 24)) g5 A0 c0 L0 n0 ∧ Bx ((w3.alloc (.cells #[.slice Ax Lx.length cx, .int .i64 nx] 24)).alloc (.cells #[.slice Ay Ly.length cy, .int .i64 ny] 24)) w3.heap.size Ax cx Lx nx ∧ Bx ((w3.alloc (.cells #[.slice Ax Lx.length cx, .int .i64 nx] 24)).alloc (.cells #[.slice Ay Ly.length cy, .int .i64 ny] 24)) (w3.heap.size + 1) Ay cy Ly ny ∧ Src W b ((w3.alloc (.cells #[.slice Ax Lx.length cx, .int .i64 nx] 24)).alloc (.cells #[.slice Ay Ly.length cy, .int .i64 ny] 24)) from ⟨(X3.out.1.alloc _).alloc _, (Bx.new X3.out.2.2.1).alloc _, by have := Bx.new (n := ny) (X3.out.2.2.2.under (Below.alloc (Below.refl w3.heap.size w3) (Nat.le_refl _) (.cells #[.slice Ax Lx.length cx, .int .i64 nx] 24))); rw [al] at this; exact this, (X3.out.2.1.under ((Below.refl _ _).alloc (Nat.le_refl _) _)).under ((Below.refl _ _).alloc (Nat.le_refl _) _)⟩)
    have GX : Hid (w3.heap.size ≠ b ∧ w3.heap.size + 1 ≠ b) := Lib.hid (by have := X3.out.2.1.lt; omega)
    clear X3 al
    go_upto_region 5 with fail
    refine forget (fun Y => Hid (Bx Y g5 A0 c0 L0 n0 ∧ Bx Y w3.heap.size Ax cx Lx nx ∧ Bx Y (w3.heap.size + 1) Ay cy Ly ny ∧ Src W b Y)) X5 ?_
    clear X5
    generalize w3.heap.size + 1 = gy at GX ⊢
    generalize w3.heap.size = gx at GX ⊢
    intro Y5 X5
    go_wp2_with fail
    refine (range_any W b _ 1 24 X5.out.2.2.2 (by decide) (by decide) (by decide) (by decide)).mono ?_
    rintro e Y6 ⟨k, ⟨ka, kb⟩, rfl, hs, hg⟩
    have X6 := Lib.hid (show Bx Y6 g5 A0 c0 L0 n0 ∧ Bx Y6 gx Ax cx Lx nx ∧ Bx Y6 gy Ay cy Ly ny ∧ Src W b Y6 from ⟨X5.out.1.read G5.out X5.out.2.2.2 hg, X5.out.2.1.read GX.out.1 X5.out.2.2.2 hg, X5.out.2.2.1.read GX.out.2 X5.out.2.2.2 hg, hs⟩)
    clear hs hg X5
    obtain ⟨K, rfl⟩ := Int.eq_ofNat_of_zero_le (by omega : 0 ≤ k)
    have hpow : (2 : Int) ^ K ≤ 16777216 := pow_le24 (by omega)
    have hpow0 : (0 : Int) < 2 ^ K := Int.pow_pos (by decide)
    go_wp2_with fail
    refine (n_any W b _ (2 ^ K) X6.out.2.2.2 (by omega) (by omega)).mono ?_
    rintro e Y7 ⟨vv, ⟨va, vb'⟩, rfl, hs, hg⟩
    have X7 := Lib.hid (show Bx Y7 g5 A0 c0 L0 n0 ∧ Bx Y7 gx Ax cx Lx nx ∧ Bx Y7 gy Ay cy Ly ny ∧ Src W b Y7 from ⟨X6.out.1.read G5.out X6.out.2.2.2 hg, X6.out.2.1.read GX.out.1 X6.out.2.2.2 hg, X6.out.2.2.1.read GX.out.2 X6.out.2.2.2 hg, hs⟩)
    clear hs hg X6
    have hv24 : vv < 16777216 := by omega
    clear hpow hpow0 vb'
    obtain ⟨p0, p1⟩ := row2 X7.out.1.1
    obtain ⟨q0, q1⟩ := row2 X7.out.2.1.1
    obtain ⟨r0, r1⟩ := row2 X7.out.2.2.1.1
    have X8 := Lib.hid (show Bx (Y7.alloc (.cells #[.slice A0 L0.length c0, .int .i64 n0, .slice Ax Lx.length cx, .int .i64 nx, .slice Ay Ly.length cy, .int .i64 ny] 24)) gx Ax cx Lx nx ∧ Src W b (Y7.alloc (.cells #[.slice A0 L0.length c0, .int .i64 n0, .slice Ax Lx.length cx, .int .i64 nx, .slice Ay Ly.length cy, .int .i64 ny] 24)) ∧ Three Y7.heap.size (Y7.alloc (.cells #[.slice A0 L0.length c0, .int .i64 n0, .slice Ax Lx.length cx, .int .i64 nx, .slice Ay Ly.length cy, .int .i64 ny] 24)) from ⟨X7.out.2.1.alloc _, X7.out.2.2.2.under ((Below.refl _ _).alloc (Nat.le_refl _) _), three_new Y7 X7.out.1.2 X7.out.2.1.2 X7.out.2.2.1.2 HN0.out HNx.out HNy.out⟩)
    have GS : Hid (Y7.heap.size ≠ b) := Lib.hid (by have := X7.out.2.2.2.lt; omega)
    clear X7
    go_wp2_with fail
    refine forget (fun Y => Hid (Bx Y gx Ax cx (Lx) (nx) ∧ Src W b Y ∧ Three Y7.heap.size Y ∧ Below w.heap.size w Y)) (Lib.hid ⟨X8.out.1, X8.out.2.1, X8.out.2.2, src_below HW.out X8.out.2.1⟩) ?_
    clear X8 p0 p1 q0 q1 r0 r1
    generalize Y7.heap.size = gs at GS ⊢
    intro Y8 X8
    go_loopw [61] (fun t Y => ∃ i : Nat, i ≤ 3 ∧ t = .int .i64 i ∧ Hid (Bx Y gx Ax cx (Lx) (nx) ∧ Src W b Y ∧ Three gs Y ∧ Below w.heap.size w Y)) (fun t _ => 3 - (intOf t).toNat)
    case atStart => exact ⟨0, by decide, rfl, X8⟩
    case round =>
      clear X8
      obtain ⟨i, hi, rfl, M⟩ := hrel
      by_cases hlt : i < 3
      · have i0 : (0 : Int) ≤ (i : Int) := by omega
        have i1 : (i : Int) < 3 := by omega
        obtain ⟨A, c, L, n, q0, q1, hB, hn⟩ := M.out.2.2.1.2 i hlt
        have HN := Lib.hid hn
        have X9 : Hid (Bx (wr.alloc (.cells #[.slice A L.length c, .int .i64 n] 24)) wr.heap.size A c (L) (n) ∧ Bx (wr.alloc (.cells #[.slice A L.length c, .int .i64 n] 24)) gx Ax cx (Lx) (nx) ∧ Src W b (wr.alloc (.cells #[.slice A L.length c, .int .i64 n] 24)) ∧ Three gs (wr.alloc (.cells #[.slice A L.length c, .int .i64 n] 24)) ∧ Below w.heap.size w (wr.alloc (.cells #[.slice A L.length c, .int .i64 n] 24))) := Lib.hid ⟨Bx.new hB, M.out.1.alloc _, M.out.2.1.under ((Below.refl _ _).alloc (Nat.le_refl _) _), M.out.2.2.1.under ((Below.refl _ _).alloc (Nat.le_refl _) _), alloc_below M.out.2.2.2 (Nat.le_refl _) _⟩
        have G17 : Hid (wr.heap.size ≠ b) := Lib.hid (by have := M.out.2.1.lt; omega)
        clear M hB hn
        go_upto_region 10 with fail
        refine forget (fun Y => Hid (Bx Y wr.heap.size A c (L) (n) ∧ Bx Y gx Ax cx (Lx) (nx) ∧ Src W b Y ∧ Three gs Y ∧ Below w.heap.size w Y)) X9 ?_
        clear X9 q0 q1
        generalize wr.heap.size = g17 at G17 ⊢
        intro Y9 X9
        go_wp2_with fail
        refine (n_any W b _ 2 X9.out.2.2.1 (by decide) (by decide)).mono ?_
        rintro e Y10 ⟨x, ⟨xa, xb⟩, rfl, hs, hg⟩
        have X10 : Hid (Bx Y10 g17 A c (L) (n) ∧ Bx Y10 gx Ax cx (Lx) (nx) ∧ Src W b Y10 ∧ Three gs Y10 ∧ Below w.heap.size w Y10) := Lib.hid ⟨X9.out.1.read G17.out X9.out.2.2.1 hg, X9.out.2.1.read GX.out.1 X9.out.2.2.1 hg, hs, X9.out.2.2.2.1.read GS.out X9.out.2.2.1 hg, src_below HW.out hs⟩
        clear hs hg X9
        go_wp2_with fail
        refine (range_any W b _ 0 25 X10.out.2.2.1 (by decide) (by decide) (by decide) (by decide)).mono ?_
        rintro e Y11 ⟨y, ⟨ya, yb⟩, rfl, hs, hg⟩
        have X11 : Hid (Bx Y11 g17 A c (L) (n) ∧ Bx Y11 gx Ax cx (Lx) (nx) ∧ Src W b Y11 ∧ Three gs Y11 ∧ Below w.heap.size w Y11) := Lib.hid ⟨X10.out.1.read G17.out X10.out.2.2.1 hg, X10.out.2.1.read GX.out.1 X10.out.2.2.1 hg, hs, X10.out.2.2.2.1.read GS.out X10.out.2.2.1 hg, src_below HW.out hs⟩
        clear hs hg X10
        have X12 : Hid (Bx (Y11.alloc (.cells #[.int .i64 value, .int .i64 width, .int .i64 vv, .int .i64 K, .int .i64 vv, .int .i64 width, .int .i64 (vv + x), .int .i64 y] 34)) g17 A c (L) (n) ∧ Bx (Y11.alloc (.cells #[.int .i64 value, .int .i64 width, .int .i64 vv, .int .i64 K, .int .i64 vv, .int .i64 width, .int .i64 (vv + x), .int .i64 y] 34)) gx Ax cx (Lx) (nx) ∧ Src W b (Y11.alloc (.cells #[.int .i64 value, .int .i64 width, .int .i64 vv, .int .i64 K, .int .i64 vv, .int .i64 width, .int .i64 (vv + x), .int .i64 y] 34)) ∧ Three gs (Y11.alloc (.cells #[.int .i64 value, .int .i64 width, .int .i64 vv, .int .i64 K, .int .i64 vv, .int .i64 width, .int .i64 (vv + x), .int .i64 y] 34)) ∧ Four Y11.heap.size (Y11.alloc (.cells #[.int .i64 value, .int .i64 width, .int .i64 vv, .int .i64 K, .int .i64 vv, .int .i64 width, .int .i64 (vv + x), .int .i64 y] 34)) ∧ Below w.heap.size w (Y11.alloc (.cells #[.int .i64 value, .int .i64 width, .int .i64 vv, .int .i64 K, .int .i64 vv, .int .i64 width, .int .i64 (vv + x), .int .i64 y] 34))) := Lib.hid ⟨X11.out.1.alloc _, X11.out.2.1.alloc _, X11.out.2.2.1.under ((Below.refl _ _).alloc (Nat.le_refl _) _), X11.out.2.2.2.1.under ((Below.refl _ _).alloc (Nat.le_refl _) _), four_new Y11 _ _ _ _ _ _ _ _, alloc_below X11.out.2.2.2.2 (Nat.le_refl _) _⟩
        have GP : Hid (Y11.heap.size ≠ b) := Lib.hid (by have := X11.out.2.2.1.lt; omega)
        clear X11
        go_wp2_with fail
        refine forget (fun Y => Hid (Bx Y g17 A c (L) (n) ∧ Bx Y gx Ax cx (Lx) (nx) ∧ Src W b Y ∧ Three gs Y ∧ Four Y11.heap.size Y ∧ Below w.heap.size w Y)) X12 ?_
        clear X12
        generalize Y11.heap.size = gp at GP ⊢
        intro Y12 X12
        go_loopw [83] (fun t Y => ∃ j : Nat, j ≤ 4 ∧ t = .int .i64 j ∧ Hid (Bx Y g17 A c (L) (n) ∧ Bx Y gx Ax cx (Lx) (nx) ∧ Src W b Y ∧ Three gs Y ∧ Four gp Y ∧ Below w.heap.size w Y)) (fun t _ => 4 - (intOf t).toNat)
        case atStart => exact ⟨0, by decide, rfl, X12⟩
        case round =>
          clear X12
          obtain ⟨j, hj, rfl, M⟩ := hrel
          by_cases hlt2 : j < 4
          · have j0 : (0 : Int) ≤ (j : Int) := by omega
            have j1 : (j : Int) < 4 := by omega
            obtain ⟨p, q, q0, q1⟩ := M.out.2.2.2.2.1.2 j hlt2
            have X13 : Hid (Bx (wr.alloc (.cells #[.int .i64 p, .int .i64 q] 34)) g17 A c (L) (n) ∧ Bx (wr.alloc (.cells #[.int .i64 p, .int .i64 q] 34)) gx Ax cx (Lx) (nx) ∧ Src W b (wr.alloc (.cells #[.int .i64 p, .int .i64 q] 34)) ∧ Three gs (wr.alloc (.cells #[.int .i64 p, .int .i64 q] 34)) ∧ Four gp (wr.alloc (.cells #[.int .i64 p, .int .i64 q] 34)) ∧ Row (wr.alloc (.cells #[.int .i64 p, .int .i64 q] 34)) wr.heap.size 34 #[.int .i64 p, .int .i64 q] ∧ Below w.heap.size w (wr.alloc (.cells #[.int .i64 p, .int .i64 q] 34))) := Lib.hid ⟨M.out.1.alloc _, M.out.2.1.alloc _, M.out.2.2.1.under ((Below.refl _ _).alloc (Nat.le_refl _) _), M.out.2.2.2.1.under ((Below.refl _ _).alloc (Nat.le_refl _) _), M.out.2.2.2.2.1.under ((Below.refl _ _).alloc (Nat.le_refl _) _), Row.new _ _ _, alloc_below M.out.2.2.2.2.2 (Nat.le_refl _) _⟩
            have G19 : Hid (wr.heap.size ≠ b) := Lib.hid (by have := M.out.2.2.1.lt; omega)
            clear M
            go_upto_region 13 with fail
            refine forget (fun Y => Hid (Bx Y g17 A c (L) (n) ∧ Bx Y gx Ax cx (Lx) (nx) ∧ Src W b Y ∧ Three gs Y ∧ Four gp Y ∧ Row Y wr.heap.size 34 #[.int .i64 p, .int .i64 q] ∧ Below w.heap.size w Y)) X13 ?_
            clear X13 q0 q1
            generalize wr.heap.size = g19 at G19 ⊢
            intro Y13 X13
            obtain ⟨q0, q1⟩ := row2 X13.out.2.2.2.2.2.1
            obtain ⟨p0_0, p0_1⟩ := row2 X13.out.1.1
            go_wp2_with fail
            refine (append_any Y13 A c L n p q X13.out.1.2 HN.out.1 HN.out.2).mono ?_
            rintro e w21 ⟨A21, c21, rfl, HP, hb⟩
            have X21 : Hid (Bx (w21.alloc (.cells #[.slice A21 ((appA L n p q).L).length c21, .int .i64 ((appA L n p q).n)] 24)) w21.heap.size A21 c21 ((appA L n p q).L) ((appA L n p q).n) ∧ Bx (w21.alloc (.cells #[.slice A21 ((appA L n p q).L).length c21, .int .i64 ((appA L n p q).n)] 24)) g17 A c (L) (n) ∧ Bx (w21.alloc (.cells #[.slice A21 ((appA L n p q).L).length c21, .int .i64 ((appA L n p q).n)] 24)) gx Ax cx (Lx) (nx) ∧ Src W b (w21.alloc (.cells #[.slice A21 ((appA L n p q).L).length c21, .int .i64 ((appA L n p q).n)] 24)) ∧ Three gs (w21.alloc (.cells #[.slice A21 ((appA L n p q).L).length c21, .int .i64 ((appA L n p q).n)] 24)) ∧ Four gp (w21.alloc (.cells #[.slice A21 ((appA L n p q).L).length c21, .int .i64 ((appA L n p q).n)] 24)) ∧ Row (w21.alloc (.cells #[.slice A21 ((appA L n p q).L).length c21, .int .i64 ((appA L n p q).n)] 24)) g19 34 #[.int .i64 p, .int .i64 q] ∧ Below w.heap.size w (w21.alloc (.cells #[.slice A21 ((appA L n p q).L).length c21, .int .i64 ((appA L n p q).n)] 24))) := Lib.hid ⟨Bx.new HP, (X13.out.1.under hb).alloc _, (X13.out.2.1.under hb).alloc _, (X13.out.2.2.1.under hb).under ((Below.refl _ _).alloc (Nat.le_refl _) _), (X13.out.2.2.2.1.under hb).under ((Below.refl _ _).alloc (Nat.le_refl _) _), (X13.out.2.2.2.2.1.under hb).under ((Below.refl _ _).alloc (Nat.le_refl _) _), (X13.out.2.2.2.2.2.1.under hb).under ((Below.refl _ _).alloc (Nat.le_refl _) _), alloc_below (X13.out.2.2.2.2.2.2.trans (hb.mono (X13.out.2.2.2.2.2.2.size))) (Nat.le_refl _) _⟩
            clear HP hb X13 p0_0 p0_1 q0 q1
            go_upto_region 14 with fail
            refine forget (fun Y => Hid (Bx Y w21.heap.size A21 c21 ((appA L n p q).L) ((appA L n p q).n) ∧ Bx Y g17 A c (L) (n) ∧ Bx Y gx Ax cx (Lx) (nx) ∧ Src W b Y ∧ Three gs Y ∧ Four gp Y ∧ Row Y g19 34 #[.int .i64 p, .int .i64 q] ∧ Below w.heap.size w Y)) X21 ?_
            clear X21
            generalize w21.heap.size = g20
            intro Y21 X21
            obtain ⟨p0_0, p0_1⟩ := row2 X21.out.2.1.1
            obtain ⟨q0, q1⟩ := row2 X21.out.2.2.2.2.2.2.1
            go_wp2_with fail
            refine (refAppend_any Y21 A c L n p q X21.out.2.1.2 HN.out.1 HN.out.2).mono ?_
            rintro e w22 ⟨A22, c22, rfl, HP, hb⟩
            have X22 : Hid (Bx (w22.alloc (.cells #[.slice A22 ((appA L n p q).L).length c22, .int .i64 ((appA L n p q).n)] 24)) w22.heap.size A22 c22 ((appA L n p q).L) ((appA L n p q).n) ∧ Bx (w22.alloc (.cells #[.slice A22 ((appA L n p q).L).length c22, .int .i64 ((appA L n p q).n)] 24)) g20 A21 c21 ((appA L n p q).L) ((appA L n p q).n) ∧ Bx (w22.alloc (.cells #[.slice A22 ((appA L n p q).L).length c22, .int .i64 ((appA L n p q).n)] 24)) g17 A c (L) (n) ∧ Bx (w22.alloc (.cells #[.slice A22 ((appA L n p q).L).length c22, .int .i64 ((appA L n p q).n)] 24)) gx Ax cx (Lx) (nx) ∧ Src W b (w22.alloc (.cells #[.slice A22 ((appA L n p q).L).length c22, .int .i64 ((appA L n p q).n)] 24)) ∧ Three gs (w22.alloc (.cells #[.slice A22 ((appA L n p q).L).length c22, .int .i64 ((appA L n p q).n)] 24)) ∧ Four gp (w22.alloc (.cells #[.slice A22 ((appA L n p q).L).length c22, .int .i64 ((appA L n p q).n)] 24)) ∧ Row (w22.alloc (.cells #[.slice A22 ((appA L n p q).L).length c22, .int .i64 ((appA L n p q).n)] 24)) g19 34 #[.int .i64 p, .int .i64 q] ∧ Below w.heap.size w (w22.alloc (.cells #[.slice A22 ((appA L n p q).L).length c22, .int .i64 ((appA L n p q).n)] 24))) := Lib.hid ⟨Bx.new HP, (X21.out.1.under hb).alloc _, (X21.out.2.1.under hb).alloc _, (X21.out.2.2.1.under hb).alloc _, (X21.out.2.2.2.1.under hb).under ((Below.refl _ _).alloc (Nat.le_refl _) _), (X21.out.2.2.2.2.1.under hb).under ((Below.refl _ _).alloc (Nat.le_refl _) _), (X21.out.2.2.2.2.2.1.under hb).under ((Below.refl _ _).alloc (Nat.le_refl _) _), (X21.out.2.2.2.2.2.2.1.under hb).under ((Below.refl _ _).alloc (Nat.le_refl _) _), alloc_below (X21.out.2.2.2.2.2.2.2.trans (hb.mono (X21.out.2.2.2.2.2.2.2.size))) (Nat.le_refl _) _⟩
            clear HP hb X21 p0_0 p0_1 q0 q1
            go_upto_region 15 with fail
            refine forget (fun Y => Hid (Bx Y w22.heap.size A22 c22 ((appA L n p q).L) ((appA L n p q).n) ∧ Bx Y g20 A21 c21 ((appA L n p q).L) ((appA L n p q).n) ∧ Bx Y g17 A c (L) (n) ∧ Bx Y gx Ax cx (Lx) (nx) ∧ Src W b Y ∧ Three gs Y ∧ Four gp Y ∧ Row Y g19 34 #[.int .i64 p, .int .i64 q] ∧ Below w.heap.size w Y)) X22 ?_
            clear X22
            generalize w22.heap.size = g22
            intro Y22 X22
            obtain ⟨p0_0, p0_1⟩ := row2 X22.out.2.1.1
            obtain ⟨p1_0, p1_1⟩ := row2 X22.out.1.1
            generalize appA L n p q = ans at *
            go_wp2_with fail
            refine (refSame_yes Y22 A21 A22 c21 c22 ans.L ans.n X22.out.2.1.2 X22.out.1.2).mono ?_
            rintro e Y14 ⟨rfl, hb⟩
            have X14 : Hid (Bx Y14 g17 A c (L) (n) ∧ Bx Y14 gx Ax cx (Lx) (nx) ∧ Src W b Y14 ∧ Three gs Y14 ∧ Four gp Y14 ∧ Row Y14 g19 34 #[.int .i64 p, .int .i64 q] ∧ Below w.heap.size w Y14) := Lib.hid ⟨X22.out.2.2.1.under hb, X22.out.2.2.2.1.under hb, X22.out.2.2.2.2.1.under hb, X22.out.2.2.2.2.2.1.under hb, X22.out.2.2.2.2.2.2.1.under hb, X22.out.2.2.2.2.2.2.2.1.under hb, X22.out.2.2.2.2.2.2.2.2.trans (hb.mono X22.out.2.2.2.2.2.2.2.2.size)⟩
            clear hb X22 p0_0 p0_1 p1_0 p1_1
            go_upto_region 17 with fail
            generalize hzz : IntKind.i64.wrap (n - q) = zz
            have HZ := Lib.hid hzz
            clear hzz
            refine wp_region_held_drew (S := fun Y : World => (Y.cell? ⟨g17, 0, none⟩ = some (.slice A L.length c) ∧ Y.cell? ⟨g17, 1, none⟩ = some (.int .i64 n)) ∧ (Y.cell? ⟨g19, 0, none⟩ = some (.int .i64 p) ∧ Y.cell? ⟨g19, 1, none⟩ = some (.int .i64 q))) (by kernel_rfl) ⟨row2 X14.out.1.1, row2 X14.out.2.2.2.2.2.1⟩ (fun hHeld => ?_)
            have x1 := HZ.out
            refine wpAnyH_take (i := 0) (oi := ⟨some 114, _, _, _, _, none⟩) (v := ?_) rfl (by kernel_rfl) (by kernel_rfl) (by kernel_rfl) (fun _ _ _ h => h) (Or.inl ⟨by rfl, ?_⟩) (by assumption) ?_
            case refine_2 => (intro wx hSx; (try dsimp only at hSx); go_simp; first | done | with_reducible rfl)
            try simp only [Act.put, List.setIfInBounds_toArray, List.set_cons_zero, List.set_cons_succ]
            refine wpAnyH_take (i := 1) (oi := ⟨some 115, _, _, _, _, none⟩) (v := ?_) rfl (by kernel_rfl) (by kernel_rfl) (by kernel_rfl) (fun _ _ _ h => h) (Or.inl ⟨by rfl, ?_⟩) (by assumption) ?_
            case refine_2 => (intro wx hSx; (try dsimp only at hSx); go_simp; first | done | with_reducible rfl)
            try simp only [Act.put, List.setIfInBounds_toArray, List.set_cons_zero, List.set_cons_succ]
            refine wpAnyH_take (i := 3) (oi := ⟨some 117, _, _, _, _, none⟩) (v := ?_) rfl (by kernel_rfl) (by kernel_rfl) (by kernel_rfl) (fun _ _ _ h => h) (Or.inl ⟨by rfl, ?_⟩) (by assumption) ?_
            case refine_2 => (intro wx hSx; (try dsimp only at hSx); go_simp; first | done | with_reducible rfl)
            try simp only [Act.put, List.setIfInBounds_toArray, List.set_cons_zero, List.set_cons_succ]
            refine wpAnyH_take (i := 4) (oi := ⟨some 118, _, _, _, _, none⟩) (v := ?_) rfl (by kernel_rfl) (by kernel_rfl) (by kernel_rfl) (fun _ _ _ h => h) (Or.inl ⟨by rfl, ?_⟩) (by assumption) ?_
            case refine_2 => (intro wx hSx; (try dsimp only at hSx); go_simp; first | done | with_reducible rfl)
            try simp only [Act.put, List.setIfInBounds_toArray, List.set_cons_zero, List.set_cons_succ]
            refine wpAnyH_take (i := 5) (oi := ⟨some 119, _, _, _, _, none⟩) (v := ?_) rfl (by kernel_rfl) (by kernel_rfl) (by kernel_rfl) (fun _ _ _ h => h) (Or.inl ⟨by rfl, ?_⟩) (by assumption) ?_
            case refine_2 => (intro wx hSx; (try dsimp only at hSx); go_simp; first | done | with_reducible rfl)
            try simp only [Act.put, List.setIfInBounds_toArray, List.set_cons_zero, List.set_cons_succ]
            refine wpAnyH_take (i := 6) (oi := ⟨some 120, _, _, _, _, none⟩) (v := ?_) rfl (by kernel_rfl) (by kernel_rfl) (by kernel_rfl) (fun _ _ _ h => h) (Or.inl ⟨by rfl, ?_⟩) (by assumption) ?_
            case refine_2 => (intro wx hSx; (try dsimp only at hSx); go_simp; first | done | with_reducible rfl)
            try simp only [Act.put, List.setIfInBounds_toArray, List.set_cons_zero, List.set_cons_succ]
            refine wpAnyH_take (i := 7) (oi := ⟨some 121, _, _, _, _, none⟩) (v := ?_) rfl (by kernel_rfl) (by kernel_rfl) (by kernel_rfl) (fun _ _ _ h => h) (Or.inl ⟨by rfl, ?_⟩) (by assumption) ?_
            case refine_2 => (intro wx hSx; (try dsimp only at hSx); go_simp; first | done | with_reducible rfl)
            try simp only [Act.put, List.setIfInBounds_toArray, List.set_cons_zero, List.set_cons_succ]
            refine wpAnyH_take (i := 10) (oi := ⟨some 124, _, _, _, _, none⟩) (v := ?_) rfl (by kernel_rfl) (by kernel_rfl) (by kernel_rfl) (fun _ _ _ h => h) (Or.inl ⟨by rfl, ?_⟩) (by assumption) ?_
            case refine_2 => (intro wx hSx; (try dsimp only at hSx); go_simp; first | done | with_reducible rfl)
            try simp only [Act.put, List.setIfInBounds_toArray, List.set_cons_zero, List.set_cons_succ]
            clear x1
            have hd : Below Y14.heap.size Y14 Y14.drew := below_drewN (Below.refl _ _) 1
            have X15 : Hid (Bx Y14.drew g17 A c (L) (n) ∧ Bx Y14.drew gx Ax cx (Lx) (nx) ∧ Src W b Y14.drew ∧ Three gs Y14.drew ∧ Four gp Y14.drew ∧ Row Y14.drew g19 34 #[.int .i64 p, .int .i64 q] ∧ Below w.heap.size w Y14.drew) := Lib.hid ⟨X14.out.1.under hd, X14.out.2.1.under hd, X14.out.2.2.1.under hd, X14.out.2.2.2.1.under hd, X14.out.2.2.2.2.1.under hd, X14.out.2.2.2.2.2.1.under hd, X14.out.2.2.2.2.2.2.trans (hd.mono X14.out.2.2.2.2.2.2.size)⟩
            clear X14 hd
            generalize Y14.drew = Y15 at X15 hHeld ⊢
            refine wpAnyH_ready (rs := [2]) (by kernel_rfl) (by simp) ?_
            refine AllReadyH.cons (o := ⟨some 116, _, _, _, _, none⟩) rfl (fun Kx hK => ?_) AllReadyH.nil
            go_simp
            refine (range_any W b _ (-1) 40 X15.out.2.2.1 (by decide) (by decide) (by decide) (by decide)).mono ?_
            rintro e Y16 ⟨rr, -, rfl, hs, hg⟩
            have X16 : Hid (Bx Y16 g17 A c (L) (n) ∧ Bx Y16 gx Ax cx (Lx) (nx) ∧ Src W b Y16 ∧ Three gs Y16 ∧ Four gp Y16 ∧ Row Y16 g19 34 #[.int .i64 p, .int .i64 q] ∧ Below w.heap.size w Y16) := Lib.hid ⟨X15.out.1.read G17.out X15.out.2.2.1 hg, X15.out.2.1.read GX.out.1 X15.out.2.2.1 hg, hs, X15.out.2.2.2.1.read GS.out X15.out.2.2.1 hg, X15.out.2.2.2.2.1.read GP.out hg, X15.out.2.2.2.2.2.1.grown hg (fun e => G19.out (by injection e)), src_below HW.out hs⟩
            clear hs hg X15
            go_wp2_with fail
            refine hK.out _ _ ⟨row2 X16.out.1.1, row2 X16.out.2.2.2.2.2.1⟩ (fun hHeld2 => ?_)
            clear hK Kx hHeld
            try simp only [Act.put, List.setIfInBounds_toArray, List.set_cons_zero, List.set_cons_succ]
            refine wpAnyH_ready (rs := [8]) (by kernel_rfl) (by simp) ?_
            refine AllReadyH.cons (o := ⟨some 122, _, _, _, _, none⟩) rfl (fun Kx hK => ?_) AllReadyH.nil
            go_simp
            have X17 : Hid (Bx (Y16.alloc (.cells #[.int .i64 at_, .int .i64 rr, .int .i64 zz] 3)) g17 A c (L) (n) ∧ Bx (Y16.alloc (.cells #[.int .i64 at_, .int .i64 rr, .int .i64 zz] 3)) gx Ax cx (Lx) (nx) ∧ Src W b (Y16.alloc (.cells #[.int .i64 at_, .int .i64 rr, .int .i64 zz] 3)) ∧ Three gs (Y16.alloc (.cells #[.int .i64 at_, .int .i64 rr, .int .i64 zz] 3)) ∧ Four gp (Y16.alloc (.cells #[.int .i64 at_, .int .i64 rr, .int .i64 zz] 3)) ∧ Row (Y16.alloc (.cells #[.int .i64 at_, .int .i64 rr, .int .i64 zz] 3)) g19 34 #[.int .i64 p, .int .i64 q] ∧ Trip Y16.heap.size (Y16.alloc (.cells #[.int .i64 at_, .int .i64 rr, .int .i64 zz] 3)) ∧ Below w.heap.size w (Y16.alloc (.cells #[.int .i64 at_, .int .i64 rr, .int .i64 zz] 3))) := Lib.hid ⟨X16.out.1.alloc _, X16.out.2.1.alloc _, X16.out.2.2.1.under ((Below.refl _ _).alloc (Nat.le_refl _) _), X16.out.2.2.2.1.under ((Below.refl _ _).alloc (Nat.le_refl _) _), X16.out.2.2.2.2.1.under ((Below.refl _ _).alloc (Nat.le_refl _) _), X16.out.2.2.2.2.2.1.under ((Below.refl _ _).alloc (Nat.le_refl _) _), trip_new Y16 _ _ _, alloc_below X16.out.2.2.2.2.2.2 (Nat.le_refl _) _⟩
            clear X16 hHeld2
            refine hK.out _ _ ⟨row2 X17.out.1.1, row2 X17.out.2.2.2.2.2.1⟩ (fun hHeld => ?_)
            clear hK Kx
            try simp only [Act.put, List.setIfInBounds_toArray, List.set_cons_zero, List.set_cons_succ]
            refine genH (fun V => Hid (Bx V g17 A c (L) (n) ∧ Bx V gx Ax cx (Lx) (nx) ∧ Src W b V ∧ Three gs V ∧ Four gp V ∧ Row V g19 34 #[.int .i64 p, .int .i64 q] ∧ Trip Y16.heap.size V ∧ Below w.heap.size w V)) X17 ?_
            clear X17 hHeld
            generalize Y16.heap.size = gk
            intro Y17 X17
            have hHeld : (Y17.cell? ⟨g17, 0, none⟩ = some (.slice A L.length c) ∧ Y17.cell? ⟨g17, 1, none⟩ = some (.int .i64 n)) ∧ (Y17.cell? ⟨g19, 0, none⟩ = some (.int .i64 p) ∧ Y17.cell? ⟨g19, 1, none⟩ = some (.int .i64 q)) := ⟨row2 X17.out.1.1, row2 X17.out.2.2.2.2.2.1⟩
            refine wpAnyH_take (i := 9) (oi := ⟨some 123, _, _, _, _, none⟩) (v := ?_) rfl (by kernel_rfl) (by kernel_rfl) (by kernel_rfl) (fun _ _ _ h => h) (Or.inl ⟨by rfl, ?_⟩) (by assumption) ?_
            case refine_2 => (intro wx hSx; (try dsimp only at hSx); go_simp; first | done | with_reducible rfl)
            try simp only [Act.put, List.setIfInBounds_toArray, List.set_cons_zero, List.set_cons_succ]
            refine wpAnyH_done (by kernel_rfl) ?_ _
            clear hHeld
            go_wp2_with fail
            go_loopw [124] (fun t Y => ∃ m : Nat, m ≤ 3 ∧ t = .int .i64 m ∧ Hid (Bx Y g17 A c (L) (n) ∧ Bx Y gx Ax cx (Lx) (nx) ∧ Src W b Y ∧ Three gs Y ∧ Four gp Y ∧ Row Y g19 34 #[.int .i64 p, .int .i64 q] ∧ Trip gk Y ∧ Below w.heap.size w Y)) (fun t _ => 3 - (intOf t).toNat)
            case atStart => exact ⟨0, by decide, rfl, X17⟩
            case round =>
              clear X17
              obtain ⟨m, hm, rfl, M⟩ := hrel
              by_cases hlt3 : m < 3
              · have m0 : (0 : Int) ≤ (m : Int) := by omega
                have m1 : (m : Int) < 3 := by omega
                obtain ⟨kk, z0⟩ := M.out.2.2.2.2.2.2.1.2 m hlt3
                obtain ⟨q0, q1⟩ := row2 M.out.2.2.2.2.2.1
                obtain ⟨p0, p1⟩ := row2 M.out.1.1
                go_wp2_with fail
                refine (read_any wr A c L n kk q M.out.1.2 HN.out.1 HN.out.2).mono ?_
                rintro e Y18 ⟨rfl, hb⟩
                have X18 : Hid (Bx Y18 g17 A c (L) (n) ∧ Bx Y18 gx Ax cx (Lx) (nx) ∧ Src W b Y18 ∧ Three gs Y18 ∧ Four gp Y18 ∧ Row Y18 g19 34 #[.int .i64 p, .int .i64 q] ∧ Trip gk Y18 ∧ Below w.heap.size w Y18) := Lib.hid ⟨M.out.1.under hb, M.out.2.1.under hb, M.out.2.2.1.under hb, M.out.2.2.2.1.under hb, M.out.2.2.2.2.1.under hb, M.out.2.2.2.2.2.1.under hb, M.out.2.2.2.2.2.2.1.under hb, M.out.2.2.2.2.2.2.2.trans (hb.mono M.out.2.2.2.2.2.2.2.size)⟩
                clear hb M z0 q0 q1 p0 p1
                obtain ⟨q0, q1⟩ := row2 X18.out.2.2.2.2.2.1
                obtain ⟨p0, p1⟩ := row2 X18.out.1.1
                go_wp2_with fail
                refine (refRead_any Y18 A c L n kk q X18.out.1.2 HN.out.1 HN.out.2).mono ?_
                rintro e Y19 ⟨rfl, hb⟩
                have X19 : Hid (Bx Y19 g17 A c (L) (n) ∧ Bx Y19 gx Ax cx (Lx) (nx) ∧ Src W b Y19 ∧ Three gs Y19 ∧ Four gp Y19 ∧ Row Y19 g19 34 #[.int .i64 p, .int .i64 q] ∧ Trip gk Y19 ∧ Below w.heap.size w Y19) := Lib.hid ⟨X18.out.1.under hb, X18.out.2.1.under hb, X18.out.2.2.1.under hb, X18.out.2.2.2.1.under hb, X18.out.2.2.2.2.1.under hb, X18.out.2.2.2.2.2.1.under hb, X18.out.2.2.2.2.2.2.1.under hb, X18.out.2.2.2.2.2.2.2.trans (hb.mono X18.out.2.2.2.2.2.2.2.size)⟩
                clear hb X18 q0 q1 p0 p1
                generalize readA L n kk q = ra
                go_wp2_with fail
                go_roundw
                case rel => exact ⟨m + 1, by omega, by go_num, X19⟩
                case measure => simp [intOf]; omega
              · have m1 : ¬ (m : Int) < 3 := by omega
                go_wp2_with fail
                go_roundw
                case rel => exact ⟨j + 1, by omega, by go_num, Lib.hid ⟨M.out.1, M.out.2.1, M.out.2.2.1, M.out.2.2.2.1, M.out.2.2.2.2.1, M.out.2.2.2.2.2.2.2⟩⟩
                case measure => simp [intOf]; omega
          · have j1 : ¬ (j : Int) < 4 := by omega
            obtain ⟨p0_0, p0_1⟩ := row2 M.out.1.1
            obtain ⟨p1_0, p1_1⟩ := row2 M.out.2.1.1
            clear hlt2
            go_wp2_with fail
            refine (join_any wr A Ax c cx L Lx n nx M.out.1.2 M.out.2.1.2 HN.out.1 HN.out.2 HNx.out.1 HNx.out.2).mono ?_
            rintro e w41 ⟨A41, c41, rfl, HP, hb⟩
            have X41 : Hid (Bx (w41.alloc (.cells #[.slice A41 ((joinA L n Lx nx).L).length c41, .int .i64 ((joinA L n Lx nx).n)] 24)) w41.heap.size A41 c41 ((joinA L n Lx nx).L) ((joinA L n Lx nx).n) ∧ Bx (w41.alloc (.cells #[.slice A41 ((joinA L n Lx nx).L).length c41, .int .i64 ((joinA L n Lx nx).n)] 24)) g17 A c (L) (n) ∧ Bx (w41.alloc (.cells #[.slice A41 ((joinA L n Lx nx).L).length c41, .int .i64 ((joinA L n Lx nx).n)] 24)) gx Ax cx (Lx) (nx) ∧ Src W b (w41.alloc (.cells #[.slice A41 ((joinA L n Lx nx).L).length c41, .int .i64 ((joinA L n Lx nx).n)] 24)) ∧ Three gs (w41.alloc (.cells #[.slice A41 ((joinA L n Lx nx).L).length c41, .int .i64 ((joinA L n Lx nx).n)] 24)) ∧ Four gp (w41.alloc (.cells #[.slice A41 ((joinA L n Lx nx).L).length c41, .int .i64 ((joinA L n Lx nx).n)] 24)) ∧ Below w.heap.size w (w41.alloc (.cells #[.slice A41 ((joinA L n Lx nx).L).length c41, .int .i64 ((joinA L n Lx nx).n)] 24))) := Lib.hid ⟨Bx.new HP, (M.out.1.under hb).alloc _, (M.out.2.1.under hb).alloc _, (M.out.2.2.1.under hb).under ((Below.refl _ _).alloc (Nat.le_refl _) _), (M.out.2.2.2.1.under hb).under ((Below.refl _ _).alloc (Nat.le_refl _) _), (M.out.2.2.2.2.1.under hb).under ((Below.refl _ _).alloc (Nat.le_refl _) _), alloc_below (M.out.2.2.2.2.2.trans (hb.mono (M.out.2.2.2.2.2.size))) (Nat.le_refl _) _⟩
            clear HP hb M p0_0 p0_1 p1_0 p1_1 
            go_upto_region 27 with fail
            refine forget (fun Y => Hid (Bx Y w41.heap.size A41 c41 ((joinA L n Lx nx).L) ((joinA L n Lx nx).n) ∧ Bx Y g17 A c (L) (n) ∧ Bx Y gx Ax cx (Lx) (nx) ∧ Src W b Y ∧ Three gs Y ∧ Four gp Y ∧ Below w.heap.size w Y)) X41 ?_
            clear X41
            generalize w41.heap.size = g30
            intro Y41 X41
            obtain ⟨p0_0, p0_1⟩ := row2 X41.out.2.1.1
            obtain ⟨p1_0, p1_1⟩ := row2 X41.out.2.2.1.1
            go_wp2_with fail
            refine (refJoin_any Y41 A Ax c cx L Lx n nx X41.out.2.1.2 X41.out.2.2.1.2 HN.out.1 HN.out.2 HNx.out.1 HNx.out.2).mono ?_
            rintro e w42 ⟨A42, c42, rfl, HP, hb⟩
            have X42 : Hid (Bx (w42.alloc (.cells #[.slice A42 ((joinA L n Lx nx).L).length c42, .int .i64 ((joinA L n Lx nx).n)] 24)) w42.heap.size A42 c42 ((joinA L n Lx nx).L) ((joinA L n Lx nx).n) ∧ Bx (w42.alloc (.cells #[.slice A42 ((joinA L n Lx nx).L).length c42, .int .i64 ((joinA L n Lx nx).n)] 24)) g30 A41 c41 ((joinA L n Lx nx).L) ((joinA L n Lx nx).n) ∧ Bx (w42.alloc (.cells #[.slice A42 ((joinA L n Lx nx).L).length c42, .int .i64 ((joinA L n Lx nx).n)] 24)) g17 A c (L) (n) ∧ Bx (w42.alloc (.cells #[.slice A42 ((joinA L n Lx nx).L).length c42, .int .i64 ((joinA L n Lx nx).n)] 24)) gx Ax cx (Lx) (nx) ∧ Src W b (w42.alloc (.cells #[.slice A42 ((joinA L n Lx nx).L).length c42, .int .i64 ((joinA L n Lx nx).n)] 24)) ∧ Three gs (w42.alloc (.cells #[.slice A42 ((joinA L n Lx nx).L).length c42, .int .i64 ((joinA L n Lx nx).n)] 24)) ∧ Four gp (w42.alloc (.cells #[.slice A42 ((joinA L n Lx nx).L).length c42, .int .i64 ((joinA L n Lx nx).n)] 24)) ∧ Below w.heap.size w (w42.alloc (.cells #[.slice A42 ((joinA L n Lx nx).L).length c42, .int .i64 ((joinA L n Lx nx).n)] 24))) := Lib.hid ⟨Bx.new HP, (X41.out.1.under hb).alloc _, (X41.out.2.1.under hb).alloc _, (X41.out.2.2.1.under hb).alloc _, (X41.out.2.2.2.1.under hb).under ((Below.refl _ _).alloc (Nat.le_refl _) _), (X41.out.2.2.2.2.1.under hb).under ((Below.refl _ _).alloc (Nat.le_refl _) _), (X41.out.2.2.2.2.2.1.under hb).under ((Below.refl _ _).alloc (Nat.le_refl _) _), alloc_below (X41.out.2.2.2.2.2.2.trans (hb.mono (X41.out.2.2.2.2.2.2.size))) (Nat.le_refl _) _⟩
            clear HP hb X41 p0_0 p0_1 p1_0 p1_1 
            go_upto_region 28 with fail
            refine forget (fun Y => Hid (Bx Y w42.heap.size A42 c42 ((joinA L n Lx nx).L) ((joinA L n Lx nx).n) ∧ Bx Y g30 A41 c41 ((joinA L n Lx nx).L) ((joinA L n Lx nx).n) ∧ Bx Y g17 A c (L) (n) ∧ Bx Y gx Ax cx (Lx) (nx) ∧ Src W b Y ∧ Three gs Y ∧ Four gp Y ∧ Below w.heap.size w Y)) X42 ?_
            clear X42
            generalize w42.heap.size = g32
            intro Y42 X42
            obtain ⟨p0_0, p0_1⟩ := row2 X42.out.2.2.1.1
            go_wp2_with fail
            refine (pad_any Y42 A c L n X42.out.2.2.1.2 HN.out.1 HN.out.2).mono ?_
            rintro e w43 ⟨A43, c43, rfl, HP, hb⟩
            have X43 : Hid (Bx (w43.alloc (.cells #[.slice A43 ((padA L n).L).length c43, .int .i64 ((padA L n).n)] 24)) w43.heap.size A43 c43 ((padA L n).L) ((padA L n).n) ∧ Bx (w43.alloc (.cells #[.slice A43 ((padA L n).L).length c43, .int .i64 ((padA L n).n)] 24)) g32 A42 c42 ((joinA L n Lx nx).L) ((joinA L n Lx nx).n) ∧ Bx (w43.alloc (.cells #[.slice A43 ((padA L n).L).length c43, .int .i64 ((padA L n).n)] 24)) g30 A41 c41 ((joinA L n Lx nx).L) ((joinA L n Lx nx).n) ∧ Bx (w43.alloc (.cells #[.slice A43 ((padA L n).L).length c43, .int .i64 ((padA L n).n)] 24)) g17 A c (L) (n) ∧ Bx (w43.alloc (.cells #[.slice A43 ((padA L n).L).length c43, .int .i64 ((padA L n).n)] 24)) gx Ax cx (Lx) (nx) ∧ Src W b (w43.alloc (.cells #[.slice A43 ((padA L n).L).length c43, .int .i64 ((padA L n).n)] 24)) ∧ Three gs (w43.alloc (.cells #[.slice A43 ((padA L n).L).length c43, .int .i64 ((padA L n).n)] 24)) ∧ Four gp (w43.alloc (.cells #[.slice A43 ((padA L n).L).length c43, .int .i64 ((padA L n).n)] 24)) ∧ Below w.heap.size w (w43.alloc (.cells #[.slice A43 ((padA L n).L).length c43, .int .i64 ((padA L n).n)] 24))) := Lib.hid ⟨Bx.new HP, (X42.out.1.under hb).alloc _, (X42.out.2.1.under hb).alloc _, (X42.out.2.2.1.under hb).alloc _, (X42.out.2.2.2.1.under hb).alloc _, (X42.out.2.2.2.2.1.under hb).under ((Below.refl _ _).alloc (Nat.le_refl _) _), (X42.out.2.2.2.2.2.1.under hb).under ((Below.refl _ _).alloc (Nat.le_refl _) _), (X42.out.2.2.2.2.2.2.1.under hb).under ((Below.refl _ _).alloc (Nat.le_refl _) _), alloc_below (X42.out.2.2.2.2.2.2.2.trans (hb.mono (X42.out.2.2.2.2.2.2.2.size))) (Nat.le_refl _) _⟩
            clear HP hb X42 p0_0 p0_1 
            go_upto_region 29 with fail
            refine forget (fun Y => Hid (Bx Y w43.heap.size A43 c43 ((padA L n).L) ((padA L n).n) ∧ Bx Y g32 A42 c42 ((joinA L n Lx nx).L) ((joinA L n Lx nx).n) ∧ Bx Y g30 A41 c41 ((joinA L n Lx nx).L) ((joinA L n Lx nx).n) ∧ Bx Y g17 A c (L) (n) ∧ Bx Y gx Ax cx (Lx) (nx) ∧ Src W b Y ∧ Three gs Y ∧ Four gp Y ∧ Below w.heap.size w Y)) X43 ?_
            clear X43
            generalize w43.heap.size = g34
            intro Y43 X43
            obtain ⟨p0_0, p0_1⟩ := row2 X43.out.2.2.2.1.1
            go_wp2_with fail
            refine (refPad_any Y43 A c L n X43.out.2.2.2.1.2 HN.out.1 HN.out.2).mono ?_
            rintro e w44 ⟨A44, c44, rfl, HP, hb⟩
            have X44 : Hid (Bx (w44.alloc (.cells #[.slice A44 ((padA L n).L).length c44, .int .i64 ((padA L n).n)] 24)) w44.heap.size A44 c44 ((padA L n).L) ((padA L n).n) ∧ Bx (w44.alloc (.cells #[.slice A44 ((padA L n).L).length c44, .int .i64 ((padA L n).n)] 24)) g34 A43 c43 ((padA L n).L) ((padA L n).n) ∧ Bx (w44.alloc (.cells #[.slice A44 ((padA L n).L).length c44, .int .i64 ((padA L n).n)] 24)) g32 A42 c42 ((joinA L n Lx nx).L) ((joinA L n Lx nx).n) ∧ Bx (w44.alloc (.cells #[.slice A44 ((padA L n).L).length c44, .int .i64 ((padA L n).n)] 24)) g30 A41 c41 ((joinA L n Lx nx).L) ((joinA L n Lx nx).n) ∧ Bx (w44.alloc (.cells #[.slice A44 ((padA L n).L).length c44, .int .i64 ((padA L n).n)] 24)) g17 A c (L) (n) ∧ Bx (w44.alloc (.cells #[.slice A44 ((padA L n).L).length c44, .int .i64 ((padA L n).n)] 24)) gx Ax cx (Lx) (nx) ∧ Src W b (w44.alloc (.cells #[.slice A44 ((padA L n).L).length c44, .int .i64 ((padA L n).n)] 24)) ∧ Three gs (w44.alloc (.cells #[.slice A44 ((padA L n).L).length c44, .int .i64 ((padA L n).n)] 24)) ∧ Four gp (w44.alloc (.cells #[.slice A44 ((padA L n).L).length c44, .int .i64 ((padA L n).n)] 24)) ∧ Below w.heap.size w (w44.alloc (.cells #[.slice A44 ((padA L n).L).length c44, .int .i64 ((padA L n).n)] 24))) := Lib.hid ⟨Bx.new HP, (X43.out.1.under hb).alloc _, (X43.out.2.1.under hb).alloc _, (X43.out.2.2.1.under hb).alloc _, (X43.out.2.2.2.1.under hb).alloc _, (X43.out.2.2.2.2.1.under hb).alloc _, (X43.out.2.2.2.2.2.1.under hb).under ((Below.refl _ _).alloc (Nat.le_refl _) _), (X43.out.2.2.2.2.2.2.1.under hb).under ((Below.refl _ _).alloc (Nat.le_refl _) _), (X43.out.2.2.2.2.2.2.2.1.under hb).under ((Below.refl _ _).alloc (Nat.le_refl _) _), alloc_below (X43.out.2.2.2.2.2.2.2.2.trans (hb.mono (X43.out.2.2.2.2.2.2.2.2.size))) (Nat.le_refl _) _⟩
            clear HP hb X43 p0_0 p0_1 
            go_upto_region 30 with fail
            refine forget (fun Y => Hid (Bx Y w44.heap.size A44 c44 ((padA L n).L) ((padA L n).n) ∧ Bx Y g34 A43 c43 ((padA L n).L) ((padA L n).n) ∧ Bx Y g32 A42 c42 ((joinA L n Lx nx).L) ((joinA L n Lx nx).n) ∧ Bx Y g30 A41 c41 ((joinA L n Lx nx).L) ((joinA L n Lx nx).n) ∧ Bx Y g17 A c (L) (n) ∧ Bx Y gx Ax cx (Lx) (nx) ∧ Src W b Y ∧ Three gs Y ∧ Four gp Y ∧ Below w.heap.size w Y)) X44 ?_
            clear X44
            generalize w44.heap.size = g36
            intro Y44 X44
            generalize joinA L n Lx nx = aj at *
            generalize padA L n = ap at *
            refine wp_region_held_drew (S := fun Y : World => (Y.cell? ⟨g30, 0, none⟩ = some (.slice A41 (aj.L).length c41) ∧ Y.cell? ⟨g30, 1, none⟩ = some (.int .i64 (aj.n))) ∧ (Y.cell? ⟨g32, 0, none⟩ = some (.slice A42 (aj.L).length c42) ∧ Y.cell? ⟨g32, 1, none⟩ = some (.int .i64 (aj.n))) ∧ (Y.cell? ⟨g34, 0, none⟩ = some (.slice A43 (ap.L).length c43) ∧ Y.cell? ⟨g34, 1, none⟩ = some (.int .i64 (ap.n))) ∧ (Y.cell? ⟨g36, 0, none⟩ = some (.slice A44 (ap.L).length c44) ∧ Y.cell? ⟨g36, 1, none⟩ = some (.int .i64 (ap.n))) ∧ (Y.cell? ⟨g17, 0, none⟩ = some (.slice A (L).length c) ∧ Y.cell? ⟨g17, 1, none⟩ = some (.int .i64 (n))) ∧ (Y.cell? ⟨gx, 0, none⟩ = some (.slice Ax (Lx).length cx) ∧ Y.cell? ⟨gx, 1, none⟩ = some (.int .i64 (nx)))) (by kernel_rfl) ⟨row2 X44.out.2.2.2.1.1, row2 X44.out.2.2.1.1, row2 X44.out.2.1.1, row2 X44.out.1.1, row2 X44.out.2.2.2.2.1.1, row2 X44.out.2.2.2.2.2.1.1⟩ (fun hHeld => ?_)
            refine wpAnyH_take (i := 0) (oi := ⟨some 176, _, _, _, _, none⟩) (v := ?_) rfl (by kernel_rfl) (by kernel_rfl) (by kernel_rfl) (fun _ _ _ h => h) (Or.inl ⟨by rfl, ?_⟩) (by assumption) ?_
            case refine_2 => (intro wx hSx; (try dsimp only at hSx); go_simp; first | done | with_reducible rfl)
            try simp only [Act.put, List.setIfInBounds_toArray, List.set_cons_zero, List.set_cons_succ]
            refine wpAnyH_take (i := 1) (oi := ⟨some 177, _, _, _, _, none⟩) (v := ?_) rfl (by kernel_rfl) (by kernel_rfl) (by kernel_rfl) (fun _ _ _ h => h) (Or.inl ⟨by rfl, ?_⟩) (by assumption) ?_
            case refine_2 => (intro wx hSx; (try dsimp only at hSx); go_simp; first | done | with_reducible rfl)
            try simp only [Act.put, List.setIfInBounds_toArray, List.set_cons_zero, List.set_cons_succ]
            refine wpAnyH_take (i := 2) (oi := ⟨some 178, _, _, _, _, none⟩) (v := ?_) rfl (by kernel_rfl) (by kernel_rfl) (by kernel_rfl) (fun _ _ _ h => h) (Or.inl ⟨by rfl, ?_⟩) (by assumption) ?_
            case refine_2 => (intro wx hSx; (try dsimp only at hSx); go_simp; first | done | with_reducible rfl)
            try simp only [Act.put, List.setIfInBounds_toArray, List.set_cons_zero, List.set_cons_succ]
            refine wpAnyH_take (i := 3) (oi := ⟨some 179, _, _, _, _, none⟩) (v := ?_) rfl (by kernel_rfl) (by kernel_rfl) (by kernel_rfl) (fun _ _ _ h => h) (Or.inl ⟨by rfl, ?_⟩) (by assumption) ?_
            case refine_2 => (intro wx hSx; (try dsimp only at hSx); go_simp; first | done | with_reducible rfl)
            try simp only [Act.put, List.setIfInBounds_toArray, List.set_cons_zero, List.set_cons_succ]
            refine wpAnyH_take (i := 4) (oi := ⟨some 180, _, _, _, _, some _⟩) (v := ?_) rfl (by kernel_rfl) (by kernel_rfl) (by kernel_rfl) (fun _ _ _ h => h) (Or.inl ⟨by rfl, ?_⟩) (by assumption) ?_
            case refine_2 => (intro wx hSx; (try dsimp only at hSx); go_simp; first | done | with_reducible rfl)
            try simp only [Act.put, List.setIfInBounds_toArray, List.set_cons_zero, List.set_cons_succ]
            refine wpAnyH_take (i := 5) (oi := ⟨some 181, _, _, _, _, some _⟩) (v := ?_) rfl (by kernel_rfl) (by kernel_rfl) (by kernel_rfl) (fun _ _ _ h => h) (Or.inl ⟨by rfl, ?_⟩) (by assumption) ?_
            case refine_2 => (intro wx hSx; (try dsimp only at hSx); go_simp; first | done | with_reducible rfl)
            try simp only [Act.put, List.setIfInBounds_toArray, List.set_cons_zero, List.set_cons_succ]
            refine wpAnyH_take (i := 6) (oi := ⟨some 182, _, _, _, _, some _⟩) (v := ?_) rfl (by kernel_rfl) (by kernel_rfl) (by kernel_rfl) (fun _ _ _ h => h) (Or.inl ⟨by rfl, ?_⟩) (by assumption) ?_
            case refine_2 => (intro wx hSx; (try dsimp only at hSx); go_simp; first | done | with_reducible rfl)
            try simp only [Act.put, List.setIfInBounds_toArray, List.set_cons_zero, List.set_cons_succ]
            refine wpAnyH_take (i := 7) (oi := ⟨some 183, _, _, _, _, none⟩) (v := ?_) rfl (by kernel_rfl) (by kernel_rfl) (by kernel_rfl) (fun _ _ _ h => h) (Or.inl ⟨by rfl, ?_⟩) (by assumption) ?_
            case refine_2 => (intro wx hSx; (try dsimp only at hSx); go_simp; first | done | with_reducible rfl)
            try simp only [Act.put, List.setIfInBounds_toArray, List.set_cons_zero, List.set_cons_succ]
            refine wpAnyH_take (i := 8) (oi := ⟨some 184, _, _, _, _, none⟩) (v := ?_) rfl (by kernel_rfl) (by kernel_rfl) (by kernel_rfl) (fun _ _ _ h => h) (Or.inl ⟨by rfl, ?_⟩) (by assumption) ?_
            case refine_2 => (intro wx hSx; (try dsimp only at hSx); go_simp; first | done | with_reducible rfl)
            try simp only [Act.put, List.setIfInBounds_toArray, List.set_cons_zero, List.set_cons_succ]
            refine wpAnyH_take (i := 9) (oi := ⟨some 185, _, _, _, _, some _⟩) (v := ?_) rfl (by kernel_rfl) (by kernel_rfl) (by kernel_rfl) (fun _ _ _ h => h) (Or.inl ⟨by rfl, ?_⟩) (by assumption) ?_
            case refine_2 => (intro wx hSx; (try dsimp only at hSx); go_simp; first | done | with_reducible rfl)
            try simp only [Act.put, List.setIfInBounds_toArray, List.set_cons_zero, List.set_cons_succ]
            refine wpAnyH_take (i := 10) (oi := ⟨some 186, _, _, _, _, some _⟩) (v := ?_) rfl (by kernel_rfl) (by kernel_rfl) (by kernel_rfl) (fun _ _ _ h => h) (Or.inl ⟨by rfl, ?_⟩) (by assumption) ?_
            case refine_2 => (intro wx hSx; (try dsimp only at hSx); go_simp; first | done | with_reducible rfl)
            try simp only [Act.put, List.setIfInBounds_toArray, List.set_cons_zero, List.set_cons_succ]
            have hd : Below Y44.heap.size Y44 Y44.drew := below_drewN (Below.refl _ _) 1
            have XD : Hid (Bx Y44.drew g36 A44 c44 (ap.L) (ap.n) ∧ Bx Y44.drew g34 A43 c43 (ap.L) (ap.n) ∧ Bx Y44.drew g32 A42 c42 (aj.L) (aj.n) ∧ Bx Y44.drew g30 A41 c41 (aj.L) (aj.n) ∧ Bx Y44.drew g17 A c (L) (n) ∧ Bx Y44.drew gx Ax cx (Lx) (nx) ∧ Src W b Y44.drew ∧ Three gs Y44.drew ∧ Four gp Y44.drew ∧ Below w.heap.size w Y44.drew) := Lib.hid ⟨X44.out.1.under hd, X44.out.2.1.under hd, X44.out.2.2.1.under hd, X44.out.2.2.2.1.under hd, X44.out.2.2.2.2.1.under hd, X44.out.2.2.2.2.2.1.under hd, X44.out.2.2.2.2.2.2.1.under hd, X44.out.2.2.2.2.2.2.2.1.under hd, X44.out.2.2.2.2.2.2.2.2.1.under hd, X44.out.2.2.2.2.2.2.2.2.2.trans (hd.mono X44.out.2.2.2.2.2.2.2.2.2.size)⟩
            clear X44 hd
            generalize Y44.drew = YD at XD hHeld ⊢
            refine wpAnyH_ready (rs := [11]) (by kernel_rfl) (by simp) ?_
            refine AllReadyH.cons (o := ⟨some 187, _, _, _, _, some _⟩) rfl (fun Kx hK => ?_) AllReadyH.nil
            go_simp
            refine (refSame_yes YD A41 A42 c41 c42 _ _ XD.out.2.2.2.1.2 XD.out.2.2.1.2).mono ?_
            rintro e YE1 ⟨rfl, hb⟩
            have XE1 : Hid (Bx YE1 g36 A44 c44 (ap.L) (ap.n) ∧ Bx YE1 g34 A43 c43 (ap.L) (ap.n) ∧ Bx YE1 g32 A42 c42 (aj.L) (aj.n) ∧ Bx YE1 g30 A41 c41 (aj.L) (aj.n) ∧ Bx YE1 g17 A c (L) (n) ∧ Bx YE1 gx Ax cx (Lx) (nx) ∧ Src W b YE1 ∧ Three gs YE1 ∧ Four gp YE1 ∧ Below w.heap.size w YE1) := Lib.hid ⟨XD.out.1.under hb, XD.out.2.1.under hb, XD.out.2.2.1.under hb, XD.out.2.2.2.1.under hb, XD.out.2.2.2.2.1.under hb, XD.out.2.2.2.2.2.1.under hb, XD.out.2.2.2.2.2.2.1.under hb, XD.out.2.2.2.2.2.2.2.1.under hb, XD.out.2.2.2.2.2.2.2.2.1.under hb, XD.out.2.2.2.2.2.2.2.2.2.trans (hb.mono XD.out.2.2.2.2.2.2.2.2.2.size)⟩
            clear hb XD
            go_wp2_with fail
            refine hK.out _ _ ⟨row2 XE1.out.2.2.2.1.1, row2 XE1.out.2.2.1.1, row2 XE1.out.2.1.1, row2 XE1.out.1.1, row2 XE1.out.2.2.2.2.1.1, row2 XE1.out.2.2.2.2.2.1.1⟩ (fun hHeld2 => ?_)
            clear hK Kx hHeld
            have hHeld := hHeld2
            clear hHeld2
            try simp only [Act.put, List.setIfInBounds_toArray, List.set_cons_zero, List.set_cons_succ]
            refine wpAnyH_take (i := 12) (oi := ⟨some 188, _, _, _, _, some _⟩) (v := ?_) rfl (by kernel_rfl) (by kernel_rfl) (by kernel_rfl) (fun _ _ _ h => h) (Or.inl ⟨by rfl, ?_⟩) (by assumption) ?_
            case refine_2 => (intro wx hSx; (try dsimp only at hSx); go_simp; first | done | with_reducible rfl)
            try simp only [Act.put, List.setIfInBounds_toArray, List.set_cons_zero, List.set_cons_succ]
            refine wpAnyH_take (i := 13) (oi := ⟨some 189, _, _, _, _, none⟩) (v := ?_) rfl (by kernel_rfl) (by kernel_rfl) (by kernel_rfl) (fun _ _ _ h => h) (Or.inl ⟨by rfl, ?_⟩) (by assumption) ?_
            case refine_2 => (intro wx hSx; (try dsimp only at hSx); go_simp; first | done | with_reducible rfl)
            try simp only [Act.put, List.setIfInBounds_toArray, List.set_cons_zero, List.set_cons_succ]
            refine wpAnyH_take (i := 14) (oi := ⟨some 190, _, _, _, _, none⟩) (v := ?_) rfl (by kernel_rfl) (by kernel_rfl) (by kernel_rfl) (fun _ _ _ h => h) (Or.inl ⟨by rfl, ?_⟩) (by assumption) ?_
            case refine_2 => (intro wx hSx; (try dsimp only at hSx); go_simp; first | done | with_reducible rfl)
            try simp only [Act.put, List.setIfInBounds_toArray, List.set_cons_zero, List.set_cons_succ]
            refine wpAnyH_take (i := 15) (oi := ⟨some 191, _, _, _, _, some _⟩) (v := ?_) rfl (by kernel_rfl) (by kernel_rfl) (by kernel_rfl) (fun _ _ _ h => h) (Or.inl ⟨by rfl, ?_⟩) (by assumption) ?_
            case refine_2 => (intro wx hSx; (try dsimp only at hSx); go_simp; first | done | with_reducible rfl)
            try simp only [Act.put, List.setIfInBounds_toArray, List.set_cons_zero, List.set_cons_succ]
            refine wpAnyH_take (i := 16) (oi := ⟨some 192, _, _, _, _, some _⟩) (v := ?_) rfl (by kernel_rfl) (by kernel_rfl) (by kernel_rfl) (fun _ _ _ h => h) (Or.inl ⟨by rfl, ?_⟩) (by assumption) ?_
            case refine_2 => (intro wx hSx; (try dsimp only at hSx); go_simp; first | done | with_reducible rfl)
            try simp only [Act.put, List.setIfInBounds_toArray, List.set_cons_zero, List.set_cons_succ]
            refine wpAnyH_ready (rs := [17]) (by kernel_rfl) (by simp) ?_
            refine AllReadyH.cons (o := ⟨some 193, _, _, _, _, some _⟩) rfl (fun Kx hK => ?_) AllReadyH.nil
            go_simp
            refine (refSame_yes YE1 A43 A44 c43 c44 _ _ XE1.out.2.1.2 XE1.out.1.2).mono ?_
            rintro e YE2 ⟨rfl, hb⟩
            have XE2 : Hid (Bx YE2 g36 A44 c44 (ap.L) (ap.n) ∧ Bx YE2 g34 A43 c43 (ap.L) (ap.n) ∧ Bx YE2 g32 A42 c42 (aj.L) (aj.n) ∧ Bx YE2 g30 A41 c41 (aj.L) (aj.n) ∧ Bx YE2 g17 A c (L) (n) ∧ Bx YE2 gx Ax cx (Lx) (nx) ∧ Src W b YE2 ∧ Three gs YE2 ∧ Four gp YE2 ∧ Below w.heap.size w YE2) := Lib.hid ⟨XE1.out.1.under hb, XE1.out.2.1.under hb, XE1.out.2.2.1.under hb, XE1.out.2.2.2.1.under hb, XE1.out.2.2.2.2.1.under hb, XE1.out.2.2.2.2.2.1.under hb, XE1.out.2.2.2.2.2.2.1.under hb, XE1.out.2.2.2.2.2.2.2.1.under hb, XE1.out.2.2.2.2.2.2.2.2.1.under hb, XE1.out.2.2.2.2.2.2.2.2.2.trans (hb.mono XE1.out.2.2.2.2.2.2.2.2.2.size)⟩
            clear hb XE1
            go_wp2_with fail
            refine hK.out _ _ ⟨row2 XE2.out.2.2.2.1.1, row2 XE2.out.2.2.1.1, row2 XE2.out.2.1.1, row2 XE2.out.1.1, row2 XE2.out.2.2.2.2.1.1, row2 XE2.out.2.2.2.2.2.1.1⟩ (fun hHeld2 => ?_)
            clear hK Kx hHeld
            have hHeld := hHeld2
            clear hHeld2
            try simp only [Act.put, List.setIfInBounds_toArray, List.set_cons_zero, List.set_cons_succ]
            refine wpAnyH_take (i := 18) (oi := ⟨some 194, _, _, _, _, some _⟩) (v := ?_) rfl (by kernel_rfl) (by kernel_rfl) (by kernel_rfl) (fun _ _ _ h => h) (Or.inl ⟨by rfl, ?_⟩) (by assumption) ?_
            case refine_2 => (intro wx hSx; (try dsimp only at hSx); go_simp; first | done | with_reducible rfl)
            try simp only [Act.put, List.setIfInBounds_toArray, List.set_cons_zero, List.set_cons_succ]
            refine wpAnyH_take (i := 19) (oi := ⟨some 195, _, _, _, _, none⟩) (v := ?_) rfl (by kernel_rfl) (by kernel_rfl) (by kernel_rfl) (fun _ _ _ h => h) (Or.inl ⟨by rfl, ?_⟩) (by assumption) ?_
            case refine_2 => (intro wx hSx; (try dsimp only at hSx); go_simp; first | done | with_reducible rfl)
            try simp only [Act.put, List.setIfInBounds_toArray, List.set_cons_zero, List.set_cons_succ]
            refine wpAnyH_take (i := 20) (oi := ⟨some 196, _, _, _, _, none⟩) (v := ?_) rfl (by kernel_rfl) (by kernel_rfl) (by kernel_rfl) (fun _ _ _ h => h) (Or.inl ⟨by rfl, ?_⟩) (by assumption) ?_
            case refine_2 => (intro wx hSx; (try dsimp only at hSx); go_simp; first | done | with_reducible rfl)
            try simp only [Act.put, List.setIfInBounds_toArray, List.set_cons_zero, List.set_cons_succ]
            refine wpAnyH_take (i := 21) (oi := ⟨some 197, _, _, _, _, some _⟩) (v := ?_) rfl (by kernel_rfl) (by kernel_rfl) (by kernel_rfl) (fun _ _ _ h => h) (Or.inl ⟨by rfl, ?_⟩) (by assumption) ?_
            case refine_2 => (intro wx hSx; (try dsimp only at hSx); go_simp; first | done | with_reducible rfl)
            try simp only [Act.put, List.setIfInBounds_toArray, List.set_cons_zero, List.set_cons_succ]
            refine wpAnyH_take (i := 23) (oi := ⟨some 199, _, _, _, _, some _⟩) (v := ?_) rfl (by kernel_rfl) (by kernel_rfl) (by kernel_rfl) (fun _ _ _ h => h) (Or.inl ⟨by rfl, ?_⟩) (by assumption) ?_
            case refine_2 => (intro wx hSx; (try dsimp only at hSx); go_simp; first | done | with_reducible rfl)
            try simp only [Act.put, List.setIfInBounds_toArray, List.set_cons_zero, List.set_cons_succ]
            refine wpAnyH_ready (rs := [22]) (by kernel_rfl) (by simp) ?_
            refine AllReadyH.cons (o := ⟨some 198, _, _, _, _, some _⟩) rfl (fun Kx hK => ?_) AllReadyH.nil
            go_simp
            refine (valid_any YE2 A c L n XE2.out.2.2.2.2.1.2 HN.out.1 HN.out.2).mono ?_
            rintro e YE3 ⟨rfl, hb⟩
            have XE3 : Hid (Bx YE3 g36 A44 c44 (ap.L) (ap.n) ∧ Bx YE3 g34 A43 c43 (ap.L) (ap.n) ∧ Bx YE3 g32 A42 c42 (aj.L) (aj.n) ∧ Bx YE3 g30 A41 c41 (aj.L) (aj.n) ∧ Bx YE3 g17 A c (L) (n) ∧ Bx YE3 gx Ax cx (Lx) (nx) ∧ Src W b YE3 ∧ Three gs YE3 ∧ Four gp YE3 ∧ Below w.heap.size w YE3) := Lib.hid ⟨XE2.out.1.under hb, XE2.out.2.1.under hb, XE2.out.2.2.1.under hb, XE2.out.2.2.2.1.under hb, XE2.out.2.2.2.2.1.under hb, XE2.out.2.2.2.2.2.1.under hb, XE2.out.2.2.2.2.2.2.1.under hb, XE2.out.2.2.2.2.2.2.2.1.under hb, XE2.out.2.2.2.2.2.2.2.2.1.under hb, XE2.out.2.2.2.2.2.2.2.2.2.trans (hb.mono XE2.out.2.2.2.2.2.2.2.2.2.size)⟩
            clear hb XE2
            go_wp2_with fail
            refine hK.out _ _ ⟨row2 XE3.out.2.2.2.1.1, row2 XE3.out.2.2.1.1, row2 XE3.out.2.1.1, row2 XE3.out.1.1, row2 XE3.out.2.2.2.2.1.1, row2 XE3.out.2.2.2.2.2.1.1⟩ (fun hHeld2 => ?_)
            clear hK Kx hHeld
            have hHeld := hHeld2
            clear hHeld2
            try simp only [Act.put, List.setIfInBounds_toArray, List.set_cons_zero, List.set_cons_succ]
            refine wpAnyH_ready (rs := [24]) (by kernel_rfl) (by simp) ?_
            refine AllReadyH.cons (o := ⟨some 200, _, _, _, _, some _⟩) rfl (fun Kx hK => ?_) AllReadyH.nil
            go_simp
            refine (refValid_any YE3 A c L n XE3.out.2.2.2.2.1.2 HN.out.1 HN.out.2).mono ?_
            rintro e YE4 ⟨rfl, hb⟩
            have XE4 : Hid (Bx YE4 g36 A44 c44 (ap.L) (ap.n) ∧ Bx YE4 g34 A43 c43 (ap.L) (ap.n) ∧ Bx YE4 g32 A42 c42 (aj.L) (aj.n) ∧ Bx YE4 g30 A41 c41 (aj.L) (aj.n) ∧ Bx YE4 g17 A c (L) (n) ∧ Bx YE4 gx Ax cx (Lx) (nx) ∧ Src W b YE4 ∧ Three gs YE4 ∧ Four gp YE4 ∧ Below w.heap.size w YE4) := Lib.hid ⟨XE3.out.1.under hb, XE3.out.2.1.under hb, XE3.out.2.2.1.under hb, XE3.out.2.2.2.1.under hb, XE3.out.2.2.2.2.1.under hb, XE3.out.2.2.2.2.2.1.under hb, XE3.out.2.2.2.2.2.2.1.under hb, XE3.out.2.2.2.2.2.2.2.1.under hb, XE3.out.2.2.2.2.2.2.2.2.1.under hb, XE3.out.2.2.2.2.2.2.2.2.2.trans (hb.mono XE3.out.2.2.2.2.2.2.2.2.2.size)⟩
            clear hb XE3
            generalize vb L n = bv
            go_wp2_with fail
            refine hK.out _ _ ⟨row2 XE4.out.2.2.2.1.1, row2 XE4.out.2.2.1.1, row2 XE4.out.2.1.1, row2 XE4.out.1.1, row2 XE4.out.2.2.2.2.1.1, row2 XE4.out.2.2.2.2.2.1.1⟩ (fun hHeld2 => ?_)
            clear hK Kx hHeld
            have hHeld := hHeld2
            clear hHeld2
            try simp only [Act.put, List.setIfInBounds_toArray, List.set_cons_zero, List.set_cons_succ]
            refine wpAnyH_take (i := 25) (oi := ⟨some 201, _, _, _, _, some _⟩) (v := ?_) rfl (by kernel_rfl) (by kernel_rfl) (by kernel_rfl) (fun _ _ _ h => h) (Or.inl ⟨by rfl, ?_⟩) (by assumption) ?_
            case refine_2 => (intro wx hSx; (try dsimp only at hSx); go_simp; first | done | with_reducible rfl)
            try simp only [Act.put, List.setIfInBounds_toArray, List.set_cons_zero, List.set_cons_succ]
            refine wpAnyH_take (i := 26) (oi := ⟨some 202, _, _, _, _, none⟩) (v := ?_) rfl (by kernel_rfl) (by kernel_rfl) (by kernel_rfl) (fun _ _ _ h => h) (Or.inl ⟨by rfl, ?_⟩) (by assumption) ?_
            case refine_2 => (intro wx hSx; (try dsimp only at hSx); go_simp; first | done | with_reducible rfl)
            try simp only [Act.put, List.setIfInBounds_toArray, List.set_cons_zero, List.set_cons_succ]
            refine wpAnyH_take (i := 27) (oi := ⟨some 203, _, _, _, _, none⟩) (v := ?_) rfl (by kernel_rfl) (by kernel_rfl) (by kernel_rfl) (fun _ _ _ h => h) (Or.inl ⟨by rfl, ?_⟩) (by assumption) ?_
            case refine_2 => (intro wx hSx; (try dsimp only at hSx); go_simp; first | done | with_reducible rfl)
            try simp only [Act.put, List.setIfInBounds_toArray, List.set_cons_zero, List.set_cons_succ]
            refine wpAnyH_take (i := 28) (oi := ⟨some 204, _, _, _, _, some _⟩) (v := ?_) rfl (by kernel_rfl) (by kernel_rfl) (by kernel_rfl) (fun _ _ _ h => h) (Or.inl ⟨by rfl, ?_⟩) (by assumption) ?_
            case refine_2 => (intro wx hSx; (try dsimp only at hSx); go_simp; first | done | with_reducible rfl)
            try simp only [Act.put, List.setIfInBounds_toArray, List.set_cons_zero, List.set_cons_succ]
            refine wpAnyH_take (i := 29) (oi := ⟨some 205, _, _, _, _, some _⟩) (v := ?_) rfl (by kernel_rfl) (by kernel_rfl) (by kernel_rfl) (fun _ _ _ h => h) (Or.inl ⟨by rfl, ?_⟩) (by assumption) ?_
            case refine_2 => (intro wx hSx; (try dsimp only at hSx); go_simp; first | done | with_reducible rfl)
            try simp only [Act.put, List.setIfInBounds_toArray, List.set_cons_zero, List.set_cons_succ]
            refine wpAnyH_take (i := 31) (oi := ⟨some 207, _, _, _, _, some _⟩) (v := ?_) rfl (by kernel_rfl) (by kernel_rfl) (by kernel_rfl) (fun _ _ _ h => h) (Or.inl ⟨by rfl, ?_⟩) (by assumption) ?_
            case refine_2 => (intro wx hSx; (try dsimp only at hSx); go_simp; first | done | with_reducible rfl)
            try simp only [Act.put, List.setIfInBounds_toArray, List.set_cons_zero, List.set_cons_succ]
            refine wpAnyH_take (i := 32) (oi := ⟨some 208, _, _, _, _, some _⟩) (v := ?_) rfl (by kernel_rfl) (by kernel_rfl) (by kernel_rfl) (fun _ _ _ h => h) (Or.inl ⟨by rfl, ?_⟩) (by assumption) ?_
            case refine_2 => (intro wx hSx; (try dsimp only at hSx); go_simp; first | done | with_reducible rfl)
            try simp only [Act.put, List.setIfInBounds_toArray, List.set_cons_zero, List.set_cons_succ]
            refine wpAnyH_ready (rs := [30]) (by kernel_rfl) (by simp) ?_
            refine AllReadyH.cons (o := ⟨some 206, _, _, _, _, some _⟩) rfl (fun Kx hK => ?_) AllReadyH.nil
            go_simp
            refine (same_any YE4 A Ax c cx L Lx n nx XE4.out.2.2.2.2.1.2 XE4.out.2.2.2.2.2.1.2).mono ?_
            rintro e YE5 ⟨rfl, hb⟩
            have XE5 : Hid (Bx YE5 g36 A44 c44 (ap.L) (ap.n) ∧ Bx YE5 g34 A43 c43 (ap.L) (ap.n) ∧ Bx YE5 g32 A42 c42 (aj.L) (aj.n) ∧ Bx YE5 g30 A41 c41 (aj.L) (aj.n) ∧ Bx YE5 g17 A c (L) (n) ∧ Bx YE5 gx Ax cx (Lx) (nx) ∧ Src W b YE5 ∧ Three gs YE5 ∧ Four gp YE5 ∧ Below w.heap.size w YE5) := Lib.hid ⟨XE4.out.1.under hb, XE4.out.2.1.under hb, XE4.out.2.2.1.under hb, XE4.out.2.2.2.1.under hb, XE4.out.2.2.2.2.1.under hb, XE4.out.2.2.2.2.2.1.under hb, XE4.out.2.2.2.2.2.2.1.under hb, XE4.out.2.2.2.2.2.2.2.1.under hb, XE4.out.2.2.2.2.2.2.2.2.1.under hb, XE4.out.2.2.2.2.2.2.2.2.2.trans (hb.mono XE4.out.2.2.2.2.2.2.2.2.2.size)⟩
            clear hb XE4
            generalize hbs : decide (n = nx ∧ L = Lx) = bs
            have HBS := Lib.hid hbs
            clear hbs
            go_wp2_with fail
            refine hK.out _ _ ⟨row2 XE5.out.2.2.2.1.1, row2 XE5.out.2.2.1.1, row2 XE5.out.2.1.1, row2 XE5.out.1.1, row2 XE5.out.2.2.2.2.1.1, row2 XE5.out.2.2.2.2.2.1.1⟩ (fun hHeld2 => ?_)
            clear hK Kx hHeld
            have hHeld := hHeld2
            clear hHeld2
            try simp only [Act.put, List.setIfInBounds_toArray, List.set_cons_zero, List.set_cons_succ]
            refine wpAnyH_ready (rs := [33]) (by kernel_rfl) (by simp) ?_
            refine AllReadyH.cons (o := ⟨some 209, _, _, _, _, some _⟩) rfl (fun Kx hK => ?_) AllReadyH.nil
            go_simp
            refine (refSame_any YE5 A Ax c cx L Lx n nx XE5.out.2.2.2.2.1.2 XE5.out.2.2.2.2.2.1.2).mono ?_
            rintro e YE6 ⟨rfl, hb⟩
            have XE6 : Hid (Bx YE6 g36 A44 c44 (ap.L) (ap.n) ∧ Bx YE6 g34 A43 c43 (ap.L) (ap.n) ∧ Bx YE6 g32 A42 c42 (aj.L) (aj.n) ∧ Bx YE6 g30 A41 c41 (aj.L) (aj.n) ∧ Bx YE6 g17 A c (L) (n) ∧ Bx YE6 gx Ax cx (Lx) (nx) ∧ Src W b YE6 ∧ Three gs YE6 ∧ Four gp YE6 ∧ Below w.heap.size w YE6) := Lib.hid ⟨XE5.out.1.under hb, XE5.out.2.1.under hb, XE5.out.2.2.1.under hb, XE5.out.2.2.2.1.under hb, XE5.out.2.2.2.2.1.under hb, XE5.out.2.2.2.2.2.1.under hb, XE5.out.2.2.2.2.2.2.1.under hb, XE5.out.2.2.2.2.2.2.2.1.under hb, XE5.out.2.2.2.2.2.2.2.2.1.under hb, XE5.out.2.2.2.2.2.2.2.2.2.trans (hb.mono XE5.out.2.2.2.2.2.2.2.2.2.size)⟩
            clear hb XE5
            rw [HBS.out]
            go_wp2_with fail
            refine hK.out _ _ ⟨row2 XE6.out.2.2.2.1.1, row2 XE6.out.2.2.1.1, row2 XE6.out.2.1.1, row2 XE6.out.1.1, row2 XE6.out.2.2.2.2.1.1, row2 XE6.out.2.2.2.2.2.1.1⟩ (fun hHeld2 => ?_)
            clear hK Kx hHeld
            have hHeld := hHeld2
            clear hHeld2
            try simp only [Act.put, List.setIfInBounds_toArray, List.set_cons_zero, List.set_cons_succ]
            refine wpAnyH_take (i := 34) (oi := ⟨some 210, _, _, _, _, some _⟩) (v := ?_) rfl (by kernel_rfl) (by kernel_rfl) (by kernel_rfl) (fun _ _ _ h => h) (Or.inl ⟨by rfl, ?_⟩) (by assumption) ?_
            case refine_2 => (intro wx hSx; (try dsimp only at hSx); go_simp; first | done | with_reducible rfl)
            try simp only [Act.put, List.setIfInBounds_toArray, List.set_cons_zero, List.set_cons_succ]
            refine wpAnyH_take (i := 35) (oi := ⟨some 211, _, _, _, _, none⟩) (v := ?_) rfl (by kernel_rfl) (by kernel_rfl) (by kernel_rfl) (fun _ _ _ h => h) (Or.inl ⟨by rfl, ?_⟩) (by assumption) ?_
            case refine_2 => (intro wx hSx; (try dsimp only at hSx); go_simp; first | done | with_reducible rfl)
            try simp only [Act.put, List.setIfInBounds_toArray, List.set_cons_zero, List.set_cons_succ]
            refine wpAnyH_done (by kernel_rfl) ?_ _
            clear hHeld
            go_wp2_with fail
            go_roundw
            case rel => exact ⟨i + 1, by omega, by go_num, Lib.hid ⟨XE6.out.2.2.2.2.2.1, XE6.out.2.2.2.2.2.2.1, XE6.out.2.2.2.2.2.2.2.1, XE6.out.2.2.2.2.2.2.2.2.2⟩⟩
            case measure => simp [intOf]; omega
      · have i1 : ¬ (i : Int) < 3 := by omega
        go_wp2_with fail
        refine (awake_any wr).mono ?_
        rintro e w31 ⟨rfl, hb⟩
        have B31 := Lib.hid (M.out.2.2.2.trans (hb.mono M.out.2.2.2.size))
        clear hb M
        go_wp2_with fail
        go_ret
        exact ⟨rfl, B31.out⟩
  · have h6' : ¬ (L0.length : Int) ≤ 6000 := by omega
    go_enter Try.func3, Try.ntmps3
    go_upto_region 1 with fail
    generalize w.alloc (.cells #[.slice A0 L0.length c0, .int .i64 n0] 24) = W at HX0 ⊢
    have HW : Hid (Below w.heap.size w W) := Lib.hid HX0.out.2.1
    obtain ⟨p0, p1⟩ := row2 HX0.out.1.1
    go_wp2_with fail
    refine (awake_any W).mono ?_
    rintro e w2 ⟨rfl, hb⟩
    have B2 := Lib.hid (HW.out.trans (hb.mono HW.out.size))
    clear hb p0 p1 HX0
    go_wp2_with fail
    go_ret
    exact ⟨rfl, B2.out⟩
end Go.Proofs.Ytjabnicflpeopaa
