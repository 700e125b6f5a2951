/- The contract of cellNodes. -/
import Derived.Test.YtehehhehilgnkaaGreatCln
namespace Go.Proofs.YtehehhehilgnkaaGreat
open Go.RowKit Go.Maps

/-- The cells before a point. -/
def cpre (n f a b : Nat) : List Lat.Tr := Lat.cls n f ++ Lat.cface n f a ++ Lat.crow n f a b
theorem cpre_len {n f a b : Nat} (hn : n ≤ 8) (hf : f < 20) (ha : a < n) (hb : b ≤ n - a) : (cpre n f a b).length ≤ 2000 := by
  unfold cpre
  rw [List.length_append, List.length_append, Lat.cls_len, Lat.crow_len ha b hb]
  have h1 := Lat.cface_len (n := n) (f := f) a (by omega)
  have h2 : n * n ≤ 64 := Nat.mul_le_mul hn hn
  have h3 : f * (n * n) ≤ 20 * 64 := Nat.mul_le_mul (by omega) h2
  omega
theorem cpre_b (n f a b : Nat) : cpre n f a (b + 1) = cpre n f a b ++ Lat.ctri n f a b := by unfold cpre; rw [Lat.crow_succ, ← List.append_assoc]
theorem cpre_a (n f a : Nat) : cpre n f a (n - a) = cpre n f (a + 1) 0 := by unfold cpre; rw [Lat.cface_succ]; simp [Lat.crow]
theorem cpre_f (n f : Nat) : cpre n f n 0 = cpre n (f + 1) 0 0 := by unfold cpre; rw [Lat.cls_succ]; simp [Lat.crow, Lat.cface]
theorem cpre_0 (n : Nat) : cpre n 0 0 0 = [] := by simp [cpre, Lat.cls, Lat.cface, Lat.crow]
theorem cpre_all (n : Nat) : cpre n 20 0 0 = Lat.cls n 20 := by simp [cpre, Lat.cface, Lat.crow]
/-- .. with some list. -/
def ClE (W : World) (n gl bl bv : Nat) (L : List Lat.Tr) (w : World) : Prop := ∃ g cap, Cl W n gl bl bv g cap L w
theorem ClE.under {W w w' : World} {n gl bl bv : Nat} {L : List Lat.Tr} (h : ClE W n gl bl bv L w) (hb : Below w.heap.size w w') : ClE W n gl bl bv L w' := by
  obtain ⟨g, cap, h⟩ := h
  exact ⟨g, cap, h.under hb⟩
/-- What cellNodes leaves. -/
def CellNR (W : World) (n : Nat) (e : Ending) (w : World) : Prop := ∃ g cap, e = .returned (.slice (some ⟨g, 0, none⟩) (Lat.cls n 20).length cap) ∧ Below W.heap.size W w ∧ w.ownsRow W.heap.size 57 3 (.slice (some ⟨g, 0, none⟩) (Lat.cls n 20).length cap) (Lat.cls n 20).length (tcs (Lat.cls n 20))
theorem below_new0 {w w' : World} (hg : w.grownBy w' none) : Below w.heap.size w w' := (Below.refl _ w).grown hg (Nat.le_refl _) (by simp)
set_option maxRecDepth 100000 in
theorem add_up (W : World) (n gl bl bv f a b : Nat) (c : Int) (L : List Lat.Tr) (w : World) (h : ClE W n gl bl bv L w) (hn : Lat.frq n) (hf : f < 20) (h0 : a + b < n) (hl : L.length ≤ 5000) :
    Calls Tryz.prog 37 #[.agg (tr12 f ((a : Int) + 1) b c a ((b : Int) + 1) c a b (c + 1)), .pointer (some ⟨bv, 0, none⟩), .pointer (some ⟨bl, 0, none⟩)] w (AddR W n gl bl bv (L ++ [Lat.up n f a b]) w) := by
  obtain ⟨g, cap, h⟩ := h
  exact add_any W n gl bl bv g cap f (a + 1) b a (b + 1) a b c c (c + 1) L w h hn hf (by omega) (by omega) (by omega) hl
set_option maxRecDepth 100000 in
theorem add_dn (W : World) (n gl bl bv f a b : Nat) (c c' : Int) (L : List Lat.Tr) (w : World) (h : ClE W n gl bl bv L w) (hn : Lat.frq n) (hf : f < 20) (h0 : a + b + 1 < n) (hl : L.length ≤ 5000) :
    Calls Tryz.prog 37 #[.agg (tr12 f a ((b : Int) + 1) c ((a : Int) + 1) b c ((a : Int) + 1) ((b : Int) + 1) c'), .pointer (some ⟨bv, 0, none⟩), .pointer (some ⟨bl, 0, none⟩)] w (AddR W n gl bl bv (L ++ [Lat.dn n f a b]) w) := by
  obtain ⟨g, cap, h⟩ := h
  exact add_any W n gl bl bv g cap f a (b + 1) (a + 1) b (a + 1) (b + 1) c c c' L w h hn hf (by omega) (by omega) (by omega) hl
set_option maxRecDepth 100000 in
set_option maxHeartbeats 8000000 in
theorem cellNodes_any (n : Nat) (w : World) (hn : Lat.frq n) :
    Calls Tryz.prog 19 #[.int .i64 n] w (CellNR w n) := by
  have hn8 : n ≤ 8 := hn.2
  obtain ⟨i0, hi, hz0, hz1, hz2⟩ := info_parts infoTrip
  have hmf : ∀ (fn : Fn) (first cap : Array Value) (w : World), (Instr.makeFunc fn first cap).run Tryz.prog w = .ok (.func fn first cap) w := fun _ _ _ _ => rfl
  have hm : 20 * n * n ≤ 1280 := by
    rw [Nat.mul_assoc]
    exact Nat.mul_le_mul (Nat.le_refl 20) (Nat.mul_le_mul hn8 hn8)
  have hm1 : 20 * (n : Int) * (n : Int) ≤ 1280 := by
    have : ((20 * n * n : Nat) : Int) ≤ 1280 := by omega
    exact this
  have hm0 : 0 ≤ 20 * (n : Int) * (n : Int) := by
    have : (0 : Int) ≤ ((20 * n * n : Nat) : Int) := by omega
    exact this
  have hn0 : 1 ≤ (n : Int) ∧ (n : Int) ≤ 8 := by unfold Lat.frq at hn; omega
  obtain ⟨hn1, hn2⟩ := hn0
  have HN := Lib.hid hn; clear hn
  go_enter Tryz.func19, Tryz.ntmps19
  go_upto_region 2 with (go_at_call 17; refine (lattice_any _ _ HN.out).mono ?_; rintro e w1 ⟨gl, rfl, hla⟩)
  have HL := Lib.hid hla; clear hla
  go_upto_region 3 with (at_make; refine wpList_make_own _ rfl _ _ 55 rfl w.heap.size 57 i0 _ 3 Tryz.underlying55 hi hz0 hz1 .i64 .i64 _ (20 * n * n) rfl rfl rfl (by rw [hz2]; omega) (by unfold maxLen; omega) (by have := HL.out.below.size; simp; omega) ?_; intro w2 hown2 hgrow2)
  have A1 := HL.out.alloc (.cells #[.pointer (some ⟨gl, 0, none⟩)] 52)
  have b2 := below_new0 hgrow2
  have hsz : (w1.alloc (.cells #[.pointer (some ⟨gl, 0, none⟩)] 52)).heap.size = w1.heap.size + 1 := by simp
  rw [hsz] at hown2
  have c0 : Cl w n gl w1.heap.size w2.heap.size (w1.heap.size + 1) (20 * n * n) [] (w2.alloc (.cells #[.slice (some ⟨w1.heap.size + 1, 0, none⟩) 0 (20 * n * n)] 55)) := by
    have hs := HL.out.below.size
    have hl := HL.out.lt
    have hz := b2.size
    rw [hsz] at hz
    exact ⟨(A1.under b2).alloc _, ((Row.new w1 _ _).under b2).alloc _, Row.new _ _ _, hown2.alloc _, by omega, by omega, by omega⟩
  refine forget (fun Y => ClE w n gl w1.heap.size w2.heap.size (cpre n 0 0 0) Y) ⟨_, _, by rw [cpre_0]; exact c0⟩ ?_
  clear A1 b2 c0 hsz hown2 hgrow2 HL hm hm0 hm1 hi hz0 hz1 hz2
  generalize w1.heap.size = bl at *
  generalize w2.heap.size = bv at *
  rintro Y hY
  have M0 := Lib.hid hY; clear hY
  go_wp2_with fail
  go_loopw [18] (fun t wr => ∃ f : Nat, f ≤ 20 ∧ t = .int .i64 f ∧ ClE w n gl bl bv (cpre n f 0 0) wr) (fun t _ => 20 - (intOf t).toNat)
  case atStart => exact ⟨0, by omega, rfl, M0.out⟩
  case round =>
    clear M0
    obtain ⟨f, hf, rfl, M⟩ := hrel
    by_cases hlt : f < 20
    · have HM := Lib.hid M; clear M
      have f1 : (f : Int) < 20 := by omega
      go_wp2_with fail
      go_loopw [22] (fun t wr => ∃ a : Nat, a ≤ n ∧ t = .int .i64 a ∧ ClE w n gl bl bv (cpre n f a 0) wr) (fun t _ => n - (intOf t).toNat)
      case atStart => exact ⟨0, by omega, rfl, HM.out⟩
      case round =>
        clear HM
        obtain ⟨a, ha, rfl, M⟩ := hrel
        by_cases hla : a < n
        · have HM := Lib.hid M; clear M
          have a1 : (a : Int) < (n : Int) := by omega
          go_wp2_with fail
          go_loopw [28] (fun t wr => ∃ b : Nat, b ≤ n - a ∧ t = .int .i64 b ∧ ClE w n gl bl bv (cpre n f a b) wr) (fun t _ => n - (intOf t).toNat)
          case atStart => exact ⟨0, by omega, rfl, HM.out⟩
          case round =>
            clear HM
            obtain ⟨b, hb, rfl, M⟩ := hrel
            by_cases hlb : b < n - a
            · have HM := Lib.hid M; clear M
              have b1 : (b : Int) < (n : Int) - (a : Int) := by omega
              have HLE := Lib.hid (cpre_len hn8 hlt hla hb)
              go_wp2_with fail
              refine (upright_any f a b _ _ (by omega) (by omega) (by omega) (by omega) (by omega) (by omega)).mono ?_
              rintro e w5 ⟨rfl, hb5⟩
              have HM5 := Lib.hid (HM.out.under hb5); clear hb5 HM
              go_wp2_with fail
              refine (add_up w n gl bl bv f a b _ _ _ HM5.out HN.out hlt (by omega) (by have := HLE.out; omega)).mono ?_
              rintro e w6 ⟨rfl, hb6, g6, cap6, hC⟩
              have HM6 : Hid (ClE w n gl bl bv (cpre n f a b ++ [Lat.up n f a b]) w6) := Lib.hid ⟨g6, cap6, hC⟩
              clear hC hb6 HM5
              by_cases hdn : a + b + 1 < n
              · have d1 : 0 < (n : Int) - 1 - (a : Int) - (b : Int) := by omega
                go_wp2_with fail
                refine (inverted_any f a b _ _ (by omega) (by omega) (by omega) (by omega) (by omega) (by omega)).mono ?_
                rintro e w7 ⟨rfl, hb7⟩
                have HM7 := Lib.hid (HM6.out.under hb7); clear hb7 HM6
                go_wp2_with fail
                refine (add_dn w n gl bl bv f a b _ _ _ _ HM7.out HN.out hlt hdn (by have := HLE.out; simp only [List.length_append, List.length_singleton]; omega)).mono ?_
                rintro e w8 ⟨rfl, hb8, g8, cap8, hC⟩
                have HM8 : Hid (ClE w n gl bl bv (cpre n f a (b + 1)) w8) := Lib.hid (by rw [cpre_b]; unfold Lat.ctri; rw [if_pos hdn]; exact ⟨g8, cap8, by simpa using hC⟩)
                clear hC hb8 HM7
                go_wp2_with fail
                go_roundw
                case rel => exact ⟨b + 1, by omega, by go_num, HM8.out⟩
                case measure => simp [intOf]; omega
              · have d1 : ¬ (0 < (n : Int) - 1 - (a : Int) - (b : Int)) := by omega
                have HM8 : Hid (ClE w n gl bl bv (cpre n f a (b + 1)) w6) := Lib.hid (by rw [cpre_b]; unfold Lat.ctri; rw [if_neg hdn]; exact HM6.out)
                clear HM6
                go_wp2_with fail
                go_roundw
                case rel => exact ⟨b + 1, by omega, by go_num, HM8.out⟩
                case measure => simp [intOf]; omega
            · have hbe : b = n - a := by omega
              have HBE := Lib.hid hbe; clear hbe
              have b1 : ¬ ((b : Int) < (n : Int) - (a : Int)) := by omega
              have HM := Lib.hid M; clear M
              go_wp2_with fail
              go_roundw
              case rel => exact ⟨a + 1, by omega, by go_num, by have := HM.out; rw [HBE.out, cpre_a] at this; exact this⟩
              case measure => simp [intOf]; omega
        · have hae : a = n := by omega
          have HAE := Lib.hid hae; clear hae
          have a1 : ¬ ((a : Int) < (n : Int)) := by omega
          have HM := Lib.hid M; clear M
          go_wp2_with fail
          go_roundw
          case rel => exact ⟨f + 1, by omega, by go_num, by have := HM.out; rw [HAE.out, cpre_f] at this; exact this⟩
          case measure => simp [intOf]; omega
    · have hfe : f = 20 := by omega
      rw [hfe, cpre_all] at M
      clear hfe
      have f1 : ¬ ((f : Int) < 20) := by omega
      obtain ⟨g, cap, hC⟩ := M
      have p0 := row1 hC.vr
      have HC := Lib.hid hC; clear hC
      go_wp2_with fail
      go_ret
      exact ⟨g, cap, rfl, HC.out.la.below, HC.out.own⟩
end Go.Proofs.YtehehhehilgnkaaGreat

