/- Contracts of entriesByCode and sequencesByCode. -/
import Derived.Test.YtjaopjhfjijdaaaDoorMp
namespace Go.Proofs.YtjaopjhfjijdaaaDoor
open Go.RowKit Go.Maps

/-- What the two functions leave: a map in a new block. -/
def ByE (L : List En) (w : World) (e : Ending) (w' : World) : Prop := ∃ b f s, e = .returned (.map (some b)) ∧ Mp w' b L.length f s ∧ EnF L f ∧ Num (L.map (·.1)) s ∧ w.heap.size ≤ b ∧ Below w.heap.size w w'
def ByS (L : List Sq) (W0 w : World) (e : Ending) (w' : World) : Prop := ∃ b f s, e = .returned (.map (some b)) ∧ Mp w' b L.length f s ∧ SqF W0 L f ∧ Num (L.map (·.1)) s ∧ w.heap.size ≤ b ∧ Below w.heap.size w w'
set_option maxHeartbeats 2000000 in
theorem entries_any (tv : Value) (v : Int) (es : List En) (ss : List Sq) (w : World) (hT : TbIn w tv v es ss) :
    Calls Tryd.prog 32 #[tv] w (ByE es w) := by
  obtain ⟨a, b, rfl, hE, hS⟩ := hT
  obtain ⟨A, cap, rfl, h1, h2, h3⟩ := hE
  obtain ⟨B, cbp, rfl, g1, g2, g3⟩ := hS
  have H := Lib.hid h3; clear h3 g3
  have hmm := @run_makeMap Tryd.prog
  have m0 := Mp.made (w.alloc (.cells #[.int .i64 v, .slice A es.length cap, .slice B ss.length cbp] 25))
  have b0 : Below w.heap.size w ((w.alloc (.cells #[.int .i64 v, .slice A es.length cap, .slice B ss.length cbp] 25)).alloc (.map #[] 0)) := ((Below.refl _ _).alloc (Nat.le_refl _) _).alloc (by simp) _
  have z0 : (w.alloc (.cells #[.int .i64 v, .slice A es.length cap, .slice B ss.length cbp] 25)).heap.size = w.heap.size + 1 := by simp
  rw [z0] at m0
  have M0 := Lib.hid m0
  have B0 := Lib.hid b0
  clear m0 b0 z0
  go_enter Tryd.func32, Tryd.ntmps32
  go_wp2_with fail
  go_loopw [5, 10] (fun _ t wr => ∃ (k : Nat) (f : Int → Option Value) (s : Nat), k ≤ es.length ∧ t = .int .i64 k ∧ Mp wr (w.heap.size + 1) k f s ∧ Hid (EnF (es.take k) f ∧ Num ((es.take k).map (·.1)) s) ∧ Below w.heap.size w wr) (fun _ t _ => es.length - (intOf t).toNat)
  case atStart => exact ⟨0, fun _ => Option.none, 0, Nat.zero_le _, rfl, M0.out, Lib.hid ⟨fun key => ⟨fun _ e he => by simp at he, fun v hv => by cases hv⟩, by simp [Num]⟩, B0.out⟩
  case round =>
    obtain ⟨k, f, s, hk, rfl, hM, hF, hb⟩ := hrel
    have HB := Lib.hid hb; clear hb
    have HM := Lib.hid hM; clear hM
    by_cases hlt : k < es.length
    · obtain ⟨g, off, rfl, hgl, ⟨c0, c1, c2, c3, c4⟩, hi⟩ := H.out k hlt
      replace c0 := (HB.out.cell (p := ⟨g, off + k * 5, none⟩) hgl).trans c0
      replace c1 := (HB.out.cell (p := ⟨g, off + k * 5 + 1, none⟩) hgl).trans c1
      replace c2 := (HB.out.cell (p := ⟨g, off + k * 5 + 2, none⟩) hgl).trans c2
      replace c3 := (HB.out.cell (p := ⟨g, off + k * 5 + 3, none⟩) hgl).trans c3
      replace c4 := (HB.out.cell (p := ⟨g, off + k * 5 + 4, none⟩) hgl).trans c4
      obtain ⟨x, hx⟩ : ∃ x, es[k] = x := ⟨_, rfl⟩
      rw [hx] at c0 c1 c2 c3 c4 hi
      obtain ⟨y0, y1, y2, y3, y4⟩ := x
      simp only at c0 c1 c2 c3 c4 hi
      have HX : Hid (es.take (k + 1) = es.take k ++ [(y0, y1, y2, y3, y4)]) := Lib.hid (by rw [take_snoc hlt, hx])
      clear hx
      have k0 : (0 : Int) ≤ (k : Int) := by omega
      have k1 : (k : Int) < (es.length : Int) := by omega
      have M1 := Lib.hid (HM.out.kept (World.grownBy_alloc wr (.cells #[.int .i64 y0, .int .i64 y1, .int .i64 y2, .int .i64 y3, .int .i64 y4] 47) none) (by simp))
      have HL : Hid (w.heap.size + 1 < wr.heap.size) := Lib.hid HM.out.lt
      clear HM
      go_wp2_with (at_mapUpdate; refine wpList_mapUpdate_mp _ rfl _ _ _ 68 rfl 47 Tryd.underlying68 (w.heap.size + 1) k s f rfl M1.out (by unfold maxLen; omega) y0 _ rfl rfl hi ?_; intro w1 hm1 hg1)
      have BW := Lib.hid ((World.grownBy_alloc wr (.cells #[.int .i64 y0, .int .i64 y1, .int .i64 y2, .int .i64 y3, .int .i64 y4] 47) (some (w.heap.size + 1))))
      have B1 : Hid (Below w.heap.size w w1) := Lib.hid (below_grown HB.out (grown_trans BW.out hg1) (by omega) HB.out.size)
      have HM1 := Lib.hid hm1
      have HG1 := Lib.hid hg1
      clear hm1 hg1
      go_roundw
      case rel =>
        refine ⟨k + 1, _, _, by omega, by go_num, HM1.out, Lib.hid ⟨?_, ?_⟩, B1.out⟩
        · rw [HX.out]
          exact hF.out.1.step (y0, y1, y2, y3, y4)
        · rw [HX.out, List.map_append]
          exact hF.out.2.step _ (hF.out.1.isSome _)
      case measure => simp [intOf]; omega
    · have k1 : ¬ (k : Int) < (es.length : Int) := by omega
      obtain rfl : k = es.length := by omega
      have HF : Hid (EnF es f ∧ Num (es.map (·.1)) s) := Lib.hid (by have := hF.out; rw [List.take_length] at this; exact this)
      clear hF
      go_wp2_with fail
      go_ret
      exact ⟨_, f, s, rfl, HM.out, HF.out.1, HF.out.2, by omega, HB.out⟩
set_option maxHeartbeats 2000000 in
theorem sequences_from (W0 : World) (tv : Value) (v : Int) (es : List En) (ss : List Sq) (w : World) (hT : TbIn W0 tv v es ss) (hb0 : Below W0.heap.size W0 w) :
    Calls Tryd.prog 33 #[tv] w (ByS ss W0 w) := by
  obtain ⟨a, b, rfl, hE, hS⟩ := hT
  obtain ⟨A, cap, rfl, h1, h2, h3⟩ := hE
  obtain ⟨B, cbp, rfl, g1, g2, g3⟩ := hS
  have H := Lib.hid g3; clear h3 g3
  have HB0 := Lib.hid hb0; clear hb0
  have hmm := @run_makeMap Tryd.prog
  have m0 := Mp.made (w.alloc (.cells #[.int .i64 v, .slice A es.length cap, .slice B ss.length cbp] 25))
  have b0 : Below w.heap.size w ((w.alloc (.cells #[.int .i64 v, .slice A es.length cap, .slice B ss.length cbp] 25)).alloc (.map #[] 0)) := ((Below.refl _ _).alloc (Nat.le_refl _) _).alloc (by simp) _
  have z0 : (w.alloc (.cells #[.int .i64 v, .slice A es.length cap, .slice B ss.length cbp] 25)).heap.size = w.heap.size + 1 := by simp
  rw [z0] at m0
  have M0 := Lib.hid m0
  have B0 := Lib.hid b0
  clear m0 b0 z0
  go_enter Tryd.func33, Tryd.ntmps33
  go_wp2_with fail
  go_loopw [5, 10] (fun _ t wr => ∃ (k : Nat) (f : Int → Option Value) (s : Nat), k ≤ ss.length ∧ t = .int .i64 k ∧ Mp wr (w.heap.size + 1) k f s ∧ Hid (SqF W0 (ss.take k) f ∧ Num ((ss.take k).map (·.1)) s) ∧ Below w.heap.size w wr) (fun _ t _ => ss.length - (intOf t).toNat)
  case atStart => exact ⟨0, fun _ => Option.none, 0, Nat.zero_le _, rfl, M0.out, Lib.hid ⟨fun key => ⟨fun _ e he => by simp at he, fun v hv => by cases hv⟩, by simp [Num]⟩, B0.out⟩
  case round =>
    obtain ⟨k, f, s, hk, rfl, hM, hF, hb⟩ := hrel
    have HB := Lib.hid hb; clear hb
    have HM := Lib.hid hM; clear hM
    by_cases hlt : k < ss.length
    · obtain ⟨g, off, u, rfl, hgl, c0, c1, hu, hi⟩ := H.out k hlt
      replace c0 := ((HB0.out.trans (HB.out.mono HB0.out.size)).cell (p := ⟨g, off + k * 2, none⟩) hgl).trans c0
      replace c1 := ((HB0.out.trans (HB.out.mono HB0.out.size)).cell (p := ⟨g, off + k * 2 + 1, none⟩) hgl).trans c1
      have HU := Lib.hid hu
      obtain ⟨Au, cu, rfl, -⟩ := hu
      obtain ⟨x, hx⟩ : ∃ x, ss[k] = x := ⟨_, rfl⟩
      rw [hx] at c0 c1 hi HU
      obtain ⟨y0, Y⟩ := x
      simp only at c0 c1 hi HU
      have HX : Hid (ss.take (k + 1) = ss.take k ++ [(y0, Y)]) := Lib.hid (by rw [take_snoc hlt, hx])
      clear hx
      have k0 : (0 : Int) ≤ (k : Int) := by omega
      have k1 : (k : Int) < (ss.length : Int) := by omega
      have M1 := Lib.hid (HM.out.kept (World.grownBy_alloc wr (.cells #[.int .i64 y0, .slice Au Y.length cu] 58) none) (by simp))
      have HL : Hid (w.heap.size + 1 < wr.heap.size) := Lib.hid HM.out.lt
      clear HM
      go_wp2_with (at_mapUpdate; refine wpList_mapUpdate_mp _ rfl _ _ _ 70 rfl 58 Tryd.underlying70 (w.heap.size + 1) k s f rfl M1.out (by unfold maxLen; omega) y0 _ rfl rfl hi ?_; intro w1 hm1 hg1)
      have BW := Lib.hid ((World.grownBy_alloc wr (.cells #[.int .i64 y0, .slice Au Y.length cu] 58) (some (w.heap.size + 1))))
      have B1 : Hid (Below w.heap.size w w1) := Lib.hid (below_grown HB.out (grown_trans BW.out hg1) (by omega) HB.out.size)
      have HM1 := Lib.hid hm1
      have HG1 := Lib.hid hg1
      clear hm1 hg1
      go_roundw
      case rel =>
        refine ⟨k + 1, _, _, by omega, by go_num, HM1.out, Lib.hid ⟨?_, ?_⟩, B1.out⟩
        · rw [HX.out]
          exact hF.out.1.step (y0, Y) _ HU.out
        · rw [HX.out, List.map_append]
          exact hF.out.2.step _ (hF.out.1.isSome _)
      case measure => simp [intOf]; omega
    · have k1 : ¬ (k : Int) < (ss.length : Int) := by omega
      obtain rfl : k = ss.length := by omega
      have HF : Hid (SqF W0 ss f ∧ Num (ss.map (·.1)) s) := Lib.hid (by have := hF.out; rw [List.take_length] at this; exact this)
      clear hF
      go_wp2_with fail
      go_ret
      exact ⟨_, f, s, rfl, HM.out, HF.out.1, HF.out.2, by omega, HB.out⟩
theorem sequences_any (tv : Value) (v : Int) (es : List En) (ss : List Sq) (w : World) (hT : TbIn w tv v es ss) :
    Calls Tryd.prog 33 #[tv] w (ByS ss w w) := sequences_from w tv v es ss w hT (Below.refl _ _)
end Go.Proofs.YtjaopjhfjijdaaaDoor
