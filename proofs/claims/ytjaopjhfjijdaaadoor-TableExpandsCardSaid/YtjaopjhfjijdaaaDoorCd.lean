/- The contracts of data.Code and of the law's codes. -/
import Derived.Test.YtjaopjhfjijdaaaDoorAw
namespace Go.Proofs.YtjaopjhfjijdaaaDoor
open Go.RowKit

/-- A code that Table replaces. -/
def bad (x : Int) : Prop := x < 1 ∨ 30000 ≤ x ∨ x = 20000 ∨ x = 20100 ∨ x = 20021 ∨ x = 22121
instance (x : Int) : Decidable (bad x) := inferInstanceAs (Decidable (_ ∨ _))
/-- What Code gives. -/
def cdP (x : Int) : Prop := (-1 ≤ x ∧ x ≤ 30000) ∧ (¬ bad x → knd x ≠ 0)
theorem cdP_of {x : Int} (h : knd x ≠ 0) (h1 : -1 ≤ x) (h2 : x ≤ 30000) : cdP x := ⟨⟨h1, h2⟩, fun _ => h⟩
theorem knd_seq {x : Int} (h1 : 10000 ≤ x) (h2 : x ≤ 19999) : knd x ≠ 0 := by rw [knd_2.2 ⟨h1, h2⟩]; decide
theorem knd_ent {x : Int} (h1 : 1 ≤ x) (h2 : x ≤ 9999) : knd x ≠ 0 := by rw [knd_1.2 ⟨h1, h2⟩]; decide
theorem knd_rep {x y : Int} (h1 : 1 ≤ x) (h2 : x ≤ 20) (h3 : 1 ≤ y) (h4 : y ≤ 20) : knd (20000 + 100 * x + y) ≠ 0 := by rw [knd_3.2 ⟨by omega, by omega, by omega, by omega⟩]; decide
def pickL : List Int := [0, -1, 7, 20000, 20100, 20021, 22121, 30000, 100, 100, 200]
theorem pickL_ok : ∀ x ∈ pickL, cdP x := by
  unfold cdP
  decide +kernel
set_option maxRecDepth 100000 in
set_option maxHeartbeats 2000000 in
theorem code_any (W : World) (b : Nat) (w : World) (h : Src W b w) :
    Calls Tryd.prog 31 #[.pointer (some ⟨b, 0, none⟩)] w (Reads cdP W b w) := by
  go_enter Tryd.func31, Tryd.ntmps31
  go_wp2_with fail
  refine (n_any W b _ 7 h (by omega) (by omega)).mono ?_
  rintro e w1 ⟨x, ⟨x1, x2⟩, rfl, hs, hg⟩
  have HG := Lib.hid hg; clear hg
  by_cases c0 : x = 0
  · subst c0
    go_wp2_with fail
    refine (n_any W b _ 4 hs (by omega) (by omega)).mono ?_
    rintro e w2 ⟨y, ⟨y1, y2⟩, rfl, hs2, hg2⟩
    have HR : Hid (Src W b w2 ∧ w.grownBy w2 (some b) ∧ cdP (10000 + y)) := Lib.hid ⟨hs2, grown_trans HG.out hg2, cdP_of (knd_seq (by omega) (by omega)) (by omega) (by omega)⟩
    clear hg2 hs2
    go_wp2_with fail
    go_ret
    exact ⟨10000 + y, HR.out.2.2, rfl, HR.out.1, HR.out.2.1⟩
  have d0 : (x == 0) = false := by simpa using c0
  by_cases c1 : x = 1
  · subst c1
    go_wp2_with fail
    refine (range_any W b _ 1 3 hs (by omega) (by omega) (by omega) (by omega)).mono ?_
    rintro e w2 ⟨y, ⟨y1, y2⟩, rfl, hs2, hg2⟩
    have HG := Lib.hid (grown_trans HG.out hg2); clear hg2
    go_wp2_with fail
    refine (range_any W b _ 1 3 hs2 (by omega) (by omega) (by omega) (by omega)).mono ?_
    rintro e w3 ⟨z, ⟨z1, z2⟩, rfl, hs3, hg3⟩
    have HR : Hid (Src W b w3 ∧ w.grownBy w3 (some b) ∧ cdP (20000 + 100 * y + z)) := Lib.hid ⟨hs3, grown_trans HG.out hg3, cdP_of (knd_rep y1 (by omega) z1 (by omega)) (by omega) (by omega)⟩
    clear hg3 hs3 hs2 hs
    go_wp2_with fail
    go_ret
    exact ⟨20000 + 100 * y + z, HR.out.2.2, rfl, HR.out.1, HR.out.2.1⟩
  have d1 : (x == 1) = false := by simpa using c1
  by_cases c2 : x = 2
  · subst c2
    have rr := Row.new w1 (pickL.map (Value.int .i64)).toArray 3
    have hb := (Below.refl w1.heap.size w1).alloc (Nat.le_refl _) (.cells (pickL.map (Value.int .i64)).toArray 3)
    have hbl : b < w1.heap.size := by
      obtain ⟨_, _, _, _, _, _, h3, _⟩ := hs.row
      exact (Array.getElem?_eq_some_iff.1 h3).1
    have HP := Lib.hid (pick_any cdP W b _ w1.heap.size 11 11 (hs.under hb) (by omega) (by omega) (by omega) rr.lt (fun i hi => by
      have hi' : i < pickL.length := hi
      exact ⟨pickL[i], by rw [rr.cell]; simp [hi'], pickL_ok _ (List.getElem_mem hi')⟩))
    have HG2 := Lib.hid (grown_trans HG.out (grown_below hb))
    clear rr hb hs
    go_wp2_with fail
    refine HP.out.mono ?_
    rintro e w2 ⟨y, hy, rfl, hs2, hg2⟩
    have HR : Hid (Src W b w2 ∧ w.grownBy w2 (some b) ∧ cdP y) := Lib.hid ⟨hs2, grown_trans HG2.out hg2, hy⟩
    clear hg2 hs2 hy
    go_wp2_with fail
    go_ret
    exact ⟨y, HR.out.2.2, rfl, HR.out.1, HR.out.2.1⟩
  have d2 : (x == 2) = false := by simpa using c2
  go_wp2_with fail
  refine (range_any W b _ 1 11 hs (by omega) (by omega) (by omega) (by omega)).mono ?_
  rintro e w2 ⟨y, ⟨y1, y2⟩, rfl, hs2, hg2⟩
  have HR : Hid (Src W b w2 ∧ w.grownBy w2 (some b) ∧ cdP (100 * y)) := Lib.hid ⟨hs2, grown_trans HG.out hg2, cdP_of (knd_ent (by omega) (by omega)) (by omega) (by omega)⟩
  clear hg2 hs2 hs
  go_wp2_with fail
  go_ret
  exact ⟨100 * y, HR.out.2.2, rfl, HR.out.1, HR.out.2.1⟩
/-- Numbers appended to, in memory of their own. -/
theorem ints_one (C : List Int) : ∀ u ∈ C.map (Value.int .i64), u.oneCell' = true := by
  intro u hu
  obtain ⟨x, -, rfl⟩ := List.mem_map.1 hu
  rfl
theorem NmIn.own {w : World} {base : Nat} {v : Value} {C : List Int} (hI : ∀ x ∈ C, I64 x) (h : w.ownsRow base 3 1 v C.length (C.map (Value.int .i64))) : NmIn w v C := by
  have h' := h
  rcases h.2 with ⟨rfl, h0⟩ | ⟨g, cap, cur, rfl, _, hh, hle, hmax, _, _⟩
  · have := List.eq_nil_of_length_eq_zero h0
    subst this
    exact NmIn.nil w
  · refine ⟨some ⟨g, 0, none⟩, cap, rfl, hle, by unfold maxLen at hmax; omega, fun i hi => ⟨g, 0, rfl, (Array.getElem?_eq_some_iff.1 hh).1, ?_, hI _ (List.getElem_mem hi)⟩⟩
    rw [Nat.zero_add, h'.cellAt i (by omega)]
    simp [hi]
theorem cdP_i64 {x : Int} (h : cdP x) : I64 x := ⟨by have := h.1; omega, by have := h.1; omega⟩
/-- A block of one number. -/
theorem one_at {w : World} {g : Nat} {t : TypeId} {x : Int} (h : Row w g t #[.int .i64 x]) : ∀ (j : Nat) (u : Value), ([x].map (Value.int .i64))[j]? = some u → w.cell? ((⟨g, 0, none⟩ : Addr).add j) = some u := by
  intro j u hu
  rw [Addr.add_lit, Nat.zero_add]
  match j, hu with
  | 0, hu => rw [h.cell]; simpa using hu
  | j + 1, hu => simp at hu
def AllI (C : List Int) : Prop := ∀ c ∈ C, I64 c
/-- A list of numbers in a row of numbers that is no reader's block. -/
def NmO (b : Nat) (w : World) (v : Value) (C : List Int) : Prop := NmIn w v C ∧ ∀ g off n c, v = .slice (some ⟨g, off, none⟩) n c → g ≠ b ∧ ∃ cur, Row w g 3 cur
theorem NmO.step' {b : Nat} {w w' : World} {v : Value} {C : List Int} {r : Option Nat} (h : NmO b w v C) (hg : w.grownBy w' r) (hr : ∀ g cur, g ≠ b → Row w g 3 cur → some g ≠ r) : NmO b w' v C := by
  obtain ⟨⟨A, cap, h1, h2, h3, h4⟩, ho⟩ := h
  refine ⟨⟨A, cap, h1, h2, h3, fun i hi => ?_⟩, fun g off n c e => ?_⟩
  · obtain ⟨g, off, a, l, c, d⟩ := h4 i hi
    subst a
    obtain ⟨n1, cur, r1⟩ := ho g off _ _ h1
    exact ⟨g, off, rfl, Nat.lt_of_lt_of_le l hg.size, (World.cell?_of_block (hg.block g l (hr g cur n1 r1))).trans c, d⟩
  · obtain ⟨n1, cur, r1⟩ := ho g off n c e
    exact ⟨n1, cur, r1.grown hg (hr g cur n1 r1)⟩
theorem NmO.step {b : Nat} {w w' : World} {v : Value} {C : List Int} (h : NmO b w v C) (hg : w.grownBy w' (some b)) : NmO b w' v C := h.step' hg (fun g _ n _ q => n (by injection q))
theorem NmO.under {b : Nat} {w w' : World} {v : Value} {C : List Int} (h : NmO b w v C) (hb : Below w.heap.size w w') : NmO b w' v C := h.step (grown_below hb)
theorem NmO.own {b base : Nat} {w : World} {v : Value} {C : List Int} (hI : ∀ x ∈ C, I64 x) (h : w.ownsRow base 3 1 v C.length (C.map (Value.int .i64))) (hb : b < base) : NmO b w v C := by
  refine ⟨NmIn.own hI h, fun g off n c e => ?_⟩
  rcases h.2 with ⟨q, -⟩ | ⟨g', cap, cur, q, hg', hh, -⟩
  · rw [q] at e; cases e
  · rw [q] at e
    injection e with e
    injection e with e
    injection e with e
    subst e
    exact ⟨by omega, cur, hh⟩
/-- What codes leaves: a list of numbers in memory of its own. -/
def Cds (n : Nat) (W : World) (b : Nat) (w : World) (e : Ending) (w' : World) : Prop := ∃ (v : Value) (C : List Int), e = .returned v ∧ NmO b w' v C ∧ C.length ≤ n ∧ Src W b w' ∧ w.grownBy w' (some b)
/-- A store into, an append to, a row of one's own does not meet the reader. -/
theorem src_own {W w w' : World} {b base size n : Nat} {e : TypeId} {v : Value} {xs : List Value} (h : Src W b w) (hb : b < base) (hW : W.heap.size ≤ base) (ho : w.ownsRow base e size v n xs) (hg : w.grownBy w' v.ownBlock) : Src W b w' := by
  obtain ⟨A, k, c, j, h1, h2, h3, h4⟩ := h.row
  have hlt := (Array.getElem?_eq_some_iff.1 h3).1
  refine ⟨h.base, ⟨hg.os.trans h.below.os, hg.tape.trans h.below.tape, hg.output.trans h.below.output, Nat.le_trans h.below.size hg.size, fun i hi => ?_⟩, A, k, c, j, h1, h2, (hg.block b hlt (fun q => by have := (ho.lt b q.symm).1; omega)).trans h3, h4⟩
  exact (hg.block i (Nat.lt_of_lt_of_le hi h.below.size) (fun q => by have := (ho.lt i q.symm).1; omega)).trans (h.below.block i hi)
theorem codes_step {W w w2 w3 : World} {b : Nat} {C : List Int} {y : Int} {v v' : Value} (hbl : b < w.heap.size) (hy : I64 y) (hC : AllI C) (ho : w2.ownsRow w.heap.size 3 1 v C.length (C.map (Value.int .i64))) (ho' : w3.ownsRow w.heap.size 3 1 v' (C.length + 1) (C.map (Value.int .i64) ++ [y].map (Value.int .i64))) (hg : w2.grownBy w3 v.ownBlock) (hs : Src W b w2) (hw : w.grownBy w2 (some b)) :
    AllI (C ++ [y]) ∧ w3.ownsRow w.heap.size 3 1 v' (C ++ [y]).length ((C ++ [y]).map (Value.int .i64)) ∧ Src W b w3 ∧ w.grownBy w3 (some b) := by
  have hWb := hs.base
  refine ⟨fun c hc => ?_, by rw [List.length_append, List.map_append]; exact ho', src_own hs hbl (by omega) ho hg, ?_⟩
  · rcases List.mem_append.1 hc with hc | hc
    · exact hC c hc
    · rw [List.mem_singleton.1 hc]; exact hy
  · exact ⟨hg.os.trans hw.os, hg.tape.trans hw.tape, hg.output.trans hw.output, Nat.le_trans hw.size hg.size, fun i hi hne => (hg.block i (Nat.lt_of_lt_of_le hi hw.size) (fun q => by have := (ho.lt i q.symm).1; omega)).trans (hw.block i hi hne)⟩
set_option maxRecDepth 100000 in
set_option maxHeartbeats 2000000 in
theorem codes_any (W : World) (b : Nat) (w : World) (n : Nat) (h : Src W b w) (hn : n ≤ 20) :
    Calls Tryd.prog 14 #[.pointer (some ⟨b, 0, none⟩), .int .i64 (n : Int)] w (Cds n W b w) := by
  have hbl : b < w.heap.size := by
    obtain ⟨_, _, _, _, _, _, h3, _⟩ := h.row
    exact (Array.getElem?_eq_some_iff.1 h3).1
  obtain ⟨i0, hi, hz0, hz1, hz2⟩ := info_parts infoInt
  go_enter Tryd.func14, Tryd.ntmps14
  go_wp2_with fail
  refine (n_any W b _ ((n : Int) + 1) h (by omega) (by omega)).mono ?_
  rintro e w1 ⟨x, ⟨x1, x2⟩, rfl, hs, hg⟩
  have HJ0 : Hid (Src W b w1 ∧ w.grownBy w1 (some b)) := Lib.hid ⟨hs, hg⟩
  clear hs hg h
  go_wp2_with fail
  go_loopw [5, 6] (fun v t wr => ∃ (C : List Int) (k : Nat), t = .int .i64 k ∧ C.length + k ≤ n ∧ Hid (AllI C ∧ wr.ownsRow w.heap.size 3 1 v C.length (C.map (Value.int .i64)) ∧ Src W b wr ∧ w.grownBy wr (some b))) (fun _ t _ => (intOf t).toNat)
  case atStart => exact ⟨[], x.toNat, by rw [Int.toNat_of_nonneg x1], by simp only [List.length_nil]; omega, Lib.hid ⟨fun c hc => absurd hc List.not_mem_nil, World.ownsRow_nil _ _ _ _, HJ0.out⟩⟩
  case round =>
    obtain ⟨C, k, rfl, hk, J⟩ := hrel
    by_cases hlt : 0 < k
    · have k1 : (0 : Int) < (k : Int) := by omega
      obtain ⟨A, cap, ev⟩ : ∃ A cap, u5 = .slice A C.length cap := by
        rcases J.out.2.1.2 with ⟨rfl, h0⟩ | ⟨g, cap, cur, rfl, _, hh, hle, hmax, _, _⟩
        · exact ⟨none, 0, by rw [h0]⟩
        · exact ⟨_, cap, rfl⟩
      subst ev
      have HC := Lib.hid (code_any W b wr J.out.2.2.1)
      go_wp2_with fail
      refine HC.out.mono ?_
      rintro e w2 ⟨y, hy, rfl, hs2, hg2⟩
      have hob : some b ≠ Value.ownBlock (.slice A C.length cap) := fun q => by have := (J.out.2.1.lt _ q.symm).1; omega
      have J2 : Hid (I64 y ∧ AllI C ∧ w2.ownsRow w.heap.size 3 1 (.slice A C.length cap) C.length (C.map (Value.int .i64)) ∧ Src W b w2 ∧ w.grownBy w2 (some b)) := Lib.hid ⟨cdP_i64 hy, J.out.1, J.out.2.1.kept hg2 (.inr (Ne.symm hob)), hs2, grown_trans J.out.2.2.2 hg2⟩
      clear hy hs2 hg2 J hob HC
      have hb1 := (Below.refl w2.heap.size w2).alloc (Nat.le_refl _) (.cells #[.int .i64 y] 3)
      have N1 := Lib.hid (one_at (Row.new w2 #[.int .i64 y] 3))
      have J3 : Hid ((w2.alloc (.cells #[.int .i64 y] 3)).ownsRow w.heap.size 3 1 (.slice A C.length cap) C.length (C.map (Value.int .i64)) ∧ Src W b (w2.alloc (.cells #[.int .i64 y] 3)) ∧ w.grownBy (w2.alloc (.cells #[.int .i64 y] 3)) (some b)) := Lib.hid ⟨own_under J2.out.2.2.1 hb1, J2.out.2.2.2.1.under hb1, grown_trans J2.out.2.2.2.2 (grown_below hb1)⟩
      clear hb1
      go_wp2_with (at_builtin; refine wpList_append_own' rfl (.tmp 15) (.tmp 18) 26 rfl w.heap.size 3 i0 _ 1 8 Tryd.underlying26 hi hz0 hz1 hz2 rfl (by decide) (.slice A C.length cap) C.length (C.map (Value.int .i64)) rfl J3.out.1 ⟨w2.heap.size, 0, none⟩ 1 1 ([y].map (Value.int .i64)) rfl rfl N1.out (ints_one _) (by unfold maxLen; omega) (by omega) J3.out.2.2.size ?_; intro v' w3 ho' hg3)
      have HF : Hid (AllI (C ++ [y]) ∧ w3.ownsRow w.heap.size 3 1 v' (C ++ [y]).length ((C ++ [y]).map (Value.int .i64)) ∧ Src W b w3 ∧ w.grownBy w3 (some b)) := Lib.hid (codes_step hbl J2.out.1 J2.out.2.1 J3.out.1 ho' hg3 J3.out.2.1 J3.out.2.2)
      clear ho' hg3 J2 J3 N1
      go_roundw
      case rel => exact ⟨C ++ [y], k - 1, by go_num, by simp only [List.length_append, List.length_singleton]; omega, HF⟩
      case measure => simp [intOf]; omega
    · have k1 : ¬ (0 : Int) < (k : Int) := by omega
      obtain ⟨A, cap, ev⟩ : ∃ A cap, u5 = .slice A C.length cap := by
        rcases J.out.2.1.2 with ⟨rfl, h0⟩ | ⟨g, cap, cur, rfl, _, hh, hle, hmax, _, _⟩
        · exact ⟨none, 0, by rw [h0]⟩
        · exact ⟨_, cap, rfl⟩
      subst ev
      go_wp2_with fail
      go_ret
      exact ⟨_, C, rfl, NmO.own J.out.1 J.out.2.1 hbl, by omega, J.out.2.2.1, J.out.2.2.2⟩
end Go.Proofs.YtjaopjhfjijdaaaDoor
