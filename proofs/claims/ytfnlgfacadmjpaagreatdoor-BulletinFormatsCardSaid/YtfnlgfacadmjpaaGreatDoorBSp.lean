/- The program's heading of a bulletin. The words of a bulletin's first line, as the program cuts it. -/
import Derived.Test.YtfnlgfacadmjpaaGreatDoorBPa
import Derived.Test.YtfnlgfacadmjpaaGreatDoorGForm
import Derived.Test.YtfnlgfacadmjpaaGreatDoorGNd
namespace Go.Proofs.YtfnlgfacadmjpaaGreatDoor.Bu
open Go.RowKit

theorem row5 {w : World} {b : Nat} {t : TypeId} {x y z u v : Value} (h : Row w b t #[x, y, z, u, v]) :
    w.cell? ⟨b, 0, none⟩ = some x ∧ w.cell? ⟨b, 1, none⟩ = some y ∧ w.cell? ⟨b, 2, none⟩ = some z ∧ w.cell? ⟨b, 3, none⟩ = some u ∧ w.cell? ⟨b, 4, none⟩ = some v :=
  ⟨(h.cell 0).trans rfl, (h.cell 1).trans rfl, (h.cell 2).trans rfl, (h.cell 3).trans rfl, (h.cell 4).trans rfl⟩
/-- The first word. -/
def sy : List UInt8 := [83, 89, 78, 79, 80]
theorem stp_len (t : Int) : (stp t).length = 6 := by unfold stp; simp [dig2_len]
set_option maxRecDepth 100000 in
set_option maxHeartbeats 4000000 in
theorem head00 (c : List UInt8) (t : Int) (A : Option Addr) (k cu : Nat) (w : World) (hT : Ck.Tab w) (ht : 0 ≤ t ∧ t ≤ 52595999) (hc : c.length ≤ 100) :
    Calls Tryz.prog 37 #[.agg #[.string (S c), .int .i64 t, .int .i64 0, .int .i64 0, .slice A k cu]] w fun e w' => e = .returned (.string (S (Lib.join ([sy, c, stp t]) [32]))) ∧ Below w.heap.size w w' := by
  obtain ⟨i0, hi, hz0, hz1, hz2⟩ := info_parts infoString
  have b1 := (Below.refl w.heap.size w).alloc (Nat.le_refl _) (.cells #[.string (S c), .int .i64 t, .int .i64 0, .int .i64 0, .slice A k cu] 24)
  have r1 := Row.new w #[.string (S c), .int .i64 t, .int .i64 0, .int .i64 0, .slice A k cu] 24
  have hT1 := hT.under b1
  clear hT
  go_enter Tryz.func37, Tryz.ntmps37
  go_upto_region 1 with fail
  generalize w.alloc (.cells #[.string (S c), .int .i64 t, .int .i64 0, .int .i64 0, .slice A k cu] 24) = W1 at *
  obtain ⟨c0, c1, c2, c3, c4⟩ := row5 r1
  go_wp2_with fail
  refine (stamp_any t _ hT1 ht).mono ?_
  rintro e w2 ⟨rfl, g2⟩
  have b2 := b1.trans (g2.mono b1.size)
  have r2 := r1.under g2
  clear b1 r1 hT1 g2 c0 c1 c2 c3 c4
  obtain ⟨c0, c1, c2, c3, c4⟩ := row5 r2
  go_upto_region 3 with fail
  refine forget (fun Y => Wl w [sy, c, stp t] (.slice (some ⟨w2.heap.size, 0, none⟩) 3 3) Y ∧ Row Y w.heap.size 24 #[.string (S c), .int .i64 t, .int .i64 0, .int .i64 0, .slice A k cu]) ⟨Wl.lit b2 sy c (stp t) (S c) rfl, r2.alloc _⟩ ?_
  clear b2 r2 c0 c1 c2 c3 c4
  generalize w2.heap.size = g5 at *
  clear w2
  rintro Y ⟨W, r⟩
  have HST := Lib.hid (stp_len t)
  have WW := Lib.hid W
  have RR := Lib.hid r
  obtain ⟨c0, c1, c2, c3, c4⟩ := row5 r
  clear W r
  go_wp2_with fail
  have HJ := Lib.hid (join_own WW.out (by simp) (by simp) (by
    intro x hx
    simp only [List.mem_cons, List.not_mem_nil, or_false] at hx
    rcases hx with (rfl | rfl | rfl)
    all_goals first | (show sy.length ≤ 100; decide) | exact hc | (have := HST.out; omega) | (show List.length (_ :: _ :: ltr _) ≤ 100; exact (by decide : 3 ≤ 100))))
  have HB := Lib.hid WW.out.below
  clear WW RR c0 c1 c2 c3 c4
  refine HJ.out.mono ?_
  rintro e w9 ⟨rfl, g9⟩
  have B9 := Lib.hid (HB.out.trans (g9.mono HB.out.size))
  clear g9
  go_wp2_with fail
  go_ret
  exact ⟨rfl, B9.out⟩
set_option maxRecDepth 100000 in
set_option maxHeartbeats 4000000 in
theorem head01 (c : List UInt8) (t : Int) (m : Nat) (hm : m < 26) (A : Option Addr) (k cu : Nat) (w : World) (hT : Ck.Tab w) (ht : 0 ≤ t ∧ t ≤ 52595999) (hc : c.length ≤ 100) :
    Calls Tryz.prog 37 #[.agg #[.string (S c), .int .i64 t, .int .i64 0, .int .i64 ((m : Int) + 1), .slice A k cu]] w fun e w' => e = .returned (.string (S (Lib.join ([sy, c, stp t] ++ [82 :: 82 :: ltr ((m : Int) + 1)]) [32]))) ∧ Below w.heap.size w w' := by
  obtain ⟨i0, hi, hz0, hz1, hz2⟩ := info_parts infoString
  have b1 := (Below.refl w.heap.size w).alloc (Nat.le_refl _) (.cells #[.string (S c), .int .i64 t, .int .i64 0, .int .i64 ((m : Int) + 1), .slice A k cu] 24)
  have r1 := Row.new w #[.string (S c), .int .i64 t, .int .i64 0, .int .i64 ((m : Int) + 1), .slice A k cu] 24
  have hT1 := hT.under b1
  clear hT
  go_enter Tryz.func37, Tryz.ntmps37
  go_upto_region 1 with fail
  generalize w.alloc (.cells #[.string (S c), .int .i64 t, .int .i64 0, .int .i64 ((m : Int) + 1), .slice A k cu] 24) = W1 at *
  obtain ⟨c0, c1, c2, c3, c4⟩ := row5 r1
  go_wp2_with fail
  refine (stamp_any t _ hT1 ht).mono ?_
  rintro e w2 ⟨rfl, g2⟩
  have b2 := b1.trans (g2.mono b1.size)
  have r2 := r1.under g2
  clear b1 r1 hT1 g2 c0 c1 c2 c3 c4
  obtain ⟨c0, c1, c2, c3, c4⟩ := row5 r2
  go_upto_region 3 with fail
  refine forget (fun Y => Wl w [sy, c, stp t] (.slice (some ⟨w2.heap.size, 0, none⟩) 3 3) Y ∧ Row Y w.heap.size 24 #[.string (S c), .int .i64 t, .int .i64 0, .int .i64 ((m : Int) + 1), .slice A k cu]) ⟨Wl.lit b2 sy c (stp t) (S c) rfl, r2.alloc _⟩ ?_
  clear b2 r2 c0 c1 c2 c3 c4
  generalize w2.heap.size = g5 at *
  clear w2
  rintro Y ⟨W, r⟩
  have HST := Lib.hid (stp_len t)
  have qm : ((m : Int) + 1 != 0) = true := by rw [bne_iff_ne]; omega
  have ham : (⟨#[82, 82]⟩ : ByteArray) ++ S (ltr ((m : Int) + 1)) = S (82 :: 82 :: ltr ((m : Int) + 1)) := rfl
  have hsm : (⟨#[82, 82]⟩ : ByteArray).size = 2 := rfl
  have hlm : (S (ltr ((m : Int) + 1))).size = 1 := rfl
  have WW := Lib.hid W
  have RR := Lib.hid r
  obtain ⟨c0, c1, c2, c3, c4⟩ := row5 r
  clear W r
  go_wp2_with fail
  refine (letter_any m _ hm).mono ?_
  rintro e w4 ⟨rfl, rfl⟩
  have W7 := Lib.hid (WW.out.under ((Below.refl _ _).alloc (Nat.le_refl _) (.cells #[.string (S (82 :: 82 :: ltr ((m : Int) + 1)))] 9)))
  have R7 := Lib.hid (RR.out.alloc (.cells #[.string (S (82 :: 82 :: ltr ((m : Int) + 1)))] 9))
  clear WW RR c0 c1 c2 c3 c4
  go_wp2_with (at_builtin; refine wpList_append_lies _ rfl (.tmp 29) (.tmp 34) 41 rfl w.heap.size 9 i0 _ 1 16 Tryz.underlying41 hi hz0 hz1 hz2 rfl (by decide) _ 3 _ rfl W7.out.own ⟨Y.heap.size, 0, none⟩ 1 1 [.string (S (82 :: 82 :: ltr ((m : Int) + 1)))] rfl rfl (World.news_of_block (cs := #[.string (S (82 :: 82 :: ltr ((m : Int) + 1)))]) (t := 9) (fr := (0, 0)) (heap_alloc_new Y _)) (by simp [Value.oneCell']) (by omega) (by unfold maxLen; omega) (by omega) W7.out.below.size (Y.heap.size + 1) (by simp) ?_; intro g' cap' w8 hown8 hgrow8 hat8 hlt8; have WW := Lib.hid (W7.out.more (x := (82 :: 82 :: ltr ((m : Int) + 1))) hown8 hgrow8); have RR := Lib.hid (R7.out.grown hgrow8 (El.own_ne W7.out.own R7.out (by decide))); clear hown8 hgrow8 hat8 hlt8 W7 R7; obtain ⟨c0, c1, c2, c3, c4⟩ := row5 RR.out)
  have HJ := Lib.hid (join_own WW.out (by simp) (by simp) (by
    intro x hx
    simp only [List.mem_append, List.mem_cons, List.not_mem_nil, or_false] at hx
    rcases hx with ((rfl | rfl | rfl) | rfl)
    all_goals first | (show sy.length ≤ 100; decide) | exact hc | (have := HST.out; omega) | (show List.length (_ :: _ :: ltr _) ≤ 100; exact (by decide : 3 ≤ 100))))
  have HB := Lib.hid WW.out.below
  clear WW RR c0 c1 c2 c3 c4
  refine HJ.out.mono ?_
  rintro e w9 ⟨rfl, g9⟩
  have B9 := Lib.hid (HB.out.trans (g9.mono HB.out.size))
  clear g9
  go_wp2_with fail
  go_ret
  exact ⟨rfl, B9.out⟩
set_option maxRecDepth 100000 in
set_option maxHeartbeats 4000000 in
theorem head10 (c : List UInt8) (t : Int) (n : Nat) (hn : n < 26) (A : Option Addr) (k cu : Nat) (w : World) (hT : Ck.Tab w) (ht : 0 ≤ t ∧ t ≤ 52595999) (hc : c.length ≤ 100) :
    Calls Tryz.prog 37 #[.agg #[.string (S c), .int .i64 t, .int .i64 ((n : Int) + 1), .int .i64 0, .slice A k cu]] w fun e w' => e = .returned (.string (S (Lib.join ([sy, c, stp t] ++ [67 :: 67 :: ltr ((n : Int) + 1)]) [32]))) ∧ Below w.heap.size w w' := by
  obtain ⟨i0, hi, hz0, hz1, hz2⟩ := info_parts infoString
  have b1 := (Below.refl w.heap.size w).alloc (Nat.le_refl _) (.cells #[.string (S c), .int .i64 t, .int .i64 ((n : Int) + 1), .int .i64 0, .slice A k cu] 24)
  have r1 := Row.new w #[.string (S c), .int .i64 t, .int .i64 ((n : Int) + 1), .int .i64 0, .slice A k cu] 24
  have hT1 := hT.under b1
  clear hT
  go_enter Tryz.func37, Tryz.ntmps37
  go_upto_region 1 with fail
  generalize w.alloc (.cells #[.string (S c), .int .i64 t, .int .i64 ((n : Int) + 1), .int .i64 0, .slice A k cu] 24) = W1 at *
  obtain ⟨c0, c1, c2, c3, c4⟩ := row5 r1
  go_wp2_with fail
  refine (stamp_any t _ hT1 ht).mono ?_
  rintro e w2 ⟨rfl, g2⟩
  have b2 := b1.trans (g2.mono b1.size)
  have r2 := r1.under g2
  clear b1 r1 hT1 g2 c0 c1 c2 c3 c4
  obtain ⟨c0, c1, c2, c3, c4⟩ := row5 r2
  go_upto_region 3 with fail
  refine forget (fun Y => Wl w [sy, c, stp t] (.slice (some ⟨w2.heap.size, 0, none⟩) 3 3) Y ∧ Row Y w.heap.size 24 #[.string (S c), .int .i64 t, .int .i64 ((n : Int) + 1), .int .i64 0, .slice A k cu]) ⟨Wl.lit b2 sy c (stp t) (S c) rfl, r2.alloc _⟩ ?_
  clear b2 r2 c0 c1 c2 c3 c4
  generalize w2.heap.size = g5 at *
  clear w2
  rintro Y ⟨W, r⟩
  have HST := Lib.hid (stp_len t)
  have qn : ((n : Int) + 1 != 0) = true := by rw [bne_iff_ne]; omega
  have han : (⟨#[67, 67]⟩ : ByteArray) ++ S (ltr ((n : Int) + 1)) = S (67 :: 67 :: ltr ((n : Int) + 1)) := rfl
  have hsn : (⟨#[67, 67]⟩ : ByteArray).size = 2 := rfl
  have hln : (S (ltr ((n : Int) + 1))).size = 1 := rfl
  have WW := Lib.hid W
  have RR := Lib.hid r
  obtain ⟨c0, c1, c2, c3, c4⟩ := row5 r
  clear W r
  go_wp2_with fail
  refine (letter_any n _ hn).mono ?_
  rintro e w4 ⟨rfl, rfl⟩
  have W7 := Lib.hid (WW.out.under ((Below.refl _ _).alloc (Nat.le_refl _) (.cells #[.string (S (67 :: 67 :: ltr ((n : Int) + 1)))] 9)))
  have R7 := Lib.hid (RR.out.alloc (.cells #[.string (S (67 :: 67 :: ltr ((n : Int) + 1)))] 9))
  clear WW RR c0 c1 c2 c3 c4
  go_wp2_with (at_builtin; refine wpList_append_lies _ rfl (.tmp 19) (.tmp 24) 41 rfl w.heap.size 9 i0 _ 1 16 Tryz.underlying41 hi hz0 hz1 hz2 rfl (by decide) _ 3 _ rfl W7.out.own ⟨Y.heap.size, 0, none⟩ 1 1 [.string (S (67 :: 67 :: ltr ((n : Int) + 1)))] rfl rfl (World.news_of_block (cs := #[.string (S (67 :: 67 :: ltr ((n : Int) + 1)))]) (t := 9) (fr := (0, 0)) (heap_alloc_new Y _)) (by simp [Value.oneCell']) (by omega) (by unfold maxLen; omega) (by omega) W7.out.below.size (Y.heap.size + 1) (by simp) ?_; intro g' cap' w8 hown8 hgrow8 hat8 hlt8; have WW := Lib.hid (W7.out.more (x := (67 :: 67 :: ltr ((n : Int) + 1))) hown8 hgrow8); have RR := Lib.hid (R7.out.grown hgrow8 (El.own_ne W7.out.own R7.out (by decide))); clear hown8 hgrow8 hat8 hlt8 W7 R7; obtain ⟨c0, c1, c2, c3, c4⟩ := row5 RR.out)
  have HJ := Lib.hid (join_own WW.out (by simp) (by simp) (by
    intro x hx
    simp only [List.mem_append, List.mem_cons, List.not_mem_nil, or_false] at hx
    rcases hx with ((rfl | rfl | rfl) | rfl)
    all_goals first | (show sy.length ≤ 100; decide) | exact hc | (have := HST.out; omega) | (show List.length (_ :: _ :: ltr _) ≤ 100; exact (by decide : 3 ≤ 100))))
  have HB := Lib.hid WW.out.below
  clear WW RR c0 c1 c2 c3 c4
  refine HJ.out.mono ?_
  rintro e w9 ⟨rfl, g9⟩
  have B9 := Lib.hid (HB.out.trans (g9.mono HB.out.size))
  clear g9
  go_wp2_with fail
  go_ret
  exact ⟨rfl, B9.out⟩
set_option maxRecDepth 100000 in
set_option maxHeartbeats 4000000 in
theorem head11 (c : List UInt8) (t : Int) (n : Nat) (hn : n < 26) (m : Nat) (hm : m < 26) (A : Option Addr) (k cu : Nat) (w : World) (hT : Ck.Tab w) (ht : 0 ≤ t ∧ t ≤ 52595999) (hc : c.length ≤ 100) :
    Calls Tryz.prog 37 #[.agg #[.string (S c), .int .i64 t, .int .i64 ((n : Int) + 1), .int .i64 ((m : Int) + 1), .slice A k cu]] w fun e w' => e = .returned (.string (S (Lib.join ([sy, c, stp t] ++ [67 :: 67 :: ltr ((n : Int) + 1)] ++ [82 :: 82 :: ltr ((m : Int) + 1)]) [32]))) ∧ Below w.heap.size w w' := by
  obtain ⟨i0, hi, hz0, hz1, hz2⟩ := info_parts infoString
  have b1 := (Below.refl w.heap.size w).alloc (Nat.le_refl _) (.cells #[.string (S c), .int .i64 t, .int .i64 ((n : Int) + 1), .int .i64 ((m : Int) + 1), .slice A k cu] 24)
  have r1 := Row.new w #[.string (S c), .int .i64 t, .int .i64 ((n : Int) + 1), .int .i64 ((m : Int) + 1), .slice A k cu] 24
  have hT1 := hT.under b1
  clear hT
  go_enter Tryz.func37, Tryz.ntmps37
  go_upto_region 1 with fail
  generalize w.alloc (.cells #[.string (S c), .int .i64 t, .int .i64 ((n : Int) + 1), .int .i64 ((m : Int) + 1), .slice A k cu] 24) = W1 at *
  obtain ⟨c0, c1, c2, c3, c4⟩ := row5 r1
  go_wp2_with fail
  refine (stamp_any t _ hT1 ht).mono ?_
  rintro e w2 ⟨rfl, g2⟩
  have b2 := b1.trans (g2.mono b1.size)
  have r2 := r1.under g2
  clear b1 r1 hT1 g2 c0 c1 c2 c3 c4
  obtain ⟨c0, c1, c2, c3, c4⟩ := row5 r2
  go_upto_region 3 with fail
  refine forget (fun Y => Wl w [sy, c, stp t] (.slice (some ⟨w2.heap.size, 0, none⟩) 3 3) Y ∧ Row Y w.heap.size 24 #[.string (S c), .int .i64 t, .int .i64 ((n : Int) + 1), .int .i64 ((m : Int) + 1), .slice A k cu]) ⟨Wl.lit b2 sy c (stp t) (S c) rfl, r2.alloc _⟩ ?_
  clear b2 r2 c0 c1 c2 c3 c4
  generalize w2.heap.size = g5 at *
  clear w2
  rintro Y ⟨W, r⟩
  have HST := Lib.hid (stp_len t)
  have qn : ((n : Int) + 1 != 0) = true := by rw [bne_iff_ne]; omega
  have han : (⟨#[67, 67]⟩ : ByteArray) ++ S (ltr ((n : Int) + 1)) = S (67 :: 67 :: ltr ((n : Int) + 1)) := rfl
  have hsn : (⟨#[67, 67]⟩ : ByteArray).size = 2 := rfl
  have hln : (S (ltr ((n : Int) + 1))).size = 1 := rfl
  have qm : ((m : Int) + 1 != 0) = true := by rw [bne_iff_ne]; omega
  have ham : (⟨#[82, 82]⟩ : ByteArray) ++ S (ltr ((m : Int) + 1)) = S (82 :: 82 :: ltr ((m : Int) + 1)) := rfl
  have hsm : (⟨#[82, 82]⟩ : ByteArray).size = 2 := rfl
  have hlm : (S (ltr ((m : Int) + 1))).size = 1 := rfl
  have WW := Lib.hid W
  have RR := Lib.hid r
  obtain ⟨c0, c1, c2, c3, c4⟩ := row5 r
  clear W r
  go_wp2_with fail
  refine (letter_any n _ hn).mono ?_
  rintro e w4 ⟨rfl, rfl⟩
  have W7 := Lib.hid (WW.out.under ((Below.refl _ _).alloc (Nat.le_refl _) (.cells #[.string (S (67 :: 67 :: ltr ((n : Int) + 1)))] 9)))
  have R7 := Lib.hid (RR.out.alloc (.cells #[.string (S (67 :: 67 :: ltr ((n : Int) + 1)))] 9))
  clear WW RR c0 c1 c2 c3 c4
  go_wp2_with (at_builtin; refine wpList_append_lies _ rfl (.tmp 19) (.tmp 24) 41 rfl w.heap.size 9 i0 _ 1 16 Tryz.underlying41 hi hz0 hz1 hz2 rfl (by decide) _ 3 _ rfl W7.out.own ⟨Y.heap.size, 0, none⟩ 1 1 [.string (S (67 :: 67 :: ltr ((n : Int) + 1)))] rfl rfl (World.news_of_block (cs := #[.string (S (67 :: 67 :: ltr ((n : Int) + 1)))]) (t := 9) (fr := (0, 0)) (heap_alloc_new Y _)) (by simp [Value.oneCell']) (by omega) (by unfold maxLen; omega) (by omega) W7.out.below.size (Y.heap.size + 1) (by simp) ?_; intro g' cap' w8 hown8 hgrow8 hat8 hlt8; have WW := Lib.hid (W7.out.more (x := (67 :: 67 :: ltr ((n : Int) + 1))) hown8 hgrow8); have RR := Lib.hid (R7.out.grown hgrow8 (El.own_ne W7.out.own R7.out (by decide))); clear hown8 hgrow8 hat8 hlt8 W7 R7; obtain ⟨c0, c1, c2, c3, c4⟩ := row5 RR.out)
  refine (letter_any m _ hm).mono ?_
  rintro e w4 ⟨rfl, rfl⟩
  have W7 := Lib.hid (WW.out.under ((Below.refl _ _).alloc (Nat.le_refl _) (.cells #[.string (S (82 :: 82 :: ltr ((m : Int) + 1)))] 9)))
  have R7 := Lib.hid (RR.out.alloc (.cells #[.string (S (82 :: 82 :: ltr ((m : Int) + 1)))] 9))
  clear WW RR c0 c1 c2 c3 c4
  go_wp2_with (at_builtin; refine wpList_append_lies _ rfl (.tmp 29) (.tmp 34) 41 rfl w.heap.size 9 i0 _ 1 16 Tryz.underlying41 hi hz0 hz1 hz2 rfl (by decide) _ 4 _ rfl W7.out.own ⟨w8.heap.size, 0, none⟩ 1 1 [.string (S (82 :: 82 :: ltr ((m : Int) + 1)))] rfl rfl (World.news_of_block (cs := #[.string (S (82 :: 82 :: ltr ((m : Int) + 1)))]) (t := 9) (fr := (0, 0)) (heap_alloc_new w8 _)) (by simp [Value.oneCell']) (by omega) (by unfold maxLen; omega) (by omega) W7.out.below.size (w8.heap.size + 1) (by simp) ?_; intro g' cap' w9 hown8 hgrow8 hat8 hlt8; have WW := Lib.hid (W7.out.more (x := (82 :: 82 :: ltr ((m : Int) + 1))) hown8 hgrow8); have RR := Lib.hid (R7.out.grown hgrow8 (El.own_ne W7.out.own R7.out (by decide))); clear hown8 hgrow8 hat8 hlt8 W7 R7; obtain ⟨c0, c1, c2, c3, c4⟩ := row5 RR.out)
  have HJ := Lib.hid (join_own WW.out (by simp) (by simp) (by
    intro x hx
    simp only [List.mem_append, List.mem_cons, List.not_mem_nil, or_false] at hx
    rcases hx with (((rfl | rfl | rfl) | rfl) | rfl)
    all_goals first | (show sy.length ≤ 100; decide) | exact hc | (have := HST.out; omega) | (show List.length (_ :: _ :: ltr _) ≤ 100; exact (by decide : 3 ≤ 100))))
  have HB := Lib.hid WW.out.below
  clear WW RR c0 c1 c2 c3 c4
  refine HJ.out.mono ?_
  rintro e w9 ⟨rfl, g9⟩
  have B9 := Lib.hid (HB.out.trans (g9.mono HB.out.size))
  clear g9
  go_wp2_with fail
  go_ret
  exact ⟨rfl, B9.out⟩
end Go.Proofs.YtfnlgfacadmjpaaGreatDoor.Bu
namespace Go.Proofs.YtfnlgfacadmjpaaGreatDoor.Bu
open Go.RowKit

/-- The words of a first line: the last of four may have spaces. -/
def hws (s : List UInt8) : List (List UInt8) := Lib.splitK [32] 0 3 s
theorem hws_len (s : List UInt8) : (hws s).length ≤ 4 ∧ ∀ x ∈ hws s, x.length ≤ s.length := splitK_len 3 s
theorem hws_short {s : List UInt8} (h : s.length ≤ 3) : Lib.splitK [32] 0 s.length s = hws s := by
  have hc := wd_count s
  unfold hws
  rw [(Wrd.splitK_wd s s.length).1 hc, (Wrd.splitK_wd s 3).1 (by omega)]
theorem split4_any (s : List UInt8) (w : World) (hs : s.length ≤ 100000) (hE : Env w) :
    Calls Tryz.prog 87 #[.string (S s), .string ⟨#[32]⟩, .int .i64 4] w fun e w' => e = .returned (.slice (some ⟨w.heap.size, 0, none⟩) (hws s).length (min 4 (s.length + 1))) ∧ WIn w' (.slice (some ⟨w.heap.size, 0, none⟩) (hws s).length (min 4 (s.length + 1))) (hws s) ∧ Below w.heap.size w w' := by
  obtain ⟨m, hm⟩ := hE.ml
  have hsz : (S s).size = s.length := S_size _
  have hs := Tryz.strings_SplitN (S s) ⟨#[32]⟩ 4 m w (by rw [hsz]; omega) hm (by decide) (by decide) (by decide)
  rw [hsz] at hs
  have hp : Lib.splitB ⟨#[32]⟩ 0 (min 4 (s.length + 1) - 1) (S s) = (hws s).map S := by
    refine map_S ?_
    rw [Lib.splitB_data, S_list]
    by_cases h : s.length ≤ 3
    · rw [show min 4 (s.length + 1) - 1 = s.length by omega]; exact hws_short h
    · rw [show min 4 (s.length + 1) - 1 = 3 by omega]; rfl
  have hc4 : min 4 (s.length + 1) ≤ 4 := Nat.min_le_left _ _
  have hcap : (hws s).length ≤ min 4 (s.length + 1) := by
    by_cases h : s.length ≤ 3
    · rw [← hws_short h]; have := (splitK_len s.length s).1; omega
    · have := (hws_len s).1; omega
  rw [hp, List.length_map] at hs
  generalize min 4 (s.length + 1) = cap at *
  generalize hws s = ws at *
  refine hs.mono fun e w' ⟨he, hw⟩ => ⟨he, ?_, ?_⟩
  · subst hw
    refine ⟨_, cap, rfl, hcap, by omega, fun i hi => ⟨w.heap.size, 0, rfl, by simp, ?_⟩⟩
    have hb := heap_alloc_new w (.cells (Lib.cellsOf (ws.map S) cap) 9)
    unfold World.cell?
    rw [hb]
    have hc : (Lib.cellsOf (ws.map S) cap)[0 + i]? = some (.string (S ws[i])) := by
      unfold Lib.cellsOf
      rw [Nat.zero_add, List.getElem?_toArray, List.getElem?_append_left (by simpa using hi), List.getElem?_map, List.getElem?_map, List.getElem?_eq_getElem hi]
      rfl
    simpa using hc
  · subst hw
    exact (Below.refl _ _).alloc (Nat.le_refl _) _
end Go.Proofs.YtfnlgfacadmjpaaGreatDoor.Bu
