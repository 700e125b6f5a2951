/- The contract of Check. -/
import Derived.Test.YtngbjccfmglbaaaDoorLmD
namespace Go.Proofs.YtngbjccfmglbaaaDoor
open Go.RowKit

theorem ck_of (L : List Elt.R) : Lm.Ck L (Lib.compact ((Lm.raw L).mergeSort fun x y => decide (x ≤ y))) := by
  have hs := (List.pairwise_mergeSort (le := fun x y : Int => decide (x ≤ y)) (fun a b c h1 h2 => decide_eq_true (Int.le_trans (of_decide_eq_true h1) (of_decide_eq_true h2))) (fun a b => by simp only [Bool.or_eq_true, decide_eq_true_eq]; omega) (Lm.raw L)).imp (S := fun x y => x ≤ y) fun h => of_decide_eq_true h
  obtain ⟨h1, h2⟩ := Lm.compact_sorted hs
  exact ⟨h1, fun x => (h2 x).trans (List.mergeSort_perm _ _).mem_iff⟩
/-- What Check answers. -/
def ChkR (W : World) (L : List Elt.R) (e : Ending) (w : World) : Prop := ∃ u C, e = .returned u ∧ Lm.Ck L C ∧ Below W.heap.size W w ∧ NmIn w u C
theorem raw_len {L : List Elt.R} (h : L.length ≤ 100) : (Lm.raw L).length ≤ 104 := by
  have := Lm.bads_len' L
  unfold Lm.raw
  rw [List.length_append, List.length_append]
  cases Lm.wet L <;> cases Lm.storm L <;> simp <;> omega
theorem nmc_app (C D : List Int) : nmc C ++ nmc D = nmc (C ++ D) := by simp [nmc]
theorem chk_end {W w : World} {L : List Elt.R} {C : List Int} {u : Value} (hl : L.length ≤ 100) (hC : C = Lm.raw L) (h : Zt W C u w) (Q : Ending → World → Prop) (hQ : ∀ e w', ChkR W L e w' → Q e w') :
    Calls Tryd.prog 22 #[u] w (fun e w1 => e = .returned (.tuple #[]) ∧ Calls Tryd.prog 23 #[u] w1 Q) := by
  subst hC
  have hn := raw_len hl
  refine (sortZ_any w _ u _ h.own (by omega)).mono ?_
  rintro e w1 ⟨rfl, g1, o1⟩
  refine ⟨rfl, ?_⟩
  have el : ((Lm.raw L).mergeSort fun x y => decide (x ≤ y)).length = (Lm.raw L).length := List.length_mergeSort _
  rw [← el] at o1
  have b1 := below_own h.below h.below.size h.own g1
  refine (compZ_any w1 _ u _ o1 (by omega)).mono ?_
  rintro e w2 ⟨v, rfl, g2, o2⟩
  exact hQ _ _ ⟨v, _, rfl, ck_of L, below_own b1 b1.size o1 g2, NmIn.own o2⟩
/-- Two numbers more. -/
theorem Zt.two {W w w' : World} {C : List Int} {u : Value} {g' cap' : Nat} {a b : Int} (h : Zt W C u w)
    (hown : w'.ownsRow W.heap.size 3 1 (.slice (some ⟨g', 0, none⟩) (C.length + 2) cap') (C.length + 2) (nmc C ++ [.int .i64 a, .int .i64 b])) (hg : w.grownBy w' u.ownBlock) : Zt W (C ++ [a, b]) (.slice (some ⟨g', 0, none⟩) (C.length + 2) cap') w' :=
  h.more (E := C ++ [a, b]) (by simp) (by simp [nmc]) hown hg
theorem Zt.one {W w w' : World} {C : List Int} {u : Value} {g' cap' : Nat} {a : Int} (h : Zt W C u w)
    (hown : w'.ownsRow W.heap.size 3 1 (.slice (some ⟨g', 0, none⟩) (C.length + 1) cap') (C.length + 1) (nmc C ++ [.int .i64 a])) (hg : w.grownBy w' u.ownBlock) : Zt W (C ++ [a]) (.slice (some ⟨g', 0, none⟩) (C.length + 1) cap') w' :=
  h.more (E := C ++ [a]) (by simp) (by simp [nmc]) hown hg
theorem RdIn.kept {w w' : World} {v : Value} {L : List Elt.R} {r : Option Nat} (h : RdIn w v L) (hg : w.grownBy w' r) (hne : ∀ j, v.ownBlock = some j → some j ≠ r) : RdIn w' v L := by
  obtain ⟨A, cap, rfl, h1, h2, h3⟩ := h
  refine ⟨A, cap, rfl, h1, h2, fun i hi => ?_⟩
  obtain ⟨g, off, rfl, hgl, c0, c1⟩ := h3 i hi
  have hb := hg.block g hgl (hne g rfl)
  exact ⟨g, off, rfl, Nat.lt_of_lt_of_le hgl hg.size, (World.cell?_of_block (a := ⟨g, off + i * 2, none⟩) hb).trans c0, (World.cell?_of_block (a := ⟨g, off + i * 2 + 1, none⟩) hb).trans c1⟩
set_option maxRecDepth 100000 in
set_option maxHeartbeats 2000000 in
theorem check_any (v : Value) (L : List Elt.R) (w : World) (hL : RdIn w v L) (hs : Smalls L) (hE : Env w) :
    Calls Tryd.prog 8 #[v] w (ChkR w L) := by
  obtain ⟨i0, hi, hz0, hz1, hz2⟩ := info_parts infoInt
  have HV : Hid (RdIn w v L) := Lib.hid hL
  obtain ⟨A, cap, rfl, h1, h2, -⟩ := id hL
  have HL := Lib.hid hL
  have HS0 := Lib.hid hs
  have HE := Lib.hid hE
  have hl : L.length ≤ 100 := hs.1
  clear hL hs hE
  go_enter Tryd.func8, Tryd.ntmps8
  go_wp2_with fail
  go_loopw [3, 9] (fun u t wr => ∃ k : Nat, k ≤ L.length ∧ t = .int .i64 k ∧ Zt w (Lm.bads (L.take k)) u wr) (fun _ t _ => L.length - (intOf t).toNat)
  case atStart => exact ⟨0, Nat.zero_le _, rfl, Below.refl _ _, World.ownsRow_nil _ _ _ _⟩
  case round =>
    obtain ⟨k, hk, rfl, hS⟩ := hrel
    by_cases hlt : k < L.length
    · have hR := HL.out.under hS.below
      obtain ⟨A', cap', e, -, -, hR⟩ := hR
      injection e with e1 e2 e3
      subst e1
      obtain ⟨g, off, rfl, hgl, c0, c1⟩ := hR k hlt
      have k0 : (0 : Int) ≤ (k : Int) := by omega
      have k1 : (k : Int) < (L.length : Int) := by omega
      have hml := Lm.bads_len L k
      have HN := Lib.hid (Lm.bads_snoc L k hlt)
      clear hR e3
      generalize L[k] = x at *
      obtain ⟨a, b⟩ := x
      generalize hM : Lm.bads (L.take k) = M at *
      have HM := Lib.hid hM; clear hM
      have HS := Lib.hid hS; clear hS
      simp only at c0 c1
      go_upto_region 5 with fail
      refine forget (fun Y => Zt w M «u3» Y ∧ Row Y wr.heap.size 30 #[.int .i64 a, .int .i64 b]) ⟨HS.out.under ((Below.refl _ _).alloc (Nat.le_refl _) _), Row.new _ _ _⟩ ?_
      clear c0 c1 HS
      generalize wr.heap.size = gr at *
      rintro Y ⟨hS, rY⟩
      obtain ⟨p0, p1⟩ := row2 rY
      have HW := Lib.hid (gross_any a b Y (HE.out.under hS.below))
      have HS := Lib.hid hS
      have RY := Lib.hid rY
      clear hS rY
      go_wp2_with fail
      refine HW.out.mono ?_
      rintro e w2 ⟨rfl, g2⟩
      have S2 := HS.out.under g2
      have r2 := RY.out.under g2
      obtain ⟨p0, p1⟩ := row2 r2
      clear g2 HW HS RY r2
      cases hg : Lm.gr a b with
      | true =>
        have HK : Hid (Lm.bads (L.take (k + 1)) = M) := Lib.hid (by rw [HN.out]; simp only [hg]; simp)
        have S3 := Lib.hid S2
        clear hg S2
        go_wp2_with fail
        go_roundw
        case rel => exact ⟨k + 1, by omega, by go_num, by rw [HK.out]; exact S3.out⟩
        case measure => simp [intOf]; omega
      | false =>
        have HK : Hid (Lm.bads (L.take (k + 1)) = M ++ [a]) := Lib.hid (by rw [HN.out]; simp only [hg]; simp)
        have S3 := Lib.hid (S2.under ((Below.refl _ _).alloc (Nat.le_refl _) (.cells #[.int .i64 a] 3)))
        clear hg S2
        go_wp2_with (at_builtin; refine wpList_append_lies _ rfl (.tmp 16) (.tmp 19) 22 rfl w.heap.size 3 i0 _ 1 8 Tryd.underlying22 hi hz0 hz1 hz2 rfl (by decide) «u3» M.length (nmc M) rfl S3.out.own ⟨w2.heap.size, 0, none⟩ 1 1 [.int .i64 a] rfl rfl (World.news_of_block (cs := #[.int .i64 a]) (t := 3) (fr := (0, 0)) (heap_alloc_new w2 _)) (by simp [Value.oneCell']) (by omega) (by unfold maxLen; omega) (by omega) S3.out.below.size (w2.heap.size + 1) (by simp) ?_; intro g' cap' w4 hown4 hgrow4 hat4 hlt4; have S4 := Lib.hid (S3.out.one (a := a) hown4 hgrow4); clear hown4 hgrow4 hat4 hlt4)
        go_roundw
        case rel => exact ⟨k + 1, by omega, by go_num, by rw [HK.out]; exact S4.out⟩
        case measure => simp [intOf]; omega
    · have k1 : ¬ (k : Int) < (L.length : Int) := by omega
      have hke : L.take k = L := List.take_of_length_le (by omega)
      rw [hke] at hS
      have hml := Lm.bads_len' L
      have HR : Hid (Lm.raw L = Lm.bads L ++ (if Lm.wet L then [2, 3] else []) ++ (if Lm.storm L then [4, 5] else [])) := Lib.hid rfl
      generalize Lm.bads L = M at *
      have HS := Lib.hid hS
      have HC := Lib.hid (compared_any _ L wr (HL.out.under hS.below) HS0.out)
      clear hS hke
      go_wp2_with fail
      refine HC.out.mono ?_
      rintro e w2 ⟨v2, rfl, g2, hv2, hv3⟩
      have HQ : Hid (∀ j, v2.ownBlock = some j → some j ≠ «u3».ownBlock) := Lib.hid (fun j hj e => by have := hv3 j hj; have := (HS.out.own.lt j e.symm).2; omega)
      clear hv3
      have S2 := Lib.hid (HS.out.under g2)
      have V2 := Lib.hid hv2
      clear g2 hv2 HS HC
      go_wp2_with fail
      refine (tooMoist_any v2 L _ V2.out).mono ?_
      rintro e w3 ⟨rfl, g3⟩
      have S3 := Lib.hid (S2.out.under g3)
      have V3 := Lib.hid (V2.out.under g3)
      clear g3 S2 V2
      cases hw : Lm.wet L with
      | false =>
        rw [hw] at HR
        clear hw
        go_wp2_with fail
        refine (tooFast_any v2 L _ V3.out HS0.out).mono ?_
        rintro e w4 ⟨rfl, g4⟩
        have S4 := Lib.hid (S3.out.under g4)
        clear g4 S3 V3
        cases hst : Lm.storm L with
        | false =>
          rw [hst] at HR
          clear hst
          have HX := Lib.hid (chk_end hl (C := M) (by rw [HR.out]; simp) S4.out (ChkR w L) (fun _ _ h => h))
          clear S4 HR
          go_wp2_with fail
          refine HX.out.mono ?_
          rintro e w8 ⟨rfl, hc⟩
          go_wp2_with fail
          refine hc.mono ?_
          rintro e w9 ⟨u9, C9, rfl, q1, q2, q3⟩
          have Q := Lib.hid (And.intro q1 (And.intro q2 q3))
          clear q1 q2 q3 hc HX
          go_wp2_with fail
          go_ret
          exact ⟨_, _, rfl, Q.out.1, Q.out.2.1, Q.out.2.2⟩
        | true =>
          rw [hst] at HR
          clear hst
          have S4a := Lib.hid (S4.out.under ((Below.refl _ _).alloc (Nat.le_refl _) (.cells #[.int .i64 4, .int .i64 5] 3)))
          go_wp2_with (at_builtin; refine wpList_append_lies _ rfl (.tmp 31) (.tmp 32) 22 rfl w.heap.size 3 i0 _ 1 8 Tryd.underlying22 hi hz0 hz1 hz2 rfl (by decide) «u3» (M).length (nmc (M)) rfl S4a.out.own ⟨w4.heap.size, 0, none⟩ 2 2 [.int .i64 4, .int .i64 5] rfl rfl (World.news_of_block (cs := #[.int .i64 4, .int .i64 5]) (t := 3) (fr := (0, 0)) (heap_alloc_new w4 _)) (by simp [Value.oneCell']) (by omega) (by unfold maxLen; omega) (by omega) S4a.out.below.size (w4.heap.size + 1) (by simp) ?_; intro g' cap' w5 hown4 hgrow4 hat4 hlt4; have S5 := Lib.hid (S4a.out.two (a := 4) (b := 5) hown4 hgrow4); clear hown4 hgrow4 hat4 hlt4)
          have HX := Lib.hid (chk_end hl (C := (M) ++ [4, 5]) (by rw [HR.out]; simp) S5.out (ChkR w L) (fun _ _ h => h))
          clear S5 HR
          go_wp2_with fail
          refine HX.out.mono ?_
          rintro e w8 ⟨rfl, hc⟩
          go_wp2_with fail
          refine hc.mono ?_
          rintro e w9 ⟨u9, C9, rfl, q1, q2, q3⟩
          have Q := Lib.hid (And.intro q1 (And.intro q2 q3))
          clear q1 q2 q3 hc HX
          go_wp2_with fail
          go_ret
          exact ⟨_, _, rfl, Q.out.1, Q.out.2.1, Q.out.2.2⟩
      | true =>
        rw [hw] at HR
        clear hw
        have V3a := Lib.hid (V3.out.under ((Below.refl _ _).alloc (Nat.le_refl _) (.cells #[.int .i64 2, .int .i64 3] 3)))
        have S3a := Lib.hid (S3.out.under ((Below.refl _ _).alloc (Nat.le_refl _) (.cells #[.int .i64 2, .int .i64 3] 3)))
        go_wp2_with (at_builtin; refine wpList_append_lies _ rfl (.tmp 26) (.tmp 27) 22 rfl w.heap.size 3 i0 _ 1 8 Tryd.underlying22 hi hz0 hz1 hz2 rfl (by decide) «u3» (M).length (nmc (M)) rfl S3a.out.own ⟨w3.heap.size, 0, none⟩ 2 2 [.int .i64 2, .int .i64 3] rfl rfl (World.news_of_block (cs := #[.int .i64 2, .int .i64 3]) (t := 3) (fr := (0, 0)) (heap_alloc_new w3 _)) (by simp [Value.oneCell']) (by omega) (by unfold maxLen; omega) (by omega) S3a.out.below.size (w3.heap.size + 1) (by simp) ?_; intro g' cap' w4b hown4 hgrow4 hat4 hlt4; have S4b := Lib.hid (S3a.out.two (a := 2) (b := 3) hown4 hgrow4); have V4b := Lib.hid (RdIn.kept V3a.out hgrow4 HQ.out); clear hown4 hgrow4 hat4 hlt4)
        clear S3a V3a S3 V3
        have HR3 : Hid (Lm.raw L = (M ++ [2, 3]) ++ (if Lm.storm L then [4, 5] else [])) := Lib.hid (by rw [HR.out]; simp)
        have hM2 : (M ++ [(2 : Int), 3]).length ≤ L.length + 2 := by simp; omega
        generalize M ++ [(2 : Int), 3] = M2 at *
        generalize Value.slice (some ⟨g', 0, none⟩) (M.length + 2) cap' = v4 at *
        clear HR
        have HR := HR3
        clear HR3
        go_wp2_with fail
        refine (tooFast_any v2 L _ V4b.out HS0.out).mono ?_
        rintro e w4 ⟨rfl, g4⟩
        have S4 := Lib.hid (S4b.out.under g4)
        clear g4 S4b V4b
        cases hst : Lm.storm L with
        | false =>
          rw [hst] at HR
          clear hst
          have HX := Lib.hid (chk_end hl (C := M2) (by rw [HR.out]; simp) S4.out (ChkR w L) (fun _ _ h => h))
          clear S4 HR
          go_wp2_with fail
          refine HX.out.mono ?_
          rintro e w8 ⟨rfl, hc⟩
          go_wp2_with fail
          refine hc.mono ?_
          rintro e w9 ⟨u9, C9, rfl, q1, q2, q3⟩
          have Q := Lib.hid (And.intro q1 (And.intro q2 q3))
          clear q1 q2 q3 hc HX
          go_wp2_with fail
          go_ret
          exact ⟨_, _, rfl, Q.out.1, Q.out.2.1, Q.out.2.2⟩
        | true =>
          rw [hst] at HR
          clear hst
          have S4a := Lib.hid (S4.out.under ((Below.refl _ _).alloc (Nat.le_refl _) (.cells #[.int .i64 4, .int .i64 5] 3)))
          go_wp2_with (at_builtin; refine wpList_append_lies _ rfl (.tmp 31) (.tmp 32) 22 rfl w.heap.size 3 i0 _ 1 8 Tryd.underlying22 hi hz0 hz1 hz2 rfl (by decide) v4 (M2).length (nmc (M2)) rfl S4a.out.own ⟨w4.heap.size, 0, none⟩ 2 2 [.int .i64 4, .int .i64 5] rfl rfl (World.news_of_block (cs := #[.int .i64 4, .int .i64 5]) (t := 3) (fr := (0, 0)) (heap_alloc_new w4 _)) (by simp [Value.oneCell']) (by omega) (by unfold maxLen; omega) (by omega) S4a.out.below.size (w4.heap.size + 1) (by simp) ?_; intro g' cap' w5 hown4 hgrow4 hat4 hlt4; have S5 := Lib.hid (S4a.out.two (a := 4) (b := 5) hown4 hgrow4); clear hown4 hgrow4 hat4 hlt4)
          have HX := Lib.hid (chk_end hl (C := (M2) ++ [4, 5]) (by rw [HR.out]; simp) S5.out (ChkR w L) (fun _ _ h => h))
          clear S5 HR
          go_wp2_with fail
          refine HX.out.mono ?_
          rintro e w8 ⟨rfl, hc⟩
          go_wp2_with fail
          refine hc.mono ?_
          rintro e w9 ⟨u9, C9, rfl, q1, q2, q3⟩
          have Q := Lib.hid (And.intro q1 (And.intro q2 q3))
          clear q1 q2 q3 hc HX
          go_wp2_with fail
          go_ret
          exact ⟨_, _, rfl, Q.out.1, Q.out.2.1, Q.out.2.2⟩
end Go.Proofs.YtngbjccfmglbaaaDoor
