/- The walk of TimelineSpike. -/
import Derived.Test.YtlakgkoohdfiaaaDoorTmZ
namespace Go.Proofs.YtlakgkoohdfiaaaDoor.Tm
open Go.RowKit Go.Great

theorem Ho.cell7 {w Y : World} {r : Option Nat} {Q : List Rp} {g n cap : Nat} (h : Ho w r Q (.slice (some ⟨g, 0, none⟩) n cap) Y) {i : Nat} (hi : i < Q.length) : Y.cell? ⟨g, i * 8 + 7, none⟩ = some Q[i].u ∧ Y.frozen? ⟨g, i * 8 + 7, none⟩ = false := by
  constructor
  · obtain ⟨A, cap', e, -, -, hat⟩ := h.ins
    injection e with e1 e2 e3
    obtain ⟨g', off, hA, -, h8, -⟩ := hat i hi
    rw [hA] at e1
    injection e1 with e1
    injection e1 with e4 e5
    subst e4
    subst e5
    have := h8.2.2.2.2.2.2.2
    rw [Nat.zero_add] at this
    exact this
  · obtain ⟨c1, h1, -⟩ := row_own h.own rfl
    exact Row.thaw h1 _
theorem Hly.er {f : Nat → Int} {Q : List Rp} {cs : Array Value} {S P : Int → Int} (h : Hly f Q) (hb : ∀ j, j < Q.length → 9000 ≤ f j ∧ f j ≤ 10900) (hl : Q.length ≤ 10) (hc : CtB cs S P) : erT Q S P = 0 := by
  refine erT_zero hc.s hc.p (fun r hr => ?_) (fun r hr => ?_) h.dis
  · obtain ⟨j, hj, rfl⟩ := List.getElem_of_mem hr
    rw [(h j hj).2.2.2.2]; exact val1 (hb j hj).1 (hb j hj).2
  · obtain ⟨j, hj, rfl⟩ := List.getElem_of_mem hr
    rw [(h j hj).2.2.1]; omega
theorem Hly.nms {f : Nat → Int} {Q : List Rp} (h : Hly f Q) : ∀ r ∈ Q, r.nm.size ≤ 40 := fun r hr => by
  obtain ⟨j, hj, rfl⟩ := List.getElem_of_mem hr
  rw [(h j hj).2.1]; decide
theorem Hly.set {f : Nat → Int} {Q : List Rp} (h : Hly f Q) {i : Nat} (hi : i < Q.length) (u : Value) (z : Int) : Hly (fun j => if j = i then z else f j) (Q.set i (rpU Q[i] u [((1 : Int), z)])) := fun j hj => by
  rw [List.length_set] at hj
  obtain ⟨a1, a2, a3, a4, a5⟩ := h j hj
  by_cases e : i = j
  · subst e
    rw [List.getElem_set_self]
    exact ⟨a1, a2, a3, a4, by simp [rpU]⟩
  · rw [List.getElem_set_ne e]
    exact ⟨a1, a2, a3, a4, by show _ = [((1 : Int), if j = i then z else f j)]; rw [a5, if_neg (fun q => e q.symm)]⟩
theorem Hly.more {f : Nat → Int} {Q : List Rp} (h : Hly f Q) (hb : ∀ j, j < Q.length → 9988 ≤ f j ∧ f j ≤ 10012) {x : Int} (hx : 9988 ≤ x ∧ x ≤ 10012) (u : Value) {t : Int} (ht : t = 60 * (Q.length : Int)) : ∃ f', Hly f' (Q ++ [⟨1, nmA, t, 0, 0, 0, 0, u, [((1 : Int), x)]⟩]) ∧ ∀ j, j < (Q ++ [(⟨1, nmA, t, 0, 0, 0, 0, u, [((1 : Int), x)]⟩ : Rp)]).length → 9988 ≤ f' j ∧ f' j ≤ 10012 := by
  have h' : Hly (fun j => if j < Q.length then f j else x) Q := fun j hj => by
    obtain ⟨a1, a2, a3, a4, a5⟩ := h j hj
    exact ⟨a1, a2, a3, a4, by show _ = [((1 : Int), if j < Q.length then f j else x)]; rw [a5, if_pos hj]⟩
  refine ⟨_, h'.snoc (by show (if Q.length < Q.length then f Q.length else x) = x; rw [if_neg (Nat.lt_irrefl _)]) u ht, fun j hj => ?_⟩
  by_cases e : j < Q.length
  · simp only [e, if_true]; exact hb j e
  · simp only [e, if_false]; exact hx
theorem flag_new (Y : World) (i : Nat) : In3 flE (Y.alloc (.cells #[.int .i64 (i : Int), .int .i64 1, .int .i64 4] 77)) (.slice (some ⟨Y.heap.size, 0, none⟩) 1 1) [(i, 1)] := by
  have hr := Row.new Y #[.int .i64 (i : Int), .int .i64 1, .int .i64 4] 77
  refine ⟨_, 1, rfl, Nat.le_refl _, by decide, fun k hk => ⟨Y.heap.size, 0, rfl, hr.lt, fun j hj => ?_⟩⟩
  obtain rfl : k = 0 := by simp at hk; omega
  rw [hr.cell]
  rcases (by omega : j = 0 ∨ j = 1 ∨ j = 2) with rfl | rfl | rfl <;> rfl
set_option maxRecDepth 100000 in
set_option maxHeartbeats 8000000 in
theorem timelineSpike_any (l : Value) (by_ : Int) (W : World) (hT : El.Tab W) (hI : ListIn W l) (hc : I64 by_) :
    Calls Tryd.prog 8 #[l, .int .i64 by_] W fun e w' => e = .returned (.bool true) ∧ Below W.heap.size W w' := by
  obtain ⟨i0, hi0, hz0, hz1, hz2⟩ := info_parts infoReport
  go_enter Tryd.func8, Tryd.ntmps8
  go_wp2_with fail
  refine (new_any W l hI).mono ?_
  rintro e w1 ⟨rfl, hs1, -⟩
  obtain ⟨b, hb⟩ : ∃ b, W.heap.size = b := ⟨_, rfl⟩
  rw [hb] at hs1 ⊢
  have HGB := Lib.hid hb
  clear hb
  have hr0 := Row.new w1 cs0 67
  have q0 := hr0.cell 14
  have f0 := hr0.thaw 14
  have q1 : cs0[14]? = some (.int .i64 0) := rfl
  rw [q1] at q0
  have hc1 : CtB (cs0.setIfInBounds 14 (.int .i64 50)) P0 P50 := (cs1_ok 0 0 0 0 0).setP (c := 1) (by decide) (x := 50) (by decide) (by decide)
  have I0 : Hid (Src W b (w1.alloc (.cells #[.int .i64 0, .int .i64 0, .int .i64 0, .int .i64 0, .int .i64 0, .int .i64 0, .int .i64 0, .int .i64 0, .int .i64 0, .int .i64 0, .int .i64 0, .int .i64 0, .int .i64 0, .int .i64 0, .int .i64 50, .int .i64 0, .int .i64 0, .int .i64 0, .int .i64 0, .int .i64 0, .int .i64 0, .int .i64 0, .int .i64 0, .int .i64 0, .int .i64 0, .int .i64 0, .int .i64 0, .int .i64 0, .int .i64 0, .int .i64 0, .int .i64 0, .int .i64 0, .int .i64 0, .int .i64 0, .int .i64 0, .int .i64 0, .int .i64 0, .int .i64 0, .int .i64 0, .int .i64 0, .int .i64 0] 67)) ∧ Row (w1.alloc (.cells #[.int .i64 0, .int .i64 0, .int .i64 0, .int .i64 0, .int .i64 0, .int .i64 0, .int .i64 0, .int .i64 0, .int .i64 0, .int .i64 0, .int .i64 0, .int .i64 0, .int .i64 0, .int .i64 0, .int .i64 50, .int .i64 0, .int .i64 0, .int .i64 0, .int .i64 0, .int .i64 0, .int .i64 0, .int .i64 0, .int .i64 0, .int .i64 0, .int .i64 0, .int .i64 0, .int .i64 0, .int .i64 0, .int .i64 0, .int .i64 0, .int .i64 0, .int .i64 0, .int .i64 0, .int .i64 0, .int .i64 0, .int .i64 0, .int .i64 0, .int .i64 0, .int .i64 0, .int .i64 0, .int .i64 0] 67)) w1.heap.size 67 (cs0.setIfInBounds 14 (.int .i64 50))) := Lib.hid ⟨hs1.under ((Below.refl _ _).alloc (Nat.le_refl _) _), Row.new _ _ _⟩
  have hbl := src_lt hs1
  go_upto_region 4 with fail
  clear q0 f0 hr0 q1 hs1
  refine forget (fun Y => Hid (Src W b Y ∧ Row Y w1.heap.size 67 (cs0.setIfInBounds 14 (.int .i64 50)))) I0 ?_
  clear I0
  generalize cs0.setIfInBounds 14 (.int .i64 50) = cs at *
  have HC := Lib.hid hc1
  clear hc1
  obtain ⟨gc, hgc⟩ : ∃ g, w1.heap.size = g := ⟨_, rfl⟩
  rw [hgc] at hbl ⊢
  clear hgc
  have HBL := Lib.hid hbl
  clear hbl
  rintro Y1 I1
  go_wp2_with fail
  refine (range_any W b Y1 3 10 I1.out.1 (by decide) (by decide) (by decide) (by decide)).mono ?_
  rintro e w2 ⟨n, ⟨n1, n2⟩, rfl, s2, g2⟩
  obtain ⟨m, rfl⟩ := Int.eq_ofNat_of_zero_le (by omega : 0 ≤ n)
  have HR2 := Lib.hid (I1.out.2.grown g2 (fun e => by injection e with e; have := HBL.out; omega))
  have HS2 := Lib.hid s2
  have O2 := Lib.hid (Ho.nil w2 (some b) (fun b' e => by injection e with e; have := src_lt s2; omega))
  clear s2 g2 I1
  go_wp2_with fail
  go_loopw [7, 9] (fun v7 t9 wr => ∃ (R : List Rp) (j : Nat), t9 = .int .i64 (j : Int) ∧ j ≤ m ∧ R.length = j ∧ Hid (Src W b wr) ∧ Hid (Ho w2 (some b) R v7 wr) ∧ Hid (∃ f, Hly f R ∧ ∀ i, i < R.length → 9988 ≤ f i ∧ f i ≤ 10012)) (fun _ t9 _ => m - (intOf t9).toNat)
  case atStart => exact ⟨[], 0, rfl, by omega, rfl, HS2, O2, Lib.hid ⟨fun _ => 10000, fun j h => absurd h (Nat.not_lt_zero j), fun j h => absurd h (Nat.not_lt_zero j)⟩⟩
  case round =>
    clear O2
    obtain ⟨R, j, rfl, hj, hRl, HS, HO, HL⟩ := hrel
    by_cases hjm : j < m
    · have k0 : (j : Int) < (m : Int) := by omega
      have htw : IntKind.i64.wrap (60 * (j : Int)) = 60 * (j : Int) := IntWalk.i64_in _ (by omega)
      go_wp2_with fail
      refine (range_any W b wr (-12) 12 HS.out (by decide) (by decide) (by decide) (by decide)).mono ?_
      rintro e w3 ⟨x0, ⟨x1, x2⟩, rfl, s3, g3⟩
      obtain ⟨x, hx⟩ : ∃ x, 10000 + x0 = x := ⟨_, rfl⟩
      have hxw : IntKind.i64.wrap (10000 + x0) = x := by rw [hx]; exact IntWalk.i64_in _ (by omega)
      have HO3 := Lib.hid (HO.out.step g3)
      have HS3 := Lib.hid s3
      clear s3 g3 HO HS
      have b2 := (Below.refl w3.heap.size w3).alloc (Nat.le_refl _) (.cells #[.int .i64 1, .int .i64 x] 81)
      have Hu := rd_new w3 [((1 : Int), x)] (by simp) (by simp) #[.int .i64 1, .int .i64 x] rfl
      have Hu2 := own_base Hu (show w2.heap.size ≤ w3.heap.size from HO3.out.gro.size)
      have hz1' : (w3.alloc (.cells #[.int .i64 1, .int .i64 x] 81)).heap.size = w3.heap.size + 1 := Array.size_push _
      have HC9 := eight_at (r := (⟨1, nmA, 60 * (j : Int), 0, 0, 0, 0, .slice (some ⟨w3.heap.size, 0, none⟩) 1 1, [((1 : Int), x)]⟩ : Rp)) (Row.new (w3.alloc (.cells #[.int .i64 1, .int .i64 x] 81)) (repC 1 nmA (60 * (j : Int)) 0 0 0 0 (.slice (some ⟨w3.heap.size, 0, none⟩) 1 1)) 38)
      rw [hz1'] at HC9
      have HC9 := Lib.hid HC9
      have b3 := (Below.refl (w3.alloc (.cells #[.int .i64 1, .int .i64 x] 81)).heap.size (w3.alloc (.cells #[.int .i64 1, .int .i64 x] 81))).alloc (Nat.le_refl _) (.cells (repC 1 nmA (60 * (j : Int)) 0 0 0 0 (.slice (some ⟨w3.heap.size, 0, none⟩) 1 1)) 38)
      have H3 := Lib.hid ((HO3.out.under b2).under b3)
      have Hu3 := Lib.hid (El.own_under Hu2 b3)
      have HS4 := Lib.hid ((HS3.out.under b2).under b3)
      obtain ⟨f, hf, hfb⟩ := HL.out
      have HN := Lib.hid (hf.more hfb (x := x) (by omega) (.slice (some ⟨w3.heap.size, 0, none⟩) 1 1) (t := 60 * (j : Int)) (congrArg (fun n : Nat => 60 * (n : Int)) hRl.symm))
      clear hf hfb b2 b3 Hu Hu2 HO3 HS3 HL hz1'
      go_wp2_with (at_builtin; go_loud (refine wpList_append_own' rfl (.tmp 27) (.tmp 36) 25 rfl w2.heap.size 38 i0 (repV 0 ⟨#[]⟩ 0 0 0 0 0 (.slice none 0 0)) 8 88 Tryd.underlying25 hi0 hz0 hz1 hz2 rfl (by decide) u7 R.length (rpc R) rfl H3.out.own ⟨w3.heap.size + 1, 0, none⟩ 1 1 (rpCells (⟨1, nmA, 60 * (j : Int), 0, 0, 0, 0, .slice (some ⟨w3.heap.size, 0, none⟩) 1 1, [((1 : Int), x)]⟩ : Rp)) rfl rfl HC9.out (fun z hz => by simp only [rpCells, List.mem_cons, List.not_mem_nil, or_false] at hz; rcases hz with rfl | rfl | rfl | rfl | rfl | rfl | rfl | rfl <;> rfl) (by unfold maxLen; omega) (by omega) H3.out.gro.size ?_); intro v9 w9 ho9 hg9; have HW9 := Lib.hid (And.intro ho9 hg9); clear ho9 hg9)
      have H9 := Lib.hid (H3.out.app (q := (⟨1, nmA, 60 * (j : Int), 0, 0, 0, 0, .slice (some ⟨w3.heap.size, 0, none⟩) 1 1, [((1 : Int), x)]⟩ : Rp)) Hu3.out HW9.out.1 HW9.out.2)
      have HS9 : Hid (Src W b w9) := Lib.hid (El.src_kept HS4.out HW9.out.2 (fun e => by have := row_base H3.out.own e; have := src_lt HS2.out; omega) (fun i e => by have := row_base H3.out.own e; have := HS2.out.below.size; omega))
      clear HW9 H3 Hu3 HC9 HS4
      exact ⟨⟨_, j + 1, by go_num, by omega, by rw [List.length_append, hRl]; rfl, HS9, H9, HN⟩, by simp [intOf]; omega⟩
    · obtain rfl : j = m := by omega
      have hnw : IntKind.i64.wrap ((j : Int) - 2) = (j : Int) - 2 := IntWalk.i64_in _ (by omega)
      go_wp2_with fail
      refine (range_any W b wr 1 ((j : Int) - 2) HS.out (by omega) (by omega) (by decide) (by omega)).mono ?_
      rintro e w4 ⟨i', ⟨i1, i2⟩, rfl, s4, g4⟩
      obtain ⟨i, rfl⟩ := Int.eq_ofNat_of_zero_le (by omega : 0 ≤ i')
      have HO4 := Lib.hid (HO.out.step g4)
      clear s4 g4 HO HS
      go_wp2_with fail
      refine (mod_any by_ 800 w4 hc (by decide) (by decide)).mono ?_
      rintro e _ ⟨rfl, rfl⟩
      obtain ⟨d, hd0⟩ : ∃ d, 100 + by_ % 800 = d := ⟨_, rfl⟩
      have hd1 : 100 ≤ d ∧ d ≤ 899 := by omega
      have hdw : IntKind.i64.wrap (100 + by_ % 800) = d := by rw [hd0]; exact IntWalk.i64_in _ (by omega)
      have hdw2 : IntKind.i64.wrap (10000 + d) = 10000 + d := IntWalk.i64_in _ (by omega)
      have hil : i < R.length := by omega
      obtain ⟨Ar, cr, hvr⟩ := row_form HO4.out.own
      subst hvr
      obtain ⟨gl, hgl, hgb, hgt⟩ := HO4.out.at (by omega)
      subst hgl
      have b5 := (Below.refl w4.heap.size w4).alloc (Nat.le_refl _) (.cells #[.int .i64 1, .int .i64 (10000 + d)] 81)
      have Hu5 := own_base (rd_new w4 [((1 : Int), 10000 + d)] (by simp) (by simp) #[.int .i64 1, .int .i64 (10000 + d)] rfl) (show w2.heap.size ≤ w4.heap.size from HO4.out.gro.size)
      have H5 := HO4.out.under b5
      have H6 := Lib.hid (H5.put hil (.slice (some ⟨w4.heap.size, 0, none⟩) 1 1) [((1 : Int), 10000 + d)] Hu5)
      obtain ⟨c7, f7⟩ := H5.cell7 hil
      clear b5 Hu5 H5 HO4
      rw [hRl, World.setCell_alloc_past _ _ _ _ hgt] at H6
      have i3 : (i : Int) < (j : Int) := by omega
      have i4 : (0 : Int) ≤ (i : Int) := by omega
      go_upto_region 13 with fail
      obtain ⟨f, hf, hfb⟩ := HL.out
      have hq := hf.set hil (.slice (some ⟨w4.heap.size, 0, none⟩) 1 1) (10000 + d)
      have HLi := Lib.hid (show ∀ h : i < (R.set i (rpU R[i] (.slice (some ⟨w4.heap.size, 0, none⟩) 1 1) [((1 : Int), 10000 + d)])).length, ((R.set i (rpU R[i] (.slice (some ⟨w4.heap.size, 0, none⟩) 1 1) [((1 : Int), 10000 + d)]))[i]).L = [((1 : Int), 10000 + d)] from fun h => by rw [List.getElem_set_self]; rfl)
      have hQl : (R.set i (rpU R[i] (.slice (some ⟨w4.heap.size, 0, none⟩) 1 1) [((1 : Int), 10000 + d)])).length = j := by rw [List.length_set]; exact hRl
      have hiQ : i < (R.set i (rpU R[i] (.slice (some ⟨w4.heap.size, 0, none⟩) 1 1) [((1 : Int), 10000 + d)])).length := by rw [hQl]; omega
      refine forget (fun Y => Hid (Ho w2 (some b) (R.set i (rpU R[i] (.slice (some ⟨w4.heap.size, 0, none⟩) 1 1) [((1 : Int), 10000 + d)])) (.slice (some ⟨gl, 0, none⟩) j cr) Y)) H6 ?_
      clear H6 c7 f7 HL
      generalize R.set i (rpU R[i] (.slice (some ⟨w4.heap.size, 0, none⟩) 1 1) [((1 : Int), 10000 + d)]) = Q at *
      rintro Y6 H6
      have HF1 := Lib.hid (spike_flg hq (i := i) (by omega) (by omega) (fun k hk hne => by simp only [if_neg hne]; exact hfb k (by omega)) (by simp only [if_true]; omega))
      have HE := Lib.hid (hq.er (fun k hk => by
        by_cases e : k = i
        · simp only [e, if_true]; omega
        · simp only [e, if_false]; have := hfb k (by omega); omega) (by omega) HC.out)
      have HNm := Lib.hid hq.nms
      have HR6 := HR2.out.grown H6.out.gro (fun e => by injection e with e; have := HBL.out; have := HR2.out.lt; omega)
      have HB6 : Hid (Below W.heap.size W Y6) := Lib.hid (HS2.out.below.grown H6.out.gro HS2.out.below.size (fun i e => by injection e with e; have := HGB.out; omega))
      have HT6 := Lib.hid (hT.under HB6.out)
      have HI6 := Lib.hid H6.out.ins
      clear H6 hq hf hfb hil hRl
      have hcs : (Tryd.prog.info? 67).map (·.size) = some cs.size := by rw [HC.out.ct.size]; kernel_rfl
      have hbox : Y6.heap[gc]? = some (.cells cs 67 (0, 0)) := HR6
      go_wp2_with (refine wpList_load_row rfl 67 (.tmp 6) rfl gc rfl 67 cs (0, 0) _ hbox Tryd.underlying67 rfl hcs ?_)
      refine (check_any _ Q cs P0 P50 Y6 HI6.out HC.out.ct HT6.out (by omega) HNm.out).mono ?_
      rintro e Y7 ⟨va, rfl, hb7, -, hz7⟩
      rw [HE.out] at *
      have HI7 := HI6.out.under hb7
      have HB7 := Lib.hid (HB6.out.trans (hb7.mono HB6.out.size))
      have HFa := Lib.hid (In3.own flE_len (hz7 rfl))
      rw [HF1.out] at HFa
      clear hb7 hz7 HI6 HB6 HT6 HR6 hbox HF1 HE HNm
      obtain ⟨A, cap', e, -, -, hat⟩ := HI7
      injection e with e1 e2 e3
      obtain ⟨g', off, hA, -, h8, hrd⟩ := hat i hiQ
      rw [hA] at e1
      injection e1 with e1
      injection e1 with e4 e5
      subst e4
      subst e5
      have c7 := h8.2.2.2.2.2.2.2
      rw [Nat.zero_add] at c7
      rw [HLi.out hiQ] at hrd
      clear h8 hat e2 e3
      obtain ⟨uu, huu⟩ : ∃ u, Q[i].u = u := ⟨_, rfl⟩
      rw [huu] at c7 hrd
      clear huu
      obtain ⟨Au, cu, eu, -⟩ := id hrd
      have eu' : uu = .slice Au 1 cu := eu
      subst eu'
      clear eu
      have HFi := Lib.hid (El.refFind_any _ [((1 : Int), 10000 + d)] 1 Y7 hrd)
      clear hrd
      go_wp2_with fail
      refine HFi.out.mono ?_
      rintro e Y8 ⟨rfl, g8⟩
      rw [show El.Elt.fnd [((1 : Int), 10000 + d)] 1 = some (10000 + d) from rfl]
      have HB8 := Lib.hid (HB7.out.trans (g8.mono HB7.out.size))
      have ba := (Below.refl Y8.heap.size Y8).alloc (Nat.le_refl _) (.cells #[.int .i64 (i : Int), .int .i64 1, .int .i64 4] 77)
      have HV := Lib.hid ((HFa.out.under g8).under ba)
      have HN := Lib.hid (flag_new Y8 i)
      have HB9 := Lib.hid (HB8.out.trans (ba.mono HB8.out.size))
      clear g8 ba HFi HFa HB7 HB8 c7
      go_wp2_with fail
      refine (flags_any _ _ _ _ _ HV.out HN.out).mono ?_
      rintro e X9 ⟨rfl, b9⟩
      have HB10 := Lib.hid (HB9.out.trans (b9.mono HB9.out.size))
      clear b9 HB9 HV HN
      rw [show decide (([(i, (1 : Int))] : List (Nat × Int)) = [(i, 1)]) = true from decide_eq_true rfl]
      have HT9 := Lib.hid (hT.under HB10.out)
      go_wp2_with fail
      refine (awake_any X9 HT9.out).mono ?_
      rintro e X10 ⟨rfl, b10⟩
      have HF := Lib.hid (HB10.out.trans (b10.mono HB10.out.size))
      clear b10 HB10 HT9
      go_wp2_with fail
      go_ret
      exact ⟨rfl, HGB.out ▸ HF.out⟩
end Go.Proofs.YtlakgkoohdfiaaaDoor.Tm
