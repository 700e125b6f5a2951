/- The walk of PlaceSolid: for every vertex the law returns true, and what lay in memory is as it was. -/
import Derived.Test.YteccblhmpggcgaaDoorSolidMath
import Derived.Test.YteccblhmpggcgaaDoorTwelve
import Derived.Test.YteccblhmpggcgaaDoorSrc
import Derived.Deep.Cut
import Derived.Deep.CutRange
import Derived.RegionTactic
import Derived.BigRegion
namespace Go.Proofs.YteccblhmpggcgaaDoor
open Go.RowKit

/-- Block g holds n numbers, F of each place. -/
def Cnt (w : World) (g : Nat) (t : TypeId) (n : Nat) (F : Nat → Int) : Prop := ∃ cs, Row w g t cs ∧ ∀ j, j < n → cs[j]? = some (.int .i64 (F j))
section
variable {w w' : World} {g n : Nat} {t : TypeId} {F : Nat → Int}
theorem Cnt.at_ (h : Cnt w g t n F) (j : Nat) (hj : j < n) : w.cell? ⟨g, j, none⟩ = some (.int .i64 (F j)) := by
  obtain ⟨cs, hr, hc⟩ := h
  exact (hr.cell j).trans (hc j hj)
theorem Cnt.thaw (h : Cnt w g t n F) (j : Nat) : w.frozen? ⟨g, j, none⟩ = false := by
  obtain ⟨cs, hr, hc⟩ := h
  exact hr.thaw j
theorem Cnt.lt (h : Cnt w g t n F) : g < w.heap.size := by obtain ⟨cs, hr, _⟩ := h; exact hr.lt
theorem Cnt.under (h : Cnt w g t n F) (hb : Below w.heap.size w w') : Cnt w' g t n F := by obtain ⟨cs, hr, hc⟩ := h; exact ⟨cs, hr.under hb, hc⟩
theorem Cnt.drew (h : Cnt w g t n F) : Cnt w.drew g t n F := h
theorem Cnt.drewN (h : Cnt w g t n F) (k : Nat) : Cnt (w.drewN k) g t n F := h
theorem Cnt.far (h : Cnt w g t n F) {p : Addr} (hp : p.block ≠ g) (u : Value) : Cnt (w.setCell p u) g t n F := by obtain ⟨cs, hr, hc⟩ := h; exact ⟨cs, hr.far hp u, hc⟩
theorem Cnt.add (h : Cnt w g t n F) (j : Nat) : Cnt (w.setCell ⟨g, j, none⟩ (.int .i64 (F j + 1))) g t n (inc F j) := by
  obtain ⟨cs, hr, hc⟩ := h
  refine ⟨_, hr.put j _, fun i hi => ?_⟩
  have hci := hc i hi
  have hs : i < cs.size := (Array.getElem?_eq_some_iff.1 hci).1
  unfold inc
  rw [Array.getElem?_setIfInBounds]
  by_cases e : j = i
  · subst e; simp [hs]
  · rw [if_neg e, if_neg (Ne.symm e)]; exact hci
end
/-- What is known between the steps. -/
structure Cts (W : World) (g3 g4 : Nat) (t : Nat) (w : World) : Prop where
  below : Below W.heap.size W w
  b3 : W.heap.size ≤ g3
  b4 : W.heap.size ≤ g4
  ne : g3 ≠ g4
  prs : Cnt w g3 55 144 (prT t)
  mts : Cnt w g4 54 12 (mtT t)
section
variable {W w w' : World} {g3 g4 t : Nat}
theorem Cts.under (h : Cts W g3 g4 t w) (hb : Below w.heap.size w w') : Cts W g3 g4 t w' := ⟨h.below.trans (hb.mono h.below.size), h.b3, h.b4, h.ne, h.prs.under hb, h.mts.under hb⟩
theorem Cts.alloc (h : Cts W g3 g4 t w) (o : Obj) : Cts W g3 g4 t (w.alloc o) := h.under ((Below.refl _ _).alloc (Nat.le_refl _) o)
theorem Cts.drewN (h : Cts W g3 g4 t w) (n : Nat) : Cts W g3 g4 t (w.drewN n) := ⟨below_drewN h.below n, h.b3, h.b4, h.ne, h.prs, h.mts⟩
theorem Cts.drew (h : Cts W g3 g4 t w) : Cts W g3 g4 t w.drew := ⟨h.below.drew, h.b3, h.b4, h.ne, h.prs, h.mts⟩
end
theorem row_ne {w : World} {g g' n : Nat} {t t' : TypeId} {cs : Array Value} {F : Nat → Int} (h : Row w g t cs) (k : Cnt w g' t' n F) (hne : t ≠ t') : g ≠ g' := by
  rintro rfl
  obtain ⟨cs', hr, _⟩ := k
  unfold Row at h hr
  rw [h] at hr
  injection hr with hr
  injection hr with _ ht
  exact hne ht
theorem zero144 : Tryd.zeroCells55 = Array.replicate 144 (.int .i64 0) := by kernel_rfl
theorem cnt144 (w : World) : Cnt (w.alloc (.cells Tryd.zeroCells55 55)) w.heap.size 55 144 (prT 0) :=
  ⟨_, Row.new _ _ _, fun j hj => by rw [zero144, Array.getElem?_replicate, if_pos hj]; rfl⟩
theorem cnt12 (w : World) : Cnt (w.alloc (.cells z12 54)) w.heap.size 54 12 (mtT 0) :=
  ⟨_, Row.new _ _ _, fun j hj => z12_at j hj⟩
set_option maxRecDepth 100000 in
set_option maxHeartbeats 4000000 in
theorem placeSolid_any (vertex : Int) (w : World) (hE : Env w) (hv : I64 vertex) :
    Calls Tryd.prog 5 #[.int .i64 vertex] w fun e w' => e = .returned (.bool true) ∧ Below w.heap.size w w' := by
  go_enter Tryd.func5, Tryd.ntmps5
  go_wp2_with fail
  have C0 : Cts w w.heap.size (w.heap.size + 1) 0 ((w.alloc (.cells Tryd.zeroCells55 55)).alloc (.cells z12 54)) :=
    ⟨((Below.refl _ _).alloc (Nat.le_refl _) _).alloc (by simp) _, Nat.le_refl _, by omega, by omega, (cnt144 w).under ((Below.refl _ _).alloc (Nat.le_refl _) _), by have := cnt12 (w.alloc (.cells Tryd.zeroCells55 55)); simpa using this⟩
  generalize w.heap.size + 1 = g4 at *
  obtain ⟨g3, hg3⟩ : ∃ g3, w.heap.size = g3 := ⟨_, rfl⟩
  have HG := Lib.hid hg3
  rw [hg3] at C0 ⊢
  clear hg3
  go_loopw [5] (fun i wr => ∃ n : Nat, n ≤ 20 ∧ i = .int .i64 n ∧ Cts w g3 g4 (3 * n) wr) (fun i _ => 20 - (intOf i).toNat)
  case atStart => exact ⟨0, by omega, rfl, C0⟩
  case round =>
    clear C0
    obtain ⟨n, hn, rfl, C⟩ := hrel
    by_cases hlt : n < 20
    · go_wp2_with (go_at_call 24; refine (corners_yes _ _ hlt).mono ?_; rintro e w1 ⟨rfl, hb1⟩)
      have C1 := (C.under hb1).alloc (.cells #[.int .i64 (Ico.cor n 0), .int .i64 (Ico.cor n 1), .int .i64 (Ico.cor n 2)] 43)
      have r1 := Row.new w1 #[.int .i64 (Ico.cor n 0), .int .i64 (Ico.cor n 1), .int .i64 (Ico.cor n 2)] 43
      clear C hb1
      generalize hX : w1.alloc (.cells #[.int .i64 (Ico.cor n 0), .int .i64 (Ico.cor n 1), .int .i64 (Ico.cor n 2)] 43) = X at *
      generalize w1.heap.size = gc at *
      clear hX
      go_loopw [8] (fun i wi => ∃ k : Nat, k ≤ 3 ∧ i = .int .i64 k ∧ Cts w g3 g4 (3 * n + k) wi ∧ Row wi gc 43 #[.int .i64 (Ico.cor n 0), .int .i64 (Ico.cor n 1), .int .i64 (Ico.cor n 2)]) (fun i _ => 3 - (intOf i).toNat)
      case atStart => exact ⟨0, by omega, rfl, C1, r1⟩
      case round =>
        clear C1 r1
        obtain ⟨k, hk, rfl, C, r⟩ := hrel
        by_cases hl3 : k < 3
        · go_upto_region 12 with fail
          go_cut [9, 10] from 35 to 42 (fun x y wc => x = .int .i64 (aT (3 * n + k) : Nat) ∧ y = .int .i64 (bT (3 * n + k) : Nat) ∧ Cts w g3 g4 (3 * n + k) wc ∧ Row wc gc 43 #[.int .i64 (Ico.cor n 0), .int .i64 (Ico.cor n 1), .int .i64 (Ico.cor n 2)])
          case first =>
            obtain ⟨q0, q1, q2⟩ := row3 r
            have A := Lib.hid (aT_mk n k hl3)
            have hk' : k = 0 ∨ k = 1 ∨ k = 2 := by omega
            rcases hk' with rfl | rfl | rfl
            all_goals
              go_quiet (fail)
              go_wp2_with fail
              go_meet
              exact ⟨by rw [A.out.1], by rw [A.out.2], C.drewN _, r.drewN _⟩
          case rest =>
          obtain ⟨rfl, rfl, C2, r2⟩ := hcut
          clear C r
          have ht : 3 * n + k < 60 := by omega
          have HT := Lib.hid (show 3 * n + k + 1 = 3 * n + (k + 1) by omega)
          generalize 3 * n + k = t at *
          have la := aT_lt t
          have lb := bT_lt t
          have hne := ab_ne t ht
          have q0 : ((aT t : Int) == (bT t : Int)) = false := by rw [beq_eq_false_iff_ne]; omega
          go_upto_region 15 with fail
          have bp := prT_bd t (aT t * 12 + bT t)
          have c0 := C2.prs.at_ (aT t * 12 + bT t) (by omega)
          have f0 := C2.prs.thaw (aT t * 12 + bT t)
          go_region
          go_upto_region 16 with fail
          refine forget (fun Y => Below w.heap.size w Y ∧ Cnt Y g3 55 144 (inc (prT t) (aT t * 12 + bT t)) ∧ Cnt Y g4 54 12 (mtT t) ∧ Row Y gc 43 #[.int .i64 (Ico.cor n 0), .int .i64 (Ico.cor n 1), .int .i64 (Ico.cor n 2)])
            ⟨(C2.below.setCell (p := ⟨g3, _, none⟩) C2.b3 _).drew, C2.prs.add _, C2.mts.far C2.ne _, r2.far (Ne.symm (row_ne r2 C2.prs (by decide))) _⟩ ?_
          have B3 := C2.b3
          have B4 := C2.b4
          have NE := Lib.hid C2.ne
          clear C2 r2 c0 f0 bp
          rintro Y ⟨bY, p3, p4, rY⟩
          have bp := inc_bd (prT_bd t) (aT t * 12 + bT t) (bT t * 12 + aT t)
          have c0 := p3.at_ (bT t * 12 + aT t) (by omega)
          have f0 := p3.thaw (bT t * 12 + aT t)
          go_region
          go_upto_region 17 with fail
          refine forget (fun Z => Below w.heap.size w Z ∧ Cnt Z g3 55 144 (prT (t + 1)) ∧ Cnt Z g4 54 12 (mtT t) ∧ Row Z gc 43 #[.int .i64 (Ico.cor n 0), .int .i64 (Ico.cor n 1), .int .i64 (Ico.cor n 2)])
            ⟨(bY.setCell (p := ⟨g3, _, none⟩) B3 _).drew, p3.add _, p4.far NE.out _, rY.far (Ne.symm (row_ne rY p3 (by decide))) _⟩ ?_
          clear c0 f0 bp bY p3 p4 rY
          rintro Z ⟨bZ, p3, p4, rZ⟩
          have bm := mtT_bd t (aT t)
          have c0 := p4.at_ (aT t) la
          have f0 := p4.thaw (aT t)
          have hA := acr_lt n hlt k hl3
          have hB := Lib.hid (acr_back n hlt k hl3)
          obtain ⟨hA1, hA2⟩ := hA
          go_wp2_with fail
          have C3 : Cts w g3 g4 (t + 1) (Z.setCell ⟨g4, aT t, none⟩ (.int .i64 (mtT t (aT t) + 1))) := ⟨bZ.setCell (p := ⟨g4, _, none⟩) B4 _, B3, B4, NE.out, p3.far (Ne.symm NE.out) _, p4.add _⟩
          have r3 : Row (Z.setCell ⟨g4, aT t, none⟩ (.int .i64 (mtT t (aT t) + 1))) gc 43 #[.int .i64 (Ico.cor n 0), .int .i64 (Ico.cor n 1), .int .i64 (Ico.cor n 2)] := rZ.far (Ne.symm (row_ne rZ p4 (by decide))) _
          refine (across_yes _ _ _ hlt hl3).mono ?_
          rintro e w5 ⟨rfl, hb5⟩
          have C5 := C3.under hb5
          have r5 := r3.under hb5
          clear C3 r3 hb5 c0 f0 bm bZ p3 p4 rZ B3 B4
          have q1 : ((acr n k : Int) == (n : Int)) = false := by rw [beq_eq_false_iff_ne]; omega
          generalize acr n k = g at *
          clear hA2
          go_wp2_with fail
          go_loopw [13, 14] (fun b i wj => ∃ m : Nat, m ≤ 3 ∧ i = .int .i64 m ∧ b = .bool (bk g n m) ∧ Cts w g3 g4 (t + 1) wj ∧ Row wj gc 43 #[.int .i64 (Ico.cor n 0), .int .i64 (Ico.cor n 1), .int .i64 (Ico.cor n 2)]) (fun _ i _ => 3 - (intOf i).toNat)
          case atStart => exact ⟨0, by omega, rfl, rfl, C5, r5⟩
          case round =>
            clear C5 r5
            obtain ⟨m, hm, rfl, rfl, C, r⟩ := hrel
            by_cases hl : m < 3
            · have S := Lib.hid (show bk g n (m + 1) = (bk g n m || decide (acr g m = n)) from rfl)
              cases hb : bk g n m
              · by_cases he : acr g m = n
                · have q : ((acr g m : Int) == (n : Int)) = true := by rw [beq_iff_eq]; omega
                  have E := Lib.hid (show bk g n (m + 1) = true by rw [S.out]; simp [he])
                  clear he hb S
                  go_wp2_with fail
                  refine (across_yes _ _ _ hA1 hl).mono ?_
                  rintro e w6 ⟨rfl, hb6⟩
                  go_wp2_with fail
                  go_roundw
                  case rel => exact ⟨m + 1, by omega, by go_num, by rw [E.out], C.under hb6, r.under hb6⟩
                  case measure => simp [intOf]; omega
                · have q : ((acr g m : Int) == (n : Int)) = false := by rw [beq_eq_false_iff_ne]; omega
                  have E := Lib.hid (show bk g n (m + 1) = false by rw [S.out]; simp [he, hb])
                  clear he hb S
                  go_wp2_with fail
                  refine (across_yes _ _ _ hA1 hl).mono ?_
                  rintro e w6 ⟨rfl, hb6⟩
                  go_wp2_with fail
                  go_roundw
                  case rel => exact ⟨m + 1, by omega, by go_num, by rw [E.out], C.under hb6, r.under hb6⟩
                  case measure => simp [intOf]; omega
              · have E := Lib.hid (show bk g n (m + 1) = true by rw [S.out]; simp [hb])
                clear hb S
                go_wp2_with fail
                refine (across_yes _ _ _ hA1 hl).mono ?_
                rintro e w6 ⟨rfl, hb6⟩
                go_wp2_with fail
                go_roundw
                case rel => exact ⟨m + 1, by omega, by go_num, by rw [E.out], C.under hb6, r.under hb6⟩
                case measure => simp [intOf]; omega
            · obtain rfl : m = 3 := by omega
              rw [hB.out]
              go_wp2_with fail
              go_roundw
              case rel => exact ⟨k + 1, by omega, by go_num, by rw [← HT.out]; exact C, r⟩
              case measure => simp [intOf]; omega
        · obtain rfl : k = 3 := by omega
          have C9 : Cts w g3 g4 (3 * (n + 1)) wr := C
          clear C r
          go_wp2_with fail
          go_roundw
          case rel => exact ⟨n + 1, by omega, by go_num, C9⟩
          case measure => simp [intOf]; omega
    · obtain rfl : n = 20 := by omega
      have C9 : Cts w g3 g4 60 wr := C
      clear C
      go_wp2_with fail
      refine (mod_any _ _ _ hv (by omega) (by omega)).mono ?_
      rintro e w7 ⟨rfl, rfl⟩
      have o1 : 0 ≤ vertex % 12 := Int.emod_nonneg _ (by omega)
      have o2 : vertex % 12 < 12 := Int.emod_lt_of_pos _ (by omega)
      generalize vertex % 12 = v0 at *
      obtain ⟨v, rfl⟩ := Int.eq_ofNat_of_zero_le o1
      have hv12 : v < 12 := by omega
      clear o1 o2
      go_wp2_with fail
      go_loopw [18, 19] (fun s i wj => ∃ a : Nat, a ≤ 12 ∧ i = .int .i64 a ∧ s = .int .i64 (arT v a) ∧ Cts w g3 g4 60 wj) (fun _ i _ => 12 - (intOf i).toNat)
      case atStart => exact ⟨0, by omega, rfl, rfl, C9⟩
      case round =>
        clear C9
        obtain ⟨a, ha, rfl, rfl, C⟩ := hrel
        by_cases hl : a < 12
        · have S := Lib.hid (show arT v (a + 1) = if prT 60 (v * 12 + a) = 2 then arT v a + 1 else arT v a from rfl)
          have ab := arT_bd v a
          rcases pr_end v hv12 a hl with hp | hp
          · have c0 := C.prs.at_ (v * 12 + a) (by omega)
            rw [hp] at c0
            have E := Lib.hid (show arT v (a + 1) = arT v a + 1 by rw [S.out, if_pos hp])
            clear hp S
            go_wp2_with fail
            go_roundw
            case rel => exact ⟨a + 1, by omega, by go_num, by rw [E.out], C⟩
            case measure => simp [intOf]; omega
          · have c0 := C.prs.at_ (v * 12 + a) (by omega)
            rw [hp] at c0
            have E := Lib.hid (show arT v (a + 1) = arT v a by rw [S.out, if_neg (by rw [hp]; decide)])
            clear hp S
            go_wp2_with fail
            go_roundw
            case rel => exact ⟨a + 1, by omega, by go_num, by rw [E.out], C⟩
            case measure => simp [intOf]; omega
        · obtain rfl : a = 12 := by omega
          rw [ar_end v hv12]
          have c0 := C.mts.at_ v hv12
          rw [mt_end v hv12] at c0
          go_wp2_with fail
          refine (awake_from _ hE C.below).mono ?_
          rintro e w9 ⟨rfl, b9⟩
          go_wp2_with fail
          go_ret
          exact ⟨rfl, b9⟩
end Go.Proofs.YteccblhmpggcgaaDoor
