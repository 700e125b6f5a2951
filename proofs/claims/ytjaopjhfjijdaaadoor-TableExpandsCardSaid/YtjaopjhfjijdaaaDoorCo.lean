/- The contracts of Choose's look and of Choose. -/
import Derived.Test.YtjaopjhfjijdaaaDoorCn
namespace Go.Proofs.YtjaopjhfjijdaaaDoor
open Go.RowKit

set_option maxHeartbeats 1000000 in
theorem choose1_any (v y : Int) (A B : Option Addr) (n c m d gb : Nat) (w : World) (hr : Row w gb 3 #[.int .i64 y]) :
    Calls Tryd.prog 46 #[.agg #[.int .i64 v, .slice A n c, .slice B m d], .pointer (some ⟨gb, 0, none⟩)] w fun e w' => e = .returned (.bool (v == y)) ∧ Below w.heap.size w w' := by
  have hb : Below w.heap.size w (w.alloc (.cells #[.int .i64 v, .slice A n c, .slice B m d] 25)) := (Below.refl _ _).alloc (Nat.le_refl _) _
  have p0 : (w.alloc (.cells #[.int .i64 v, .slice A n c, .slice B m d] 25)).cell? ⟨gb, 0, none⟩ = some (.int .i64 y) := ((hr.under hb).cell 0).trans rfl
  have HB := Lib.hid hb
  clear hb
  go_enter Tryd.func46, Tryd.ntmps46
  go_wp2_with fail
  go_ret
  exact ⟨rfl, HB.out⟩
set_option maxRecDepth 100000 in
set_option maxHeartbeats 2000000 in
theorem indexT_any (v : Value) (T : List (Int × List En × List Sq)) (y : Int) (gb : Nat) (w : World) (h : TlIn w v T) (hr : Row w gb 3 #[.int .i64 y]) :
    Calls Tryd.prog 45 #[v, .func (.func 46) #[] #[.pointer (some ⟨gb, 0, none⟩)]] w fun e w' => ∃ z : Int, e = .returned (.int .i64 z) ∧ Below w.heap.size w w' ∧ ((z = -1 ∧ ∀ j (hj : j < T.length), (T[j]).1 ≠ y) ∨ ∃ i, ∃ hi : i < T.length, z = (i : Int) ∧ (T[i]).1 = y ∧ ∀ j (hj : j < T.length), j < i → (T[j]).1 ≠ y) := by
  have HT := Lib.hid h
  obtain ⟨A, cap, rfl, h1, h2, -⟩ := h
  have HR := Lib.hid hr
  go_enter Tryd.func45, Tryd.ntmps45
  go_wp2_with fail
  go_loopw [5, 8] (fun _ t Y => ∃ k : Nat, k ≤ T.length ∧ t = .int .i64 k ∧ Hid (Below w.heap.size w Y ∧ ∀ j (hj : j < T.length), j < k → (T[j]).1 ≠ y)) (fun _ t _ => T.length - (intOf t).toNat)
  case atStart => exact ⟨0, Nat.zero_le _, rfl, Lib.hid ⟨Below.refl _ _, fun j _ q => absurd q (Nat.not_lt_zero _)⟩⟩
  case round =>
    obtain ⟨k, hk, rfl, M⟩ := hrel
    by_cases hlt : k < T.length
    · have k0 : (0 : Int) ≤ (k : Int) := by omega
      have k1 : (k : Int) < (T.length : Int) := by omega
      obtain ⟨A', cap', ea, -, -, h4⟩ := HT.out
      injection ea with ea _ ea3
      subst ea; subst ea3
      obtain ⟨g, off, B, cb, D, cd, rfl, hgl, c0, c1, c2, -, -⟩ := h4 k hlt
      replace c0 := (M.out.1.cell (p := ⟨g, off + k * 3, none⟩) hgl).trans c0
      replace c1 := (M.out.1.cell (p := ⟨g, off + k * 3 + 1, none⟩) hgl).trans c1
      replace c2 := (M.out.1.cell (p := ⟨g, off + k * 3 + 2, none⟩) hgl).trans c2
      have HC := Lib.hid (choose1_any (T[k]).1 y B D (T[k]).2.1.length cb (T[k]).2.2.length cd gb wr (HR.out.under M.out.1))
      clear h4 hgl
      go_wp2_with fail
      refine HC.out.mono ?_
      rintro e w2 ⟨rfl, hb⟩
      have HB := Lib.hid (M.out.1.trans (hb.mono M.out.1.size))
      clear hb HC c0 c1 c2
      by_cases hq : (T[k]).1 = y
      · have e1 : ((T[k]).1 == y) = true := by simpa using hq
        have HF := Lib.hid (⟨hq, M.out.2⟩ : (T[k]).1 = y ∧ ∀ j (hj : j < T.length), j < k → (T[j]).1 ≠ y)
        clear hq M
        go_wp2_with fail
        go_ret
        exact ⟨_, rfl, HB.out, .inr ⟨k, hlt, rfl, HF.out⟩⟩
      · have e1 : ((T[k]).1 == y) = false := by simpa using hq
        have HM : Hid (Below w.heap.size w w2 ∧ ∀ j (hj : j < T.length), j < k + 1 → (T[j]).1 ≠ y) := Lib.hid ⟨HB.out, fun j hj hjk => by
          by_cases e : j = k
          · subst e; exact hq
          · exact M.out.2 j hj (by omega)⟩
        clear hq M HB
        go_wp2_with fail
        go_roundw
        case rel => exact ⟨k + 1, by omega, by go_num, HM⟩
        case measure => simp [intOf]; omega
    · have k1 : ¬ (k : Int) < (T.length : Int) := by omega
      have HM : Hid (Below w.heap.size w wr ∧ ∀ j (hj : j < T.length), (T[j]).1 ≠ y) := Lib.hid ⟨M.out.1, fun j hj => M.out.2 j hj (by omega)⟩
      clear M
      go_wp2_with fail
      go_ret
      exact ⟨_, rfl, HM.out.1, .inl ⟨rfl, HM.out.2⟩⟩
set_option maxRecDepth 100000 in
set_option maxHeartbeats 2000000 in
theorem choose_any (v : Value) (T : List (Int × List En × List Sq)) (y : Int) (w : World) (h : TlIn w v T) (hT : ∀ p ∈ T, p.2.1.length ≤ 1000 ∧ p.2.2.length ≤ 1000 ∧ ∀ s ∈ p.2.2, s.2.length ≤ 1000) :
    Calls Tryd.prog 20 #[v, .int .i64 y] w (ChR w T y) := by
  have HT := Lib.hid h
  have HP := Lib.hid hT
  clear hT
  obtain ⟨A, cap, rfl, h1, h2, -⟩ := h
  have hb0 : Below w.heap.size w (w.alloc (.cells #[.int .i64 y] 3)) := (Below.refl _ _).alloc (Nat.le_refl _) _
  have HJ : Hid (Row ((w.alloc (.cells #[.int .i64 y] 3)).alloc (.cells #[.int .i64 0, .slice none 0 0, .slice none 0 0] 25)) w.heap.size 3 #[.int .i64 y] ∧ Row ((w.alloc (.cells #[.int .i64 y] 3)).alloc (.cells #[.int .i64 0, .slice none 0 0, .slice none 0 0] 25)) (w.heap.size + 1) 25 #[.int .i64 0, .slice none 0 0, .slice none 0 0] ∧ Below w.heap.size w ((w.alloc (.cells #[.int .i64 y] 3)).alloc (.cells #[.int .i64 0, .slice none 0 0, .slice none 0 0] 25))) := Lib.hid ⟨(Row.new _ _ _).alloc _, Row.newAt (by simp), alloc_below hb0 hb0.size _⟩
  clear hb0
  go_enter Tryd.func20, Tryd.ntmps20
  go_upto_region 1 with fail
  refine forget (fun Y => Hid (Row Y w.heap.size 3 #[.int .i64 y] ∧ Row Y (w.heap.size + 1) 25 #[.int .i64 0, .slice none 0 0, .slice none 0 0] ∧ Below w.heap.size w Y)) HJ ?_
  clear HJ
  intro Y0 HJ
  go_wp2_with fail
  refine (indexT_any _ T y w.heap.size Y0 (HT.out.under HJ.out.2.2) HJ.out.1).mono ?_
  rintro e w1 ⟨z, rfl, hb, hz⟩
  have J1 := Lib.hid (⟨HJ.out.2.1.under hb, HJ.out.2.2.trans (hb.mono HJ.out.2.2.size)⟩ : Row w1 (w.heap.size + 1) 25 #[.int .i64 0, .slice none 0 0, .slice none 0 0] ∧ Below w.heap.size w w1)
  clear hb HJ
  rcases hz with ⟨rfl, hz⟩ | ⟨i, hi, rfl, hz⟩
  · have HZ := Lib.hid hz
    clear hz
    have f0 := J1.out.1.thaw 0
    have f1 := J1.out.1.thaw 1
    have f2 := J1.out.1.thaw 2
    obtain ⟨q0, q1, q2⟩ := row3 J1.out.1
    have HR := Lib.hid (set3_row (.int .i64 0) (.slice none 0 0) (.slice none 0 0) J1.out.1)
    have HB := Lib.hid (set3_below (u0 := .int .i64 0) (u1 := .slice none 0 0) (u2 := .slice none 0 0) J1.out.2 (by omega : w.heap.size ≤ w.heap.size + 1))
    go_wp2_with fail
    exact bodyPost_ret (v := .tuple #[.agg #[.int .i64 0, .slice none 0 0, .slice none 0 0], .int .i64 9]) (by obtain ⟨z0, z1, z2⟩ := row3 HR.out; simp [results, Tryd.results20, z0, z1, z2, go_sem]) rfl ⟨9, _, rfl, HB.out, .inl ⟨rfl, HZ.out, rfl⟩⟩
  · have HZ := Lib.hid hz
    clear hz
    have k0 : (0 : Int) ≤ (i : Int) := by omega
    have k1 : (i : Int) < (T.length : Int) := by omega
    have k2 : ¬ (i : Int) < 0 := by omega
    obtain ⟨A', cap', ea, -, -, h4⟩ := HT.out
    injection ea with ea
    subst ea
    obtain ⟨g, off, B, cb, D, cd, rfl, hgl, c0, c1, c2, hE, hS⟩ := h4 i hi
    replace c0 := (J1.out.2.cell (p := ⟨g, off + i * 3, none⟩) hgl).trans c0
    replace c1 := (J1.out.2.cell (p := ⟨g, off + i * 3 + 1, none⟩) hgl).trans c1
    replace c2 := (J1.out.2.cell (p := ⟨g, off + i * 3 + 2, none⟩) hgl).trans c2
    have hp := HP.out _ (List.getElem_mem hi)
    have HC := Lib.hid (clone_any (.agg #[.int .i64 (T[i]).1, .slice B (T[i]).2.1.length cb, .slice D (T[i]).2.2.length cd]) (T[i]).1 (T[i]).2.1 (T[i]).2.2 w1 ⟨_, _, rfl, hE.under J1.out.2, hS.under J1.out.2⟩ hp.1 hp.2.1 hp.2.2)
    have HEi := Lib.hid hE
    clear h4 hgl hE hS hp
    go_wp2_with fail
    refine HC.out.mono ?_
    rintro e w2 ⟨vE, vS, L, rfl, ⟨ho1, ho2, hss⟩, hb⟩
    obtain ⟨Ae, ce, ev⟩ := sl_of ho1
    obtain ⟨As, cs, ew⟩ := sl_of ho2
    subst ev; subst ew
    have J2 := Lib.hid (⟨J1.out.1.under hb, J1.out.2.trans (hb.mono J1.out.2.size), ho1, ho2, hss⟩ : Row w2 (w.heap.size + 1) 25 #[.int .i64 0, .slice none 0 0, .slice none 0 0] ∧ Below w.heap.size w w2 ∧ w2.ownsRow w1.heap.size 47 5 (.slice Ae (T[i]).2.1.length ce) (T[i]).2.1.length (rowE (T[i]).2.1) ∧ w2.ownsRow w1.heap.size 58 2 (.slice As (T[i]).2.2.length cs) (T[i]).2.2.length (rowS L) ∧ SsW w1 w2 (T[i]).2.2.length (T[i]).2.2 L)
    have hTb := Lib.hid (clone_end (v := (T[i]).1) (u0 := .int .i64 (T[i]).1) (u1 := .slice Ae (T[i]).2.1.length ce) (u2 := .slice As (T[i]).2.2.length cs) (ents_i64 HEi.out) J2.out.1 J2.out.2.2.1 J2.out.2.2.2.1 J2.out.2.2.2.2)
    clear hb J1 HC c0 c1 c2 ho1 ho2 hss
    have f0 := J2.out.1.thaw 0
    have f1 := J2.out.1.thaw 1
    have f2 := J2.out.1.thaw 2
    obtain ⟨q0, q1, q2⟩ := row3 J2.out.1
    have HR := Lib.hid (set3_row (.int .i64 (T[i]).1) (.slice Ae (T[i]).2.1.length ce) (.slice As (T[i]).2.2.length cs) J2.out.1)
    have HB := Lib.hid (set3_below (u0 := .int .i64 (T[i]).1) (u1 := .slice Ae (T[i]).2.1.length ce) (u2 := .slice As (T[i]).2.2.length cs) J2.out.2.1 (by omega : w.heap.size ≤ w.heap.size + 1))
    go_wp2_with fail
    exact bodyPost_ret (v := .tuple #[.agg #[.int .i64 (T[i]).1, .slice Ae (T[i]).2.1.length ce, .slice As (T[i]).2.2.length cs], .int .i64 0]) (by obtain ⟨z0, z1, z2⟩ := row3 HR.out; simp [results, Tryd.results20, z0, z1, z2, go_sem]) rfl ⟨0, _, rfl, HB.out, .inr ⟨rfl, i, hi, HZ.out.1, HZ.out.2, hTb.out.2.2.2⟩⟩
end Go.Proofs.YtjaopjhfjijdaaaDoor
