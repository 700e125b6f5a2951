/- The reports that are given: small or not. -/
import Derived.Test.YtejoabaanclcbaaGreatQau
namespace Go.Proofs.YtejoabaanclcbaaGreat.Tk
open Go.RowKit

/-- A truth; where it is true, this holds. -/
def YN (w : World) (q : Prop) (e : Ending) (w' : World) : Prop := (∃ b, e = .returned (.bool b) ∧ (b = true → q)) ∧ Below w.heap.size w w'
set_option maxHeartbeats 2000000 in
theorem small_any (k : Int) (nm : ByteArray) (t F A B C : Int) (ua : Option Addr) (un uc : Nat) (w : World) :
    Calls Tryz.prog 27 #[rqV k nm t F A B C ua un uc] w (YN w (nm.size ≤ 40)) := by
  have HB : Hid (Below w.heap.size w (w.alloc (.cells (rqC k nm t F A B C ua un uc) 35))) := Lib.hid ((Below.refl _ _).alloc (Nat.le_refl _) _)
  by_cases h2 : nm.size ≤ 40
  · have i2 : (nm.size : Int) ≤ 40 := by omega
    have H2 := Lib.hid h2
    by_cases h3 : un ≤ 40
    · have i3 : (un : Int) ≤ 40 := by omega
      go_enter Tryz.func27, Tryz.ntmps27
      go_wp2_with fail
      go_ret
      exact ⟨⟨_, rfl, fun _ => by first | exact H2.out | trivial⟩, HB.out⟩
    · have i3 : ¬ (un : Int) ≤ 40 := by omega
      go_enter Tryz.func27, Tryz.ntmps27
      go_wp2_with fail
      go_ret
      exact ⟨⟨_, rfl, fun _ => by first | exact H2.out | trivial⟩, HB.out⟩
  · have i2 : ¬ (nm.size : Int) ≤ 40 := by omega
    go_enter Tryz.func27, Tryz.ntmps27
    go_wp2_with fail
    go_ret
    exact ⟨⟨false, rfl, fun h => by cases h⟩, HB.out⟩
set_option maxRecDepth 100000 in
set_option maxHeartbeats 4000000 in
theorem smallAll_any (v : Value) (R : List Rq) (w : World) (hR : RqIn w v R) :
    Calls Tryz.prog 8 #[v, .int .i64 35] w (YN w (R.length ≤ 35 ∧ ∀ r ∈ R, r.nm.size ≤ 40)) := by
  have hRR := hR
  obtain ⟨A, cap, rfl, hc1, hc2, -⟩ := hR
  have HR := Lib.hid hRR
  clear hRR
  obtain ⟨n, hn⟩ : ∃ n, R.length = n := ⟨_, rfl⟩
  have HN := Lib.hid hn
  rw [hn] at hc1 ⊢
  clear hn
  by_cases hl : n ≤ 35
  · have l1 : ¬ (35 : Int) < (n : Int) := by omega
    go_enter Tryz.func8, Tryz.ntmps8
    go_wp2_with fail
    clear l1
    go_loopw [5] (fun t wr => ∃ i : Nat, i ≤ n ∧ t = .int .i64 i ∧ Hid ((∀ r ∈ R.take i, r.nm.size ≤ 40) ∧ Below w.heap.size w wr)) (fun t _ => n - (intOf t).toNat)
    case atStart => exact ⟨0, Nat.zero_le _, rfl, Lib.hid ⟨(fun r hr => by cases hr), Below.refl _ _⟩⟩
    case round =>
      obtain ⟨i, hi, rfl, HO⟩ := hrel
      by_cases hlt : i < n
      · have i1 : (i : Int) < (n : Int) := by omega
        have i2 : (0 : Int) ≤ (i : Int) := by omega
        have hiR : i < R.length := by rw [HN.out]; exact hlt
        obtain ⟨A', cap', eA0, -, -, hat⟩ := HR.out.under HO.out.2
        injection eA0 with eA0 eA1 eA2
        subst eA0
        clear eA1 eA2
        obtain ⟨g, off, rfl, hgl, h8⟩ := hat i hiR
        have HST := Lib.hid (show R[i].nm.size ≤ 40 → ∀ r ∈ R.take (i + 1), r.nm.size ≤ 40 from fun hk r hr => by
          rw [List.take_succ_eq_append_getElem hiR] at hr
          rcases List.mem_append.1 hr with hr | hr
          · exact HO.out.1 r hr
          · obtain rfl := List.mem_singleton.1 hr
            exact hk)
        have HB := Lib.hid HO.out.2
        clear HO hat hgl
        generalize R[i] = r at *
        obtain ⟨rk, rn, rt, rF, rA, rB, rC, ra, ru, rc⟩ := r
        obtain ⟨p0, p1, p2, p3, p4, p5, p6, p7⟩ := h8
        simp only at p0 p1 p2 p3 p4 p5 p6 p7 HST
        go_wp2_with fail
        refine (small_any rk rn rt rF rA rB rC ra ru rc _).mono ?_
        rintro e w1 ⟨⟨b, rfl, hb⟩, b1⟩
        have HB1 := Lib.hid (HB.out.trans (b1.mono HB.out.size))
        clear HB b1 p0 p1 p2 p3 p4 p5 p6 p7
        cases b
        · go_wp2_with fail
          go_ret
          exact ⟨⟨false, rfl, fun h => by cases h⟩, HB1.out⟩
        · have HT := Lib.hid (HST.out (hb rfl))
          clear hb
          go_wp2_with fail
          go_roundw
          case rel => exact ⟨i + 1, by omega, by go_num, Lib.hid ⟨HT.out, HB1.out⟩⟩
          case measure => simp [intOf]; omega
      · have i1 : ¬ (i : Int) < (n : Int) := by omega
        have HOK := Lib.hid (show ∀ r ∈ R, r.nm.size ≤ 40 by have h := HO.out.1; rwa [List.take_of_length_le (by rw [HN.out]; omega)] at h)
        have HB := Lib.hid HO.out.2
        clear HO hlt hi
        go_wp2_with fail
        go_ret
        exact ⟨⟨true, rfl, fun _ => by first | exact ⟨hl, HOK.out⟩ | exact HOK.out⟩, HB.out⟩
  · have l1 : (35 : Int) < (n : Int) := by omega
    go_enter Tryz.func8, Tryz.ntmps8
    go_wp2_with fail
    go_ret
    exact ⟨⟨false, rfl, fun h => by cases h⟩, Below.refl _ _⟩
end Go.Proofs.YtejoabaanclcbaaGreat.Tk

