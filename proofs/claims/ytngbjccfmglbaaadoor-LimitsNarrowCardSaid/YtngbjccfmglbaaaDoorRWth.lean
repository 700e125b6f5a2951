/- The contract of the reference's Without. -/
import Derived.Test.YtngbjccfmglbaaaDoorWith
namespace Go.Proofs.YtngbjccfmglbaaaDoor
open Go.RowKit
set_option maxRecDepth 100000 in
set_option maxHeartbeats 2000000 in
theorem refWithout_any (v cv : Value) (L : List Elt.R) (C : List Int) (w : World) (hL : RdIn w v L) (hC : NmIn w cv C) (hl : L.length ≤ 1000) :
    Calls Tryd.prog 9 #[v, cv] w fun e w' => ∃ u, e = .returned u ∧ Below w.heap.size w w' ∧ RdIn w' u (Elt.wout L C) := by
  obtain ⟨i0, hi, hz0, hz1, hz2⟩ := info_parts infoReading
  obtain ⟨A, cap, rfl, h1, h2, -⟩ := id hL
  have HL := Lib.hid hL
  have HC := Lib.hid hC
  clear hL hC
  go_enter Tryd.func9, Tryd.ntmps9
  go_wp2_with fail
  go_loopw [5, 6] (fun u t wr => ∃ k : Nat, k ≤ L.length ∧ t = .int .i64 k ∧ Wt w (Elt.wout (L.take k) C) u wr) (fun _ t _ => L.length - (intOf t).toNat)
  case atStart => exact ⟨0, Nat.zero_le _, rfl, Below.refl _ _, World.ownsRow_nil _ _ _ _⟩
  case round =>
    obtain ⟨k, hk, rfl, hS⟩ := hrel
    by_cases hlt : k < L.length
    · have hR := HL.out.under hS.below
      obtain ⟨A', cap', e, -, -, hR⟩ := hR
      injection e with e1 e2 e3
      subst e1
      obtain ⟨g, off, rfl, hgl, c0, c1⟩ := hR k hlt
      have k0 : (0 : Int) ≤ (k : Int) := by omega
      have k1 : (k : Int) < (L.length : Int) := by omega
      have hw := wout_snoc L C k hlt
      have hml := wout_len L C k
      have HW := Lib.hid hw
      clear hw hR e3
      generalize hx : L[k] = x at *
      have HX := Lib.hid hx; clear hx
      obtain ⟨a, b⟩ := x
      generalize hM : Elt.wout (L.take k) C = M at *
      have HM := Lib.hid hM; clear hM
      have HCY := Lib.hid (HC.out.under hS.below)
      have HS := Lib.hid hS; clear hS
      simp only at c0 c1
      go_wp2_with fail
      refine (in_any cv C a _ HCY.out).mono ?_
      rintro e w2 ⟨rfl, rfl⟩
      clear HCY
      cases hc : C.contains a with
      | true =>
        have HN : Hid (Elt.wout (L.take (k + 1)) C = M) := Lib.hid (by rw [HW.out]; simp only [hc]; simp)
        clear hc
        go_wp2_with fail
        go_roundw
        case rel => exact ⟨k + 1, by omega, by go_num, by rw [HN.out]; exact HS.out⟩
        case measure => simp [intOf]; omega
      | false =>
        have HN : Hid (Elt.wout (L.take (k + 1)) C = M ++ [(a, b)]) := Lib.hid (by rw [HW.out]; simp only [hc]; simp)
        clear hc
        have S3 := Lib.hid (HS.out.under ((Below.refl _ _).alloc (Nat.le_refl _) (.cells #[.int .i64 a, .int .i64 b] 30)))
        go_wp2_with (at_builtin; refine wpList_append_lies _ rfl (.tmp 21) (.tmp 26) 25 rfl w.heap.size 30 i0 _ 2 16 Tryd.underlying25 hi hz0 hz1 hz2 rfl (by decide) «u5» M.length (rdc M) rfl S3.out.own ⟨wr.heap.size, 0, none⟩ 1 1 [.int .i64 a, .int .i64 b] rfl rfl (World.news_of_block (cs := #[.int .i64 a, .int .i64 b]) (t := 30) (fr := (0, 0)) (heap_alloc_new wr _)) (by simp [Value.oneCell']) (by omega) (by unfold maxLen; omega) (by omega) S3.out.below.size (wr.heap.size + 1) (by simp) ?_; intro g' cap' w4 hown4 hgrow4 hat4 hlt4; have S4 := Lib.hid (S3.out.more (x := (a, b)) hown4 hgrow4); clear hown4 hgrow4 hat4 hlt4)
        go_roundw
        case rel => exact ⟨k + 1, by omega, by go_num, by rw [HN.out]; exact S4.out⟩
        case measure => simp [intOf]; omega
    · have k1 : ¬ (k : Int) < (L.length : Int) := by omega
      have hke : L.take k = L := List.take_of_length_le (by omega)
      rw [hke] at hS
      have HS := Lib.hid hS; clear hS hke
      go_wp2_with fail
      go_ret
      exact ⟨_, rfl, HS.out.below, RdIn.own HS.out.own⟩
end Go.Proofs.YtngbjccfmglbaaaDoor


