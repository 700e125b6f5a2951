/- The contract of the reference's Expand. -/
import Derived.Test.YtjaopjhfjijdaaaDoorRe
namespace Go.Proofs.YtjaopjhfjijdaaaDoor
open Go.RowKit

theorem RC_all (ver : Int) (es : List En) (ss : List Sq) (hn : (es.map (·.1)).Nodup) (hns : (ss.map (·.1)).Nodup) (hel : es.length ≤ 40) (hsl : ss.length ≤ 40) : ∀ d, d ≤ 500 → RC ver es ss (500 - d) := by
  intro d
  induction d with
  | zero => exact fun _ => refExpand_step ver es ss _ (fun h => by omega) hn hns hel hsl
  | succ d ih =>
    intro hd
    refine refExpand_step ver es ss _ (fun h => ?_) hn hns hel hsl
    have := ih (by omega)
    rw [show 500 - (d + 1) + 1 = 500 - d by omega]
    exact this
theorem RC_0 (ver : Int) (es : List En) (ss : List Sq) (hn : (es.map (·.1)).Nodup) (hns : (ss.map (·.1)).Nodup) (hel : es.length ≤ 40) (hsl : ss.length ≤ 40) : RC ver es ss 0 := RC_all ver es ss hn hns hel hsl 500 (Nat.le_refl _)
set_option maxRecDepth 100000 in
set_option maxHeartbeats 2000000 in
theorem refExpand_any (tv cv : Value) (v : Int) (es : List En) (ss : List Sq) (C : List Int) (w : World) (hT : TbIn w tv v es ss) (hC : NmIn w cv C) :
    Calls Tryd.prog 16 #[tv, cv] w (XR w v es ss C) := by
  have HT := Lib.hid hT
  have HC := Lib.hid hC
  obtain ⟨a, b, rfl, hE, hS⟩ := hT
  obtain ⟨A, cap, rfl, h1, h2, -⟩ := hE
  obtain ⟨Bq, cbp, rfl, g1, g2, -⟩ := hS
  obtain ⟨Cq, ccp, rfl, c1, c2, -⟩ := hC
  have hb0 : Below w.heap.size w (w.alloc (.cells #[.int .i64 v, .slice A es.length cap, .slice Bq ss.length cbp] 25)) := (Below.refl _ _).alloc (Nat.le_refl _) _
  have HJ : Hid (Row (w.alloc (.cells #[.int .i64 v, .slice A es.length cap, .slice Bq ss.length cbp] 25)) w.heap.size 25 #[.int .i64 v, .slice A es.length cap, .slice Bq ss.length cbp] ∧ Below w.heap.size w (w.alloc (.cells #[.int .i64 v, .slice A es.length cap, .slice Bq ss.length cbp] 25))) := Lib.hid ⟨Row.new _ _ _, hb0⟩
  obtain ⟨z, hz⟩ : ∃ z, tbl v es ss = z := ⟨_, rfl⟩
  have HV := Lib.hid (fun W (h : Below w.heap.size w W) => refValidate_any _ v es ss W (HT.out.under h))
  rw [hz] at HV
  have HZ := Lib.hid hz
  clear hb0 hz
  go_enter Tryd.func16, Tryd.ntmps16
  go_upto_region 1 with fail
  refine forget (fun Y => Hid (Row Y w.heap.size 25 #[.int .i64 v, .slice A es.length cap, .slice Bq ss.length cbp] ∧ Below w.heap.size w Y)) HJ ?_
  clear HJ
  intro Y HJ
  obtain ⟨q0, q1, q2⟩ := row3 HJ.out.1
  go_wp2_with fail
  refine (HV.out _ HJ.out.2).mono ?_
  rintro e w1 ⟨rfl, hb⟩
  have J1 := Lib.hid (⟨HJ.out.1.under hb, HJ.out.2.trans (hb.mono HJ.out.2.size)⟩ : Row w1 w.heap.size 25 #[.int .i64 v, .slice A es.length cap, .slice Bq ss.length cbp] ∧ Below w.heap.size w w1)
  clear hb HJ HV q0 q1 q2
  by_cases z0 : z = 0
  case neg =>
    have z1 : (z == 0) = false := by simpa using z0
    go_wp2_with fail
    go_ret2
    exact ⟨z, [], _, .inl ⟨by rw [HZ.out]; exact z0, HZ.out.symm, rfl⟩, rfl, EnIn.nil _, J1.out.2⟩
  subst z0
  by_cases hl : 20 < C.length
  · have m1 : (20 : Int) < (C.length : Int) := by omega
    go_wp2_with fail
    go_ret2
    exact ⟨2, [], _, .inr (.inl ⟨HZ.out, hl, rfl, rfl⟩), rfl, EnIn.nil _, J1.out.2⟩
  have m1 : ¬ (20 : Int) < (C.length : Int) := by omega
  have HG := Lib.hid (good_iff.1 HZ.out)
  have hb := (Below.refl w1.heap.size w1).alloc (Nat.le_refl _) (.cells #[.int .i64 0] 3)
  have HX : Hid (Rx w w1.heap.size 0 [] (.slice none 0 0) (w1.alloc (.cells #[.int .i64 0] 3))) := Lib.hid ⟨J1.out.2.trans (hb.mono J1.out.2.size), J1.out.2.size, Row.new _ _ _, World.ownsRow_nil _ _ _ _, fun e he => absurd he List.not_mem_nil⟩
  have HCall := Lib.hid (RC_0 v es ss HG.out.en HG.out.sn HG.out.el HG.out.sl w _ w1.heap.size 0 [] 0 _ _ _ C (Nat.le_refl _) (by omega) HT.out HX.out (by simp) HC.out (by omega) HG.out.cl (by omega))
  have HR := Lib.hid (J1.out.1.under hb)
  obtain ⟨q0, q1, q2⟩ := row3 HR.out
  clear hb
  obtain ⟨p0, p1, p2⟩ := row3 J1.out.1
  go_wp2_with fail
  refine HCall.out.mono ?_
  clear HCall
  rintro e w4 (⟨x, h3, h4, rfl, h5⟩ | ⟨tk2, l2, v2, h3, h4, rfl, h5, h6⟩)
  · have HF := Lib.hid (⟨h3, h4, h5.1⟩ : Ev es ss (.run C) 0 0 [] (.er x) ∧ x ≠ 0 ∧ Below w.heap.size w w4)
    clear h3 h4 h5
    go_wp2_with fail
    go_ret2
    exact ⟨x, [], _, .inr (.inr ⟨HZ.out, by omega, .inl ⟨HF.out.2.1, HF.out.1, rfl⟩⟩), rfl, EnIn.nil _, HF.out.2.2⟩
  · have HF := Lib.hid (⟨h3, h5⟩ : Ev es ss (.run C) 0 0 [] (.ok tk2 l2) ∧ Rx w w1.heap.size tk2 l2 v2 w4)
    clear h3 h4 h5 h6
    go_wp2_with fail
    go_ret2
    exact ⟨0, l2, _, .inr (.inr ⟨HZ.out, by omega, .inr ⟨rfl, _, HF.out.1⟩⟩), rfl, EnIn.own HF.out.2.i64 HF.out.2.own, HF.out.2.below⟩
end Go.Proofs.YtjaopjhfjijdaaaDoor
