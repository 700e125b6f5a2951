/- The walk of GridNested: for every list the law returns true, and what lay in memory is as it was. -/
import Derived.Test.YtehehhehilgnkaaNesM
import Derived.Test.YtehehhehilgnkaaEdg
import Derived.Test.YtehehhehilgnkaaNearLaw
namespace Go.Proofs.Ytehehhehilgnkaa
open Go.RowKit

/-- What is known inside: the reader, the nodes, the edges. -/
structure Nl (W : World) (b n gn cn' ge : Nat) (w : World) : Prop where
  src : Src W b w
  nds : w.ownsRow W.heap.size 23 4 (.slice (some ⟨gn, 0, none⟩) (cn n) cn') (cn n) (ncs n (Lat.nodes n))
  eds : EdIn w ge (Lat.edg n)
  ne : ge ≠ b
theorem Nl.under {W w w' : World} {b n gn c ge : Nat} (h : Nl W b n gn c ge w) (hb : Below w.heap.size w w') : Nl W b n gn c ge w' := ⟨h.src.under hb, own_under h.nds hb, h.eds.under hb, h.ne⟩
theorem Nl.read {W w w' : World} {b n gn c ge : Nat} (h : Nl W b n gn c ge w) (hs : Src W b w') (hg : w.grownBy w' (some b)) : Nl W b n gn c ge w' :=
  ⟨hs, h.nds.kept hg (.inr (by have := src_ne h.src h.nds (by decide); simpa [Value.ownBlock] using this)), h.eds.grown hg (fun e => h.ne (Option.some.inj e)), h.ne⟩
set_option maxRecDepth 100000 in
set_option maxHeartbeats 8000000 in
theorem gridNested_any (v : Value) (w : World) (hl : ListIn w v) :
    Calls Try.prog 7 #[v] w fun e w' => e = .returned (.bool true) ∧ Below w.heap.size w w' := by
  go_enter Try.func7, Try.ntmps7
  go_wp2_with fail
  refine (new_any _ _ hl).mono ?_
  rintro e w1 ⟨rfl, s1, -⟩
  go_wp2_with fail
  refine (range_any _ _ _ _ _ s1 (by omega) (by omega) (by omega) (by omega)).mono ?_
  rintro e w2 ⟨n', ⟨n1, n2⟩, rfl, s2, -⟩
  obtain ⟨n, rfl⟩ := Int.eq_ofNat_of_zero_le (show 0 ≤ n' by omega)
  have hn : Lat.frq n := ⟨by omega, by omega⟩
  obtain ⟨m, hm⟩ : ∃ m : Nat, m = 2 * n := ⟨_, rfl⟩
  have HM := Lib.hid hm
  have hm2 : 2 * (n : Int) = (m : Int) := by omega
  have h12 : 1 ≤ n ∧ n ≤ 2 := ⟨by omega, by omega⟩
  have H12 := Lib.hid h12
  have HMF := Lib.hid (show Lat.frq m from ⟨by omega, by omega⟩)
  have HN := Lib.hid hn
  have m1 : 2 ≤ (m : Int) := by omega
  have m2 : (m : Int) ≤ 4 := by omega
  have hc : 12 ≤ (cn n : Int) ∧ (cn n : Int) ≤ 642 := by
    have := cn_le hn
    have h5 : 12 ≤ cn n := by rcases two_of h12.1 h12.2 with rfl | rfl <;> decide
    omega
  obtain ⟨hc1, hc2⟩ := hc
  have he : 30 ≤ ((Lat.edg n).length : Int) ∧ ((Lat.edg n).length : Int) ≤ 120 := by
    have := Lat.edg_len hn
    rcases two_of h12.1 h12.2 with rfl | rfl <;> omega
  obtain ⟨he1, he2⟩ := he
  have z1 : ((cn n : Int) == 0) = false := beq_eq_false_iff_ne.2 (by omega)
  have z2 : (((Lat.edg n).length : Int) == 0) = false := beq_eq_false_iff_ne.2 (by omega)
  clear hm hn h12 s1 hl
  generalize hb : w.heap.size = b at *
  have HBE := Lib.hid hb; clear hb
  go_wp2_with fail
  refine (nodes_yes n _ HN.out).mono ?_
  rintro e w3 ⟨gn, cap3, rfl, hb3, hown⟩
  have hs3 := s2.under hb3
  have hown3 : w3.ownsRow w.heap.size 23 4 (.slice (some ⟨gn, 0, none⟩) (cn n) cap3) (cn n) (ncs n (Lat.nodes n)) := hown.mono s2.below.size
  clear hb3 hown s2
  have HO := Lib.hid (And.intro hs3 hown3); clear hs3 hown3
  go_wp2_with fail
  refine (edges_yes n _ HN.out).mono ?_
  rintro e w4 ⟨ge, cap4, rfl, c1, c2, hb4, hge, hed⟩
  have N4 : Nl w b n gn cap3 ge w4 := ⟨HO.out.1.under hb4, own_under HO.out.2 hb4, hed, by
    obtain ⟨_, _, _, _, _, _, h, _⟩ := HO.out.1.row
    have := (Array.getElem?_eq_some_iff.1 h).1
    omega⟩
  have HL := Lib.hid N4
  clear N4 HO hb4 hge hed
  generalize hE : Lat.edg n = E at *
  have HE := Lib.hid hE; clear hE
  go_wp2_with fail
  refine (n_any w b _ _ HL.out.src (by omega) (by omega)).mono ?_
  rintro e w5 ⟨k', ⟨k1, k2⟩, rfl, s5, hg5⟩
  obtain ⟨k, rfl⟩ := Int.eq_ofNat_of_zero_le k1
  have hk : k < cn n := by omega
  have HL5 := Lib.hid (HL.out.read s5 hg5)
  clear s5 hg5 HL
  obtain ⟨q0, q1, q2, q3⟩ := nd_cells HN.out HL5.out.nds k hk
  have HV := Lib.hid (nd_vld HN.out hk)
  have HP := Lib.hid (fin2_place H12.out.1 H12.out.2 HM.out hk)
  have HCL := Lib.hid (fun (Y : World) (h : Nl w b n gn cap3 ge Y) => nd_cells HN.out h.nds k hk)
  clear hk
  generalize (Lat.nd n k).1 = f' at *
  generalize wd n (Lat.nd n k).2.1 = x' at *
  generalize wd n (Lat.nd n k).2.2 = y' at *
  generalize wd n (n - (Lat.nd n k).2.1 - (Lat.nd n k).2.2) = z' at *
  generalize fin2 n m k = i at *
  go_wp2_with fail
  refine (index_yes m f' x' y' z' _ HMF.out HV.out HP.out.1 HP.out.2.1 HP.out.2.2.1).mono ?_
  rintro e w6 ⟨rfl, hb6⟩
  rw [HP.out.2.2.2.1]
  have HL6 := Lib.hid (HL5.out.under hb6)
  clear hb6 HL5 q0 q1 q2 q3
  obtain ⟨q0, q1, q2, q3⟩ := HCL.out _ HL6.out
  go_wp2_with fail
  refine (locate_yes m f' x' y' z' _ HMF.out HV.out).mono ?_
  rintro e w7 ⟨u, rfl, hr⟩
  rw [HP.out.2.2.2.2] at hr
  have hb7 : Below w6.heap.size w6 w7 := by obtain ⟨_, _, _, _, _, h4, _⟩ := hr; exact h4
  have HL7 := Lib.hid (HL6.out.under hb7)
  have HS7 := Lib.hid (ShIn.of hr)
  clear hb7 hr HL6 q0 q1 q2 q3 HP HV HCL
  have hx8 : Below w7.heap.size w7 (w7.alloc (.cells #[.int .i64 (i : Int), .int .i64 840] 55)) := (Below.refl _ _).alloc (Nat.le_refl _) _
  have HS8 := Lib.hid (HS7.out.under hx8)
  have HT8 : Hid (ShIn (w7.alloc (.cells #[.int .i64 (i : Int), .int .i64 840] 55)) (.slice (some ⟨w7.heap.size, 0, none⟩) 1 1) [(i, 840)]) := Lib.hid ⟨some ⟨w7.heap.size, 0, none⟩, 1, rfl, Nat.le_refl _, by omega, fun j hj => by
    obtain rfl : j = 0 := by simpa using hj
    exact ⟨w7.heap.size, rfl, by simp, (Row.new w7 _ _).cell 0, (Row.new w7 _ _).cell 1⟩⟩
  have HL8 := Lib.hid (HL7.out.under hx8)
  clear hx8 HL7 HS7
  obtain ⟨A7, c7, e7, -⟩ := id HS8.out
  subst e7
  go_wp2_with fail
  refine (shareq_any _ _ _ _ _ HS8.out HT8.out).mono ?_
  rintro e w9 ⟨rfl, hb9⟩
  rw [show decide ([(i, (840 : Int))] = [(i, 840)]) = true from decide_eq_true rfl]
  have HL9 := Lib.hid (HL8.out.under hb9)
  clear hb9 HS8 HT8 HL8
  go_wp2_with fail
  refine (n_any w b _ _ HL9.out.src (by omega) (by omega)).mono ?_
  rintro e w10 ⟨j', ⟨j1, j2⟩, rfl, s10, hg10⟩
  obtain ⟨j, rfl⟩ := Int.eq_ofNat_of_zero_le j1
  have hj : j < E.length := by omega
  have HL10 := Lib.hid (HL9.out.read s10 hg10)
  clear s10 hg10 HL9
  have hed := HL10.out.eds
  rw [HE.out] at hed
  obtain ⟨d0, d1⟩ := hed.at_ j hj
  have hmem : (E[j].1, E[j].2) ∈ Lat.edg n := by rw [HE.out]; exact List.getElem_mem hj
  obtain ⟨ha, hb, hab⟩ := Lat.edg_mem.1 hmem
  have hb' := (Lat.nbs_in HN.out ha hb).1
  have HD := Lib.hid (fin2_dist H12.out.1 H12.out.2 HM.out hmem)
  have HIA := Lib.hid (fin2_lt H12.out.1 H12.out.2 HM.out ha)
  have HIB := Lib.hid (fin2_lt H12.out.1 H12.out.2 HM.out hb')
  clear hmem hb hed
  generalize E[j].1 = ka at *
  generalize E[j].2 = kb at *
  have HKA := Lib.hid (show ka < cn n from ha)
  have HKB := Lib.hid (show kb < cn n from hb')
  have a1 : (ka : Int) < (cn n : Int) := by have := HKA.out; omega
  have b1 : (kb : Int) < (cn n : Int) := by have := HKB.out; omega
  have a0 : (0 : Int) ≤ (ka : Int) := by omega
  have b0 : (0 : Int) ≤ (kb : Int) := by omega
  clear ha hb' hab
  go_upto_region 13 with fail
  refine forget (fun Y => Nl w b n gn cap3 ge Y ∧ Row Y w10.heap.size 49 #[.int .i64 (ka : Int), .int .i64 (kb : Int)]) ⟨HL10.out.under ((Below.refl _ _).alloc (Nat.le_refl _) _), Row.new _ _ _⟩ ?_
  clear HL10 d0 d1
  generalize w10.heap.size = gd at *
  rintro Y ⟨y1, y2⟩
  obtain ⟨d0, d1⟩ : Y.cell? ⟨gd, 0, none⟩ = some (.int .i64 (ka : Int)) ∧ Y.cell? ⟨gd, 1, none⟩ = some (.int .i64 (kb : Int)) := ⟨(y2.cell 0).trans rfl, (y2.cell 1).trans rfl⟩
  have HY := Lib.hid (And.intro y1 y2); clear y1 y2
  obtain ⟨q0, q1, q2, q3⟩ := nd_cells HN.out HY.out.1.nds ka HKA.out
  have HV := Lib.hid (nd_vld HN.out HKA.out)
  have HP := Lib.hid (fin2_place H12.out.1 H12.out.2 HM.out HKA.out)
  generalize (Lat.nd n ka).1 = fa at *
  generalize wd n (Lat.nd n ka).2.1 = xa' at *
  generalize wd n (Lat.nd n ka).2.2 = ya at *
  generalize wd n (n - (Lat.nd n ka).2.1 - (Lat.nd n ka).2.2) = za at *
  generalize fin2 n m ka = ia at *
  go_wp2_with fail
  refine (index_yes m fa xa' ya za _ HMF.out HV.out HP.out.1 HP.out.2.1 HP.out.2.2.1).mono ?_
  rintro e w11 ⟨rfl, hb11⟩
  rw [HP.out.2.2.2.1]
  have HY11 := Lib.hid (And.intro (HY.out.1.under hb11) (HY.out.2.under hb11))
  clear hb11 HY q0 q1 q2 q3 HV HP d0 d1
  obtain ⟨d0, d1⟩ : w11.cell? ⟨gd, 0, none⟩ = some (.int .i64 (ka : Int)) ∧ w11.cell? ⟨gd, 1, none⟩ = some (.int .i64 (kb : Int)) := ⟨(HY11.out.2.cell 0).trans rfl, (HY11.out.2.cell 1).trans rfl⟩
  obtain ⟨q0, q1, q2, q3⟩ := nd_cells HN.out HY11.out.1.nds kb HKB.out
  have HV := Lib.hid (nd_vld HN.out HKB.out)
  have HP := Lib.hid (fin2_place H12.out.1 H12.out.2 HM.out HKB.out)
  generalize (Lat.nd n kb).1 = fb at *
  generalize wd n (Lat.nd n kb).2.1 = xb at *
  generalize wd n (Lat.nd n kb).2.2 = yb at *
  generalize wd n (n - (Lat.nd n kb).2.1 - (Lat.nd n kb).2.2) = zb at *
  generalize fin2 n m kb = ib at *
  go_wp2_with fail
  refine (index_yes m fb xb yb zb _ HMF.out HV.out HP.out.1 HP.out.2.1 HP.out.2.2.1).mono ?_
  rintro e w12 ⟨rfl, hb12⟩
  rw [HP.out.2.2.2.1]
  have HY12 := Lib.hid (HY11.out.1.under hb12)
  clear hb12 HY11 q0 q1 q2 q3 HV HP d0 d1
  go_wp2_with fail
  refine (hops_yes m ia ib 2 _ HMF.out HIA.out HIB.out HD.out (by omega)).mono ?_
  rintro e w13 ⟨rfl, hb13⟩
  have HY13 := Lib.hid (HY12.out.under hb13)
  clear hb13 HY12
  go_wp2_with fail
  refine (awake_from (w0 := w) _ HY13.out.src.below).mono ?_
  rintro e w14 ⟨rfl, hb14⟩
  have B14 := Lib.hid hb14; clear hb14
  go_wp2_with fail
  go_ret
  exact ⟨rfl, B14.out⟩
end Go.Proofs.Ytehehhehilgnkaa
