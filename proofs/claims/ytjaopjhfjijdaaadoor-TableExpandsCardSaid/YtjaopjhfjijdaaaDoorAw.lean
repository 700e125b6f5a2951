/- The sanity check of the statements. -/
import Derived.Test.YtjaopjhfjijdaaaDoorSm
import Derived.Test.YtjaopjhfjijdaaaDoorRn
namespace Go.Proofs.YtjaopjhfjijdaaaDoor
open Go.RowKit

/-- A list of numbers, of entries, in a new block of their own. -/
theorem NmIn.row {w : World} {g : Nat} {t : TypeId} {C : List Int} (h : Row w g t (C.map (Value.int .i64)).toArray) (hI : ∀ x ∈ C, I64 x) (hl : C.length ≤ 1000) : NmIn w (.slice (some ⟨g, 0, none⟩) C.length C.length) C :=
  ⟨some ⟨g, 0, none⟩, C.length, rfl, Nat.le_refl _, by omega, fun i hi => ⟨g, 0, rfl, h.lt, by rw [h.cell, Nat.zero_add]; simp [hi], hI _ (List.getElem_mem hi)⟩⟩
theorem EnIn.row {w : World} {g : Nat} {t : TypeId} {L : List En} (h : Row w g t (rowE L).toArray) (hI : ∀ x ∈ L, I64 x.1) (hl : L.length ≤ 1000) : EnIn w (.slice (some ⟨g, 0, none⟩) L.length L.length) L :=
  ⟨some ⟨g, 0, none⟩, L.length, rfl, Nat.le_refl _, by omega, fun i hi => ⟨g, 0, rfl, h.lt, by
    have r := rowE_at L i hi
    unfold At5
    rw [h.cell, h.cell, h.cell, h.cell, h.cell, Nat.zero_add]
    simpa using r, hI _ (List.getElem_mem hi)⟩⟩
theorem sv_good : tbl 1 [sv] [] = 0 := by decide +kernel
theorem sv_a : Ans 1 [sv] [] [20102, 7] 0 [sv, sv] := .inr (.inr ⟨sv_good, by decide, .inr ⟨rfl, 3, exf_ev _ _ 10 _ _ _ _ _ (by kernel_rfl)⟩⟩)
theorem sv_b : Ans 1 [sv] [] [20202, 7] 11 [] := .inr (.inr ⟨sv_good, by decide, .inl ⟨by decide, exf_ev _ _ 10 _ _ _ _ _ (by kernel_rfl), rfl⟩⟩)
theorem sv_e : encA sv 8023 = (4, 0) := by decide +kernel
theorem sv_d : decA sv 4 = (8020, true) := by decide +kernel
theorem i64_small {x : Int} (h1 : -1000000 ≤ x) (h2 : x ≤ 1000000) : I64 x := ⟨by omega, by omega⟩
theorem sv_i : I64 sv.1 := i64_small (by decide) (by decide)
set_option maxRecDepth 100000 in
set_option maxHeartbeats 2000000 in
theorem awake_any (w : World) (hT : Tab w) :
    Calls Tryd.prog 9 #[] w fun e w' => e = .returned (.bool true) ∧ Below w.heap.size w w' := by
  have HT := Lib.hid hT
  clear hT
  go_enter Tryd.func9, Tryd.ntmps9
  go_wp2_with fail
  refine (seven_any _).mono ?_
  rintro e w1 ⟨rfl, g1⟩
  have B1 := Lib.hid g1; clear g1
  simp only [enV, sv]
  go_upto_region 2 with fail
  have r0 := Row.new w1 (rowE [sv]).toArray 47
  have r1 := Row.newAt (w := w1.alloc (.cells (rowE [sv]).toArray 47)) (cs := #[.int .i64 1, .slice (some ⟨w1.heap.size, 0, none⟩) 1 1, .slice none 0 0]) (t := 25) (g := w1.heap.size + 1) (by simp)
  refine forget (fun Y => Hid (TbIn Y (.agg #[.int .i64 1, .slice (some ⟨w1.heap.size, 0, none⟩) 1 1, .slice none 0 0]) 1 [sv] [] ∧ Row Y (w1.heap.size + 1) 25 #[.int .i64 1, .slice (some ⟨w1.heap.size, 0, none⟩) 1 1, .slice none 0 0] ∧ Below w.heap.size w Y)) (Lib.hid ⟨⟨_, _, rfl, EnIn.row (L := [sv]) (r0.alloc _) (fun x hx => by rw [List.mem_singleton.1 hx]; exact sv_i) (by decide), SqIn.nil _⟩, r1, alloc_below (alloc_below B1.out B1.out.size _) (alloc_below B1.out B1.out.size _).size _⟩) ?_
  generalize w1.heap.size = g1
  generalize g1 + 1 = gt
  clear r0 r1 B1
  intro w2 J2
  have rc := Row.new w2 (([20102, 7] : List Int).map (Value.int .i64)).toArray 3
  have hb := (Below.refl w2.heap.size w2).alloc (Nat.le_refl _) (.cells (([20102, 7] : List Int).map (Value.int .i64)).toArray 3)
  have HX := Lib.hid (expand_any _ _ 1 [sv] [] [20102, 7] _ (J2.out.1.under hb) (NmIn.row (C := [20102, 7]) rc (fun x hx => by simp at hx; rcases hx with rfl | rfl <;> exact i64_small (by decide) (by decide)) (by decide)) (HT.out.under (J2.out.2.2.trans (hb.mono J2.out.2.2.size))))
  have HB := Lib.hid (J2.out.2.2.trans (hb.mono J2.out.2.2.size))
  have HR := Lib.hid (J2.out.2.1.under hb)
  have HTb := Lib.hid (J2.out.1.under hb)
  obtain ⟨q0, q1, q2⟩ := row3 J2.out.2.1
  clear rc hb
  go_wp2_with fail
  refine HX.out.mono ?_
  rintro e w3 ⟨x, L, a3, ha, rfl, hl3, hb⟩
  obtain ⟨rfl, rfl⟩ := ha.one sv_a
  have J3 : Hid (TbIn w3 (.agg #[.int .i64 1, .slice (some ⟨g1, 0, none⟩) 1 1, .slice none 0 0]) 1 [sv] [] ∧ Row w3 gt 25 #[.int .i64 1, .slice (some ⟨g1, 0, none⟩) 1 1, .slice none 0 0] ∧ Below w.heap.size w w3) := Lib.hid ⟨HTb.out.under hb, HR.out.under hb, HB.out.trans (hb.mono HB.out.size)⟩
  have E3 := Lib.hid hl3
  clear hl3 hb ha HX HB HR HTb J2 q0 q1 q2
  go_upto_region 3 with fail
  have rc := Row.new w3 (([20202, 7] : List Int).map (Value.int .i64)).toArray 3
  have hb := (Below.refl w3.heap.size w3).alloc (Nat.le_refl _) (.cells (([20202, 7] : List Int).map (Value.int .i64)).toArray 3)
  have HX := Lib.hid (expand_any _ _ 1 [sv] [] [20202, 7] _ (J3.out.1.under hb) (NmIn.row (C := [20202, 7]) rc (fun x hx => by simp at hx; rcases hx with rfl | rfl <;> exact i64_small (by decide) (by decide)) (by decide)) (HT.out.under (J3.out.2.2.trans (hb.mono J3.out.2.2.size))))
  have HB := Lib.hid (J3.out.2.2.trans (hb.mono J3.out.2.2.size))
  have HR := Lib.hid (J3.out.2.1.under hb)
  have HTb := Lib.hid (J3.out.1.under hb)
  have HE3 := Lib.hid (E3.out.under hb)
  obtain ⟨q0, q1, q2⟩ := row3 J3.out.2.1
  clear rc hb
  go_wp2_with fail
  refine HX.out.mono ?_
  rintro e w4 ⟨x, L, a4, ha, rfl, hl4, hb⟩
  obtain ⟨rfl, rfl⟩ := ha.one sv_b
  have J4 : Hid (TbIn w4 (.agg #[.int .i64 1, .slice (some ⟨g1, 0, none⟩) 1 1, .slice none 0 0]) 1 [sv] [] ∧ Row w4 gt 25 #[.int .i64 1, .slice (some ⟨g1, 0, none⟩) 1 1, .slice none 0 0] ∧ Below w.heap.size w w4) := Lib.hid ⟨HTb.out.under hb, HR.out.under hb, HB.out.trans (hb.mono HB.out.size)⟩
  have E4 := Lib.hid hl4
  have E3 := Lib.hid (HE3.out.under hb)
  clear hl4 hb ha HX HB HR HTb J3 q0 q1 q2 HE3
  have B4 := Lib.hid J4.out.2.2
  clear J4 E4
  go_upto_region 4 with fail
  have he := fun W (h : Tab W) => encode_any sv 8023 W h sv_i
  rw [sv_e] at he
  have HE := Lib.hid he
  have hd := fun W (h : Tab W) => decode_any sv 4 W h sv_i
  rw [sv_d] at hd
  have HD := Lib.hid hd
  clear he hd
  go_wp2_with fail
  refine (seven_any _).mono ?_
  rintro e w5 ⟨rfl, g5⟩
  have B5 := Lib.hid (B4.out.trans (g5.mono B4.out.size))
  have E5 := Lib.hid (E3.out.under g5)
  clear g5 B4 E3
  go_wp2_with fail
  refine (HE.out _ (HT.out.under B5.out)).mono ?_
  rintro e w6 ⟨rfl, g6⟩
  have B6 := Lib.hid (B5.out.trans (g6.mono B5.out.size))
  have E6 := Lib.hid (E5.out.under g6)
  clear g6 B5 E5
  go_wp2_with fail
  refine (seven_any _).mono ?_
  rintro e w7 ⟨rfl, g7⟩
  have B7 := Lib.hid (B6.out.trans (g7.mono B6.out.size))
  have E7 := Lib.hid (E6.out.under g7)
  clear g7 B6 E6
  go_wp2_with fail
  refine (HD.out _ (HT.out.under B7.out)).mono ?_
  rintro e w8 ⟨rfl, g8⟩
  have B8 := Lib.hid (B7.out.trans (g8.mono B7.out.size))
  have E8 := Lib.hid (E7.out.under g8)
  clear g8 B7 E7 HE HD
  go_wp2_with fail
  refine (seven_any _).mono ?_
  rintro e w9 ⟨rfl, g9⟩
  have B9 := Lib.hid (B8.out.trans (g9.mono B8.out.size))
  have E9 := Lib.hid (E8.out.under g9)
  clear g9 B8 E8
  go_wp2_with fail
  refine (seven_any _).mono ?_
  rintro e w10 ⟨rfl, g10⟩
  have B10 := Lib.hid (B9.out.trans (g10.mono B9.out.size))
  have E10 := Lib.hid (E9.out.under g10)
  clear g10 B9 E9
  obtain ⟨A3, c3, ea, -⟩ := E10.out
  subst ea
  simp only [enV, sv]
  have rr := Row.new w10 (rowE [sv, sv]).toArray 47
  have hb := (Below.refl w10.heap.size w10).alloc (Nat.le_refl _) (.cells (rowE [sv, sv]).toArray 47)
  have HS := same_any _ _ [sv, sv] [sv, sv] _ (E10.out.under hb) (EnIn.row (L := [sv, sv]) rr (fun x hx => by simp at hx; rw [hx]; exact sv_i) (by decide))
  rw [decide_eq_true rfl] at HS
  have HS := Lib.hid HS
  have BA := Lib.hid (B10.out.trans (hb.mono B10.out.size))
  clear hb rr
  go_wp2_with fail
  refine HS.out.mono ?_
  rintro e w11 ⟨rfl, g11⟩
  have BF := Lib.hid (BA.out.trans (g11.mono BA.out.size))
  clear g11 HS BA
  go_wp2_with fail
  go_ret
  exact ⟨rfl, BF.out⟩
theorem awake_from {w0 : World} (X : World) (hT : Tab X) (hb : Below w0.heap.size w0 X) :
    Calls Tryd.prog 9 #[] X fun e w' => e = .returned (.bool true) ∧ Below w0.heap.size w0 w' :=
  (awake_any X hT).mono fun _ _ ⟨he, hg⟩ => ⟨he, hb.trans (hg.mono hb.size)⟩
end Go.Proofs.YtjaopjhfjijdaaaDoor
