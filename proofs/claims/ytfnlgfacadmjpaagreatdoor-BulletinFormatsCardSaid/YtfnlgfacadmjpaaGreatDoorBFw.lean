/- The walk of BulletinFormats. -/
import Derived.Test.YtfnlgfacadmjpaaGreatDoorBBt
import Derived.Test.YtfnlgfacadmjpaaGreatDoorBSm
import Derived.Test.YtfnlgfacadmjpaaGreatDoorBSe
import Derived.Test.YtfnlgfacadmjpaaGreatDoorBVe
import Derived.Test.YtfnlgfacadmjpaaGreatDoorBAk
namespace Go.Proofs.YtfnlgfacadmjpaaGreatDoor.Bu
open Go.RowKit

/-- A bulletin with its reports. -/
structure Bl where
  c : List UInt8
  t : Int
  cor : Int
  del : Int
  v : Value
  R : List Rp
def blCells (x : Bl) : List Value := [.string (S x.c), .int .i64 x.t, .int .i64 x.cor, .int .i64 x.del, x.v]
def blc (M : List Bl) : List Value := M.flatMap blCells
theorem blc_at : ∀ (M : List Bl) (i : Nat) (h : i < M.length), ∀ j : Nat, j < 5 → (blc M)[i * 5 + j]? = (blCells M[i])[j]?
  | x :: r, 0, _, j, hj => by
    show (blCells x ++ blc r)[0 * 5 + j]? = _
    rw [Nat.zero_mul, Nat.zero_add, List.getElem?_append_left (by exact hj)]
    rfl
  | x :: r, i + 1, h, j, hj => by
    show (blCells x ++ blc r)[(i + 1) * 5 + j]? = _
    rw [List.getElem?_append_right (by show 5 ≤ _; omega), List.getElem_cons_succ, ← blc_at r i (Nat.lt_of_succ_lt_succ h) j hj]
    congr 1
    show (i + 1) * 5 + j - 5 = _
    omega
/-- The cells of a bulletin in a row of bulletins. -/
def At5 (V : World) (g o : Nat) (x : Bl) : Prop :=
  V.cell? ⟨g, o, none⟩ = some (.string (S x.c)) ∧ V.cell? ⟨g, o + 1, none⟩ = some (.int .i64 x.t) ∧ V.cell? ⟨g, o + 2, none⟩ = some (.int .i64 x.cor) ∧ V.cell? ⟨g, o + 3, none⟩ = some (.int .i64 x.del) ∧ V.cell? ⟨g, o + 4, none⟩ = some x.v
theorem at5_row {V : World} {g : Nat} {M : List Bl} (h : Row V g 24 (blc M).toArray) (i : Nat) (hi : i < M.length) : At5 V g (i * 5) M[i] := by
  have k : ∀ j < 5, V.cell? ⟨g, i * 5 + j, none⟩ = (blCells M[i])[j]? := fun j hj => by
    rw [h.cell, List.getElem?_toArray]
    exact blc_at M i hi j hj
  exact ⟨k 0 (by omega), k 1 (by omega), k 2 (by omega), k 3 (by omega), k 4 (by omega)⟩
/-- A bulletin that the references can look at. -/
def Fit (W : World) (x : Bl) : Prop := RpsIn W x.v x.R ∧ (S x.c).size ≤ 40 ∧ ∀ r ∈ x.R, r.nm.size ≤ 40
theorem blc_of {V W : World} {g : Nat} {M : List Bl} (h : Row V g 24 (blc M).toArray) (hf : ∀ x ∈ M, Fit W x) (i : Nat) (hi : i < M.length) : ∃ x : Bl, At5 V g (i * 5) x ∧ Fit W x :=
  ⟨M[i], at5_row h i hi, hf _ (List.getElem_mem hi)⟩
theorem fmV_form (c : List UInt8) (t cor del : Int) (R : List Rp) : ∃ sa oa, fmV c t cor del R = .tuple #[.string sa, .int .i64 oa] := by
  unfold fmV
  split
  · split
    · exact ⟨_, _, rfl⟩
    · exact ⟨_, _, rfl⟩
  · exact ⟨_, _, rfl⟩
set_option maxRecDepth 100000 in
set_option maxHeartbeats 40000000 in
theorem bulletinFormats_any (c0 : List UInt8) (t0 k0 d0 : Int) (v0 : Value) (R0 : List Rp) (v : Value) (w : World) (hE : Env w) (hl : ListIn w v) (h0 : RpsIn w v0 R0) :
    Calls Tryz.prog 3 #[bulV (S c0) t0 k0 d0 v0, v] w fun e w' => e = .returned (.bool true) ∧ Below w.heap.size w w' := by
  have HE := Lib.hid hE; clear hE
  have HL := Lib.hid hl; clear hl
  obtain ⟨A0, p0, rfl, -⟩ := id h0
  have H0 := Lib.hid h0; clear h0
  go_enter Tryz.func3, Tryz.ntmps3
  go_upto_region 1 with fail
  refine forget (fun Y => Below w.heap.size w Y ∧ Row Y w.heap.size 24 (bulC (S c0) t0 k0 d0 (.slice A0 R0.length p0))) ⟨(Below.refl _ _).alloc (Nat.le_refl _) _, Row.new _ _ _⟩ ?_
  obtain ⟨gx, hgx⟩ : ∃ g, w.heap.size = g := ⟨_, rfl⟩
  rintro Y ⟨bY, rx⟩
  rw [hgx] at rx
  rw [hgx]
  clear hgx
  obtain ⟨f0, f1, f2, f3, f4⟩ := row5 rx
  by_cases hc : 40 < (S c0).size
  · have hc1 : (40 : Int) < ((S c0).size : Int) := by omega
    go_wp2_with fail
    refine (awake_from (w0 := w) _ (HE.out.under bY) bY).mono ?_
    rintro e w2 ⟨rfl, gQ⟩
    go_wp2_with fail
    go_ret
    exact ⟨rfl, gQ⟩
  have hc1 : ¬ (40 : Int) < ((S c0).size : Int) := by omega
  go_wp2_with fail
  refine (smallAll_any _ R0 80 _ (H0.out.under bY)).mono ?_
  rintro e w1 ⟨⟨bb, rfl, hS⟩, gY⟩
  replace bY := bY.trans (gY.mono bY.size)
  replace rx := rx.under gY
  clear f0 f1 f2 f3 f4 gY
  cases bb
  · go_wp2_with fail
    refine (awake_from (w0 := w) _ (HE.out.under bY) bY).mono ?_
    rintro e w2 ⟨rfl, gQ⟩
    go_wp2_with fail
    go_ret
    exact ⟨rfl, gQ⟩
  have FX := Lib.hid (show Fit w1 ⟨c0, t0, k0, d0, (.slice A0 R0.length p0), R0⟩ from ⟨H0.out.under bY, Nat.not_lt.1 hc, fun r hr => ((hS rfl).2 r hr).1⟩)
  clear hS hc hc1
  go_wp2_with fail
  refine (new_any _ _ (HL.out.under bY)).mono ?_
  rintro e w2 ⟨rfl, s1, -⟩
  go_wp2_with fail
  refine (made_any _ _ _ 5 s1 (by omega)).mono ?_
  rintro e w3 ⟨c, t, cor, del, R, v, base, rfl, hV, hR5, hM⟩
  obtain ⟨Ar, cr, ev⟩ := row_form hM.own
  subst ev
  have BY := Lib.hid bY
  have RX := Lib.hid rx
  have hba := (Below.refl w3.heap.size w3).alloc (Nat.le_refl _) (.cells (bulC (S c) t cor del (.slice Ar R.length cr)) 24)
  have G1 := hM.under hba
  have R1 := Row.new w3 (bulC (S c) t cor del (.slice Ar R.length cr)) 24
  have hrb := Nat.ne_of_gt (src_lt hM.src)
  go_upto_region 5 with fail
  clear s1 rx bY hM hba
  generalize w3.alloc (.cells (bulC (S c) t cor del (.slice Ar R.length cr)) 24) = w5 at *
  obtain ⟨gb, hgb⟩ : ∃ g, w3.heap.size = g := ⟨_, rfl⟩
  rw [hgb] at R1 hrb ⊢
  clear hgb
  have R2 := Lib.hid R1
  have G2 := Lib.hid G1
  have hV2 := Lib.hid hV
  obtain ⟨f0, f1, f2, f3, f4⟩ := row5 R1
  clear R1 G1 hV
  go_wp2_with fail
  refine (bent6_any _ _ base w5 (S c) t cor del R _ G2.out hV2.out hR5).mono ?_
  rintro e w6 ⟨hrm, hgro, cz, t2, k2, d2, v2, Rz, hc2, hn2, rfl, hr2⟩
  obtain ⟨c2, rfl⟩ : ∃ l, cz = S l := ⟨_, (S_of _).symm⟩
  obtain ⟨A2, q2, ev⟩ := row_form hr2.own
  subst ev
  have hc40 : (S c).size ≤ 40 := by
    have h := hV2.out.hctr
    unfold ctr at h
    rw [Bool.and_eq_true, decide_eq_true_iff] at h
    omega
  have bal := (Below.refl w6.heap.size w6).alloc (Nat.le_refl _) (.cells (bulC (S c2) t2 k2 d2 (.slice A2 Rz.length q2)) 24)
  have BS := Lib.hid (hrm.src.below.trans (bal.mono hrm.src.below.size))
  have FB := Lib.hid (show Fit (w6.alloc (.cells (bulC (S c2) t2 k2 d2 (.slice A2 Rz.length q2)) 24)) ⟨c, t, cor, del, (.slice Ar R.length cr), R⟩ from ⟨(hrm.under bal).ins, hc40, fun r hr => (hV2.out.hreps r hr).1.short⟩)
  have F2 := Lib.hid (show Fit (w6.alloc (.cells (bulC (S c2) t2 k2 d2 (.slice A2 Rz.length q2)) 24)) ⟨c2, t2, k2, d2, (.slice A2 Rz.length q2), Rz⟩ from ⟨(hr2.under bal).ins, hc2, hn2⟩)
  have RB := Lib.hid ((R2.out.grown hgro (fun e => hrb (by injection e))).under bal)
  have RC := Lib.hid (Row.new w6 (bulC (S c2) t2 k2 d2 (.slice A2 Rz.length q2)) 24)
  clear f0 f1 f2 f3 f4 hrm hgro hr2 bal hc40 hc2 hn2 G2 hV2 R2 hR5 hrb
  go_upto_region 6 with fail
  generalize w6.alloc (.cells (bulC (S c2) t2 k2 d2 (.slice A2 Rz.length q2)) 24) = w7 at *
  obtain ⟨gc, hgc⟩ : ∃ g, w6.heap.size = g := ⟨_, rfl⟩
  rw [hgc] at RC ⊢
  clear hgc
  have RX7 := Lib.hid (RX.out.under BS.out)
  have BV := Lib.hid (BY.out.trans (BS.out.mono BY.out.size))
  have FX7 := Lib.hid (show Fit w7 ⟨c0, t0, k0, d0, (.slice A0 R0.length p0), R0⟩ from ⟨FX.out.1.under BS.out, FX.out.2⟩)
  clear RX BY BS FX
  obtain ⟨f0, f1, f2, f3, f4⟩ := row5 RX7.out
  obtain ⟨g0, g1, g2, g3, g4⟩ := row5 RB.out
  obtain ⟨i0, i1, i2, i3, i4⟩ := row5 RC.out
  have B3 := Lib.hid ((Below.refl w7.heap.size w7).alloc (Nat.le_refl _) (.cells (blc [⟨c0, t0, k0, d0, (.slice A0 R0.length p0), R0⟩, ⟨c, t, cor, del, (.slice Ar R.length cr), R⟩, ⟨c2, t2, k2, d2, (.slice A2 Rz.length q2), Rz⟩]).toArray 24))
  have N3 := Lib.hid (Row.new w7 (blc [⟨c0, t0, k0, d0, (.slice A0 R0.length p0), R0⟩, ⟨c, t, cor, del, (.slice Ar R.length cr), R⟩, ⟨c2, t2, k2, d2, (.slice A2 Rz.length q2), Rz⟩]).toArray 24)
  clear RC
  go_wp2_with fail
  clear f0 f1 f2 f3 f4 g0 g1 g2 g3 g4 i0 i1 i2 i3 i4
  go_loopw [37] (fun tv wr => ∃ i : Nat, i ≤ 3 ∧ tv = .int .i64 i ∧ Below w7.heap.size w7 wr ∧ Row wr w7.heap.size 24 (blc [⟨c0, t0, k0, d0, (.slice A0 R0.length p0), R0⟩, ⟨c, t, cor, del, (.slice Ar R.length cr), R⟩, ⟨c2, t2, k2, d2, (.slice A2 Rz.length q2), Rz⟩]).toArray) (fun tv _ => 3 - (intOf tv).toNat)
  case atStart => exact ⟨0, by omega, rfl, B3.out, N3.out⟩
  case round =>
    clear B3 N3
    obtain ⟨i, hi, rfl, hB, hR⟩ := hrel
    by_cases hlt : i < 3
    · skip
      have i0a : (0 : Int) ≤ (i : Int) := by omega
      have i1a : (i : Int) < 3 := by omega
      obtain ⟨⟨ca, ta, ka, da, va, Ra⟩, hca, hra, hsa, hna⟩ := blc_of (W := w7) hR (by
        intro x hx
        simp only [List.mem_cons, List.not_mem_nil, or_false] at hx
        rcases hx with rfl | rfl | rfl
        · exact FX7.out
        · exact FB.out
        · exact F2.out) i hlt
      obtain ⟨Sa, ua, hva, -⟩ := id hra
      simp only at hva
      subst hva
      obtain ⟨f0, f1, f2, f3, f4⟩ := hca
      simp only at f0 f1 f2 f3 f4 hsa hna hra
      have Ha := Lib.hid hra
      have HBa := Lib.hid hB
      have HRr := Lib.hid hR
      have HNA := Lib.hid hna
      clear hra hB hR hna
      go_upto_region 9 with fail
      refine forget (fun Y => (Below w7.heap.size w7 Y ∧ Row Y wr.heap.size 24 (bulC (S ca) ta ka da (.slice Sa Ra.length ua))) ∧ Row Y w7.heap.size 24 (blc [⟨c0, t0, k0, d0, (.slice A0 R0.length p0), R0⟩, ⟨c, t, cor, del, (.slice Ar R.length cr), R⟩, ⟨c2, t2, k2, d2, (.slice A2 Rz.length q2), Rz⟩]).toArray) ⟨⟨HBa.out.alloc HBa.out.size _, Row.new _ _ _⟩, HRr.out.alloc _⟩ ?_
      clear f0 f1 f2 f3 f4 HBa HRr i0a i1a
      generalize wr.heap.size = ga at *
      rintro Ya ⟨⟨bY, ra⟩, hR⟩
      have HRr := Lib.hid hR
      clear hR
      have HA := Lib.hid (Ha.out.under bY)
      have H0Y := Lib.hid (FX7.out.1.under bY)
      have HBY := Lib.hid (FB.out.1.under bY)
      have HEY := Lib.hid ((HE.out.under BV.out).under bY)
      obtain ⟨sa, oa, hfm⟩ := fmV_form ca ta ka da Ra
      have FA := Lib.hid (fun (W : World) (h : Below Ya.heap.size Ya W) => format6_any ca ta ka da _ Ra W (HEY.out.under h) (HA.out.under h))
      have FB2 := Lib.hid (fun (W : World) (h : Below Ya.heap.size Ya W) => refFormat6_any ca ta ka da _ Ra W (by omega) (fun r hr => by have := HNA.out r hr; omega) (HA.out.under h))
      rw [hfm] at FA FB2
      clear hfm
      have FC := Lib.hid (fun (w0 W : World) (hd : Below Ya.heap.size Ya w0) (h : Below w0.heap.size w0 W) => (validate6_any (S ca) ta ka da _ Ra W ((HEY.out.under hd).under h) ((HA.out.under hd).under h)).mono (fun (e : Ending) (w9 : World) ⟨he, hg⟩ => (⟨he, h.trans (hg.mono h.size)⟩ : _ ∧ Below w0.heap.size w0 w9)))
      have FD := Lib.hid (fun (w0 W : World) (hd : Below Ya.heap.size Ya w0) (h : Below w0.heap.size w0 W) => (refValidate6_any (S ca) ta ka da _ Ra W (by omega) (fun r hr => by have := HNA.out r hr; omega) ((HA.out.under hd).under h)).mono (fun (e : Ending) (w9 : World) ⟨he, hg⟩ => (⟨he, h.trans (hg.mono h.size)⟩ : _ ∧ Below w0.heap.size w0 w9)))
      have FE := Lib.hid (fun (w0 W : World) (hd : Below Ya.heap.size Ya w0) (h : Below w0.heap.size w0 W) => (same6p_any (S ca) ta ka da (S c) t cor del _ _ Ra R W ((HA.out.under hd).under h) ((HBY.out.under hd).under h)).mono (fun (e : Ending) (w9 : World) ⟨he, hg⟩ => (⟨he, h.trans (hg.mono h.size)⟩ : _ ∧ Below w0.heap.size w0 w9)))
      have FF := Lib.hid (fun (w0 W : World) (hd : Below Ya.heap.size Ya w0) (h : Below w0.heap.size w0 W) => (refSame6_any (S ca) ta ka da (S c) t cor del _ _ Ra R W ((HA.out.under hd).under h) ((HBY.out.under hd).under h)).mono (fun (e : Ending) (w9 : World) ⟨he, hg⟩ => (⟨he, h.trans (hg.mono h.size)⟩ : _ ∧ Below w0.heap.size w0 w9)))
      have FG := Lib.hid (fun (w0 W : World) (hd : Below Ya.heap.size Ya w0) (h : Below w0.heap.size w0 W) => (same6p_any (S c0) t0 k0 d0 (S ca) ta ka da _ _ R0 Ra W ((H0Y.out.under hd).under h) ((HA.out.under hd).under h)).mono (fun (e : Ending) (w9 : World) ⟨he, hg⟩ => (⟨he, h.trans (hg.mono h.size)⟩ : _ ∧ Below w0.heap.size w0 w9)))
      have FH := Lib.hid (fun (w0 W : World) (hd : Below Ya.heap.size Ya w0) (h : Below w0.heap.size w0 W) => (refSame6_any (S c0) t0 k0 d0 (S ca) ta ka da _ _ R0 Ra W ((H0Y.out.under hd).under h) ((HA.out.under hd).under h)).mono (fun (e : Ending) (w9 : World) ⟨he, hg⟩ => (⟨he, h.trans (hg.mono h.size)⟩ : _ ∧ Below w0.heap.size w0 w9)))
      clear HA H0Y HBY HEY HNA Ha
      generalize vcb (S ca) ta ka da Ra = oc at *
      generalize sm6 (S ca) ta ka da Ra (S c) t cor del R = sb at *
      generalize sm6 (S c0) t0 k0 d0 R0 (S ca) ta ka da Ra = sr at *
      have qs : (sa.toList == sa.toList) = true := beq_self_eq_true _
      have qc : (oa != oa) = false := by simp
      have qd : (oc != oc) = false := by simp
      have qe : (sb != sb) = false := by cases sb <;> rfl
      have qf : (sr != sr) = false := by cases sr <;> rfl
      obtain ⟨f0, f1, f2, f3, f4⟩ := row5 ra
      go_wp2_with fail
      refine (FA.out _ (Below.refl _ _)).mono ?_
      rintro e wy ⟨rfl, g1⟩
      clear f0 f1 f2 f3 f4
      obtain ⟨f0, f1, f2, f3, f4⟩ := row5 (ra.under g1)
      go_wp2_with fail
      refine (FB2.out _ g1).mono ?_
      rintro e wz ⟨rfl, g2'⟩
      have g2 := g1.trans (g2'.mono g1.size)
      have YZ := Lib.hid g2
      have BZ := Lib.hid (bY.trans (g2.mono bY.size))
      have RZ := Lib.hid (ra.under g2)
      have R0Z := Lib.hid ((RX7.out.under bY).under g2)
      have RBZ := Lib.hid ((RB.out.under bY).under g2)
      have HRZ := Lib.hid (HRr.out.under g2)
      clear f0 f1 f2 f3 f4 g1 g2' g2 bY ra FA FB2 HRr
      go_upto_region 11 with fail
      have hb2 := Below.refl wz.drew.heap.size wz.drew
      have YZD : Hid (Below Ya.heap.size Ya wz.drew) := Lib.hid ((YZ.out.trans ⟨rfl, rfl, rfl, Nat.le_refl _, fun _ _ => rfl⟩))
      refine wp_region_held_drew (S := fun w' : World => (w'.cell? ⟨ga, 0, none⟩ = some (.string (S ca)) ∧ w'.cell? ⟨ga, 1, none⟩ = some (.int .i64 ta) ∧ w'.cell? ⟨ga, 2, none⟩ = some (.int .i64 ka) ∧ w'.cell? ⟨ga, 3, none⟩ = some (.int .i64 da) ∧ w'.cell? ⟨ga, 4, none⟩ = some (.slice Sa Ra.length ua)) ∧ (w'.cell? ⟨gx, 0, none⟩ = some (.string (S c0)) ∧ w'.cell? ⟨gx, 1, none⟩ = some (.int .i64 t0) ∧ w'.cell? ⟨gx, 2, none⟩ = some (.int .i64 k0) ∧ w'.cell? ⟨gx, 3, none⟩ = some (.int .i64 d0) ∧ w'.cell? ⟨gx, 4, none⟩ = some (.slice A0 R0.length p0)) ∧ (w'.cell? ⟨gb, 0, none⟩ = some (.string (S c)) ∧ w'.cell? ⟨gb, 1, none⟩ = some (.int .i64 t) ∧ w'.cell? ⟨gb, 2, none⟩ = some (.int .i64 cor) ∧ w'.cell? ⟨gb, 3, none⟩ = some (.int .i64 del) ∧ w'.cell? ⟨gb, 4, none⟩ = some (.slice Ar R.length cr))) (by kernel_rfl) ⟨row5 RZ.out.drew, row5 R0Z.out.drew, row5 RBZ.out.drew⟩ (fun hHeld => ?_)
      refine wpAnyH_take (i := 0) (oi := ⟨some 51, _, _, _, _, none⟩) (v := ?_) rfl (by kernel_rfl) (by kernel_rfl) (by kernel_rfl) (fun _ _ _ h => h) (Or.inl ⟨by rfl, ?_⟩) (by assumption) ?_
      case refine_2 => (intro wx hSx; (try dsimp only at hSx); go_simp; first | done | with_reducible rfl)
      try simp only [Act.put, List.setIfInBounds_toArray, List.set_cons_zero, List.set_cons_succ]
      refine wpAnyH_take (i := 1) (oi := ⟨some 52, _, _, _, _, none⟩) (v := ?_) rfl (by kernel_rfl) (by kernel_rfl) (by kernel_rfl) (fun _ _ _ h => h) (Or.inl ⟨by rfl, ?_⟩) (by assumption) ?_
      case refine_2 => (intro wx hSx; (try dsimp only at hSx); go_simp; first | done | with_reducible rfl)
      try simp only [Act.put, List.setIfInBounds_toArray, List.set_cons_zero, List.set_cons_succ]
      refine wpAnyH_take (i := 2) (oi := ⟨some 53, _, _, _, _, none⟩) (v := ?_) rfl (by kernel_rfl) (by kernel_rfl) (by kernel_rfl) (fun _ _ _ h => h) (Or.inl ⟨by rfl, ?_⟩) (by assumption) ?_
      case refine_2 => (intro wx hSx; (try dsimp only at hSx); go_simp; first | done | with_reducible rfl)
      try simp only [Act.put, List.setIfInBounds_toArray, List.set_cons_zero, List.set_cons_succ]
      refine wpAnyH_take (i := 3) (oi := ⟨some 54, _, _, _, _, none⟩) (v := ?_) rfl (by kernel_rfl) (by kernel_rfl) (by kernel_rfl) (fun _ _ _ h => h) (Or.inl ⟨by rfl, ?_⟩) (by assumption) ?_
      case refine_2 => (intro wx hSx; (try dsimp only at hSx); go_simp; first | done | with_reducible rfl)
      try simp only [Act.put, List.setIfInBounds_toArray, List.set_cons_zero, List.set_cons_succ]
      refine wpAnyH_take (i := 4) (oi := ⟨some 55, _, _, _, _, some _⟩) (v := ?_) rfl (by kernel_rfl) (by kernel_rfl) (by kernel_rfl) (fun _ _ _ h => h) (Or.inl ⟨by rfl, ?_⟩) (by assumption) ?_
      case refine_2 => (intro wx hSx; (try dsimp only at hSx); go_simp; first | done | with_reducible rfl)
      try simp only [Act.put, List.setIfInBounds_toArray, List.set_cons_zero, List.set_cons_succ]
      refine wpAnyH_take (i := 5) (oi := ⟨some 56, _, _, _, _, some _⟩) (v := ?_) rfl (by kernel_rfl) (by kernel_rfl) (by kernel_rfl) (fun _ _ _ h => h) (Or.inl ⟨by rfl, ?_⟩) (by assumption) ?_
      case refine_2 => (intro wx hSx; (try dsimp only at hSx); go_simp; first | done | with_reducible rfl)
      try simp only [Act.put, List.setIfInBounds_toArray, List.set_cons_zero, List.set_cons_succ]
      refine wpAnyH_take (i := 6) (oi := ⟨some 57, _, _, _, _, some _⟩) (v := ?_) rfl (by kernel_rfl) (by kernel_rfl) (by kernel_rfl) (fun _ _ _ h => h) (Or.inl ⟨by rfl, ?_⟩) (by assumption) ?_
      case refine_2 => (intro wx hSx; (try dsimp only at hSx); go_simp; first | done | with_reducible rfl)
      try simp only [Act.put, List.setIfInBounds_toArray, List.set_cons_zero, List.set_cons_succ]
      refine wpAnyH_take (i := 7) (oi := ⟨some 58, _, _, _, _, none⟩) (v := ?_) rfl (by kernel_rfl) (by kernel_rfl) (by kernel_rfl) (fun _ _ _ h => h) (Or.inl ⟨by rfl, ?_⟩) (by assumption) ?_
      case refine_2 => (intro wx hSx; (try dsimp only at hSx); go_simp; first | done | with_reducible rfl)
      try simp only [Act.put, List.setIfInBounds_toArray, List.set_cons_zero, List.set_cons_succ]
      refine wpAnyH_take (i := 8) (oi := ⟨some 59, _, _, _, _, none⟩) (v := ?_) rfl (by kernel_rfl) (by kernel_rfl) (by kernel_rfl) (fun _ _ _ h => h) (Or.inl ⟨by rfl, ?_⟩) (by assumption) ?_
      case refine_2 => (intro wx hSx; (try dsimp only at hSx); go_simp; first | done | with_reducible rfl)
      try simp only [Act.put, List.setIfInBounds_toArray, List.set_cons_zero, List.set_cons_succ]
      refine wpAnyH_take (i := 9) (oi := ⟨some 60, _, _, _, _, some _⟩) (v := ?_) rfl (by kernel_rfl) (by kernel_rfl) (by kernel_rfl) (fun _ _ _ h => h) (Or.inl ⟨by rfl, ?_⟩) (by assumption) ?_
      case refine_2 => (intro wx hSx; (try dsimp only at hSx); go_simp; first | done | with_reducible rfl)
      try simp only [Act.put, List.setIfInBounds_toArray, List.set_cons_zero, List.set_cons_succ]
      refine wpAnyH_take (i := 11) (oi := ⟨some 62, _, _, _, _, some _⟩) (v := ?_) rfl (by kernel_rfl) (by kernel_rfl) (by kernel_rfl) (fun _ _ _ h => h) (Or.inl ⟨by rfl, ?_⟩) (by assumption) ?_
      case refine_2 => (intro wx hSx; (try dsimp only at hSx); go_simp; first | done | with_reducible rfl)
      try simp only [Act.put, List.setIfInBounds_toArray, List.set_cons_zero, List.set_cons_succ]
      refine wpAnyH_ready (rs := [10]) (by kernel_rfl) (by simp) ?_
      refine AllReadyH.cons (o := ⟨some 61, _, _, _, _, some _⟩) rfl (fun K hK => ?_) AllReadyH.nil
      go_simp
      refine (FC.out wz.drew _ YZD.out hb2).mono ?_
      clear hb2
      rintro e w3 ⟨rfl, hb2⟩
      go_wp2_with fail
      clear hHeld
      refine hK.out _ _ ⟨row5 (RZ.out.drew.under hb2), row5 (R0Z.out.drew.under hb2), row5 (RBZ.out.drew.under hb2)⟩ (fun hHeld => ?_)
      clear hK K
      try simp only [Act.put]
      refine wpAnyH_ready (rs := [12]) (by kernel_rfl) (by simp) ?_
      refine AllReadyH.cons (o := ⟨some 63, _, _, _, _, some _⟩) rfl (fun K hK => ?_) AllReadyH.nil
      go_simp
      refine (FD.out wz.drew _ YZD.out hb2).mono ?_
      clear hb2
      rintro e w3 ⟨rfl, hb2⟩
      go_wp2_with fail
      clear hHeld
      refine hK.out _ _ ⟨row5 (RZ.out.drew.under hb2), row5 (R0Z.out.drew.under hb2), row5 (RBZ.out.drew.under hb2)⟩ (fun hHeld => ?_)
      clear hK K
      try simp only [Act.put]
      refine wpAnyH_take (i := 13) (oi := ⟨some 64, _, _, _, _, some _⟩) (v := ?_) rfl (by kernel_rfl) (by kernel_rfl) (by kernel_rfl) (fun _ _ _ h => h) (Or.inl ⟨by rfl, ?_⟩) (by assumption) ?_
      case refine_2 => (intro wx hSx; (try dsimp only at hSx); go_simp; first | done | with_reducible rfl)
      try simp only [Act.put, List.setIfInBounds_toArray, List.set_cons_zero, List.set_cons_succ]
      refine wpAnyH_take (i := 14) (oi := ⟨some 65, _, _, _, _, none⟩) (v := ?_) rfl (by kernel_rfl) (by kernel_rfl) (by kernel_rfl) (fun _ _ _ h => h) (Or.inl ⟨by rfl, ?_⟩) (by assumption) ?_
      case refine_2 => (intro wx hSx; (try dsimp only at hSx); go_simp; first | done | with_reducible rfl)
      try simp only [Act.put, List.setIfInBounds_toArray, List.set_cons_zero, List.set_cons_succ]
      refine wpAnyH_take (i := 15) (oi := ⟨some 66, _, _, _, _, none⟩) (v := ?_) rfl (by kernel_rfl) (by kernel_rfl) (by kernel_rfl) (fun _ _ _ h => h) (Or.inl ⟨by rfl, ?_⟩) (by assumption) ?_
      case refine_2 => (intro wx hSx; (try dsimp only at hSx); go_simp; first | done | with_reducible rfl)
      try simp only [Act.put, List.setIfInBounds_toArray, List.set_cons_zero, List.set_cons_succ]
      refine wpAnyH_take (i := 16) (oi := ⟨some 67, _, _, _, _, some _⟩) (v := ?_) rfl (by kernel_rfl) (by kernel_rfl) (by kernel_rfl) (fun _ _ _ h => h) (Or.inl ⟨by rfl, ?_⟩) (by assumption) ?_
      case refine_2 => (intro wx hSx; (try dsimp only at hSx); go_simp; first | done | with_reducible rfl)
      try simp only [Act.put, List.setIfInBounds_toArray, List.set_cons_zero, List.set_cons_succ]
      refine wpAnyH_take (i := 17) (oi := ⟨some 68, _, _, _, _, some _⟩) (v := ?_) rfl (by kernel_rfl) (by kernel_rfl) (by kernel_rfl) (fun _ _ _ h => h) (Or.inl ⟨by rfl, ?_⟩) (by assumption) ?_
      case refine_2 => (intro wx hSx; (try dsimp only at hSx); go_simp; first | done | with_reducible rfl)
      try simp only [Act.put, List.setIfInBounds_toArray, List.set_cons_zero, List.set_cons_succ]
      refine wpAnyH_take (i := 19) (oi := ⟨some 70, _, _, _, _, some _⟩) (v := ?_) rfl (by kernel_rfl) (by kernel_rfl) (by kernel_rfl) (fun _ _ _ h => h) (Or.inl ⟨by rfl, ?_⟩) (by assumption) ?_
      case refine_2 => (intro wx hSx; (try dsimp only at hSx); go_simp; first | done | with_reducible rfl)
      try simp only [Act.put, List.setIfInBounds_toArray, List.set_cons_zero, List.set_cons_succ]
      refine wpAnyH_take (i := 20) (oi := ⟨some 71, _, _, _, _, some _⟩) (v := ?_) rfl (by kernel_rfl) (by kernel_rfl) (by kernel_rfl) (fun _ _ _ h => h) (Or.inl ⟨by rfl, ?_⟩) (by assumption) ?_
      case refine_2 => (intro wx hSx; (try dsimp only at hSx); go_simp; first | done | with_reducible rfl)
      try simp only [Act.put, List.setIfInBounds_toArray, List.set_cons_zero, List.set_cons_succ]
      refine wpAnyH_ready (rs := [18]) (by kernel_rfl) (by simp) ?_
      refine AllReadyH.cons (o := ⟨some 69, _, _, _, _, some _⟩) rfl (fun K hK => ?_) AllReadyH.nil
      go_simp
      refine (FE.out wz.drew _ YZD.out hb2).mono ?_
      clear hb2
      rintro e w3 ⟨rfl, hb2⟩
      go_wp2_with fail
      clear hHeld
      refine hK.out _ _ ⟨row5 (RZ.out.drew.under hb2), row5 (R0Z.out.drew.under hb2), row5 (RBZ.out.drew.under hb2)⟩ (fun hHeld => ?_)
      clear hK K
      try simp only [Act.put]
      refine wpAnyH_ready (rs := [21]) (by kernel_rfl) (by simp) ?_
      refine AllReadyH.cons (o := ⟨some 72, _, _, _, _, some _⟩) rfl (fun K hK => ?_) AllReadyH.nil
      go_simp
      refine (FF.out wz.drew _ YZD.out hb2).mono ?_
      clear hb2
      rintro e w3 ⟨rfl, hb2⟩
      go_wp2_with fail
      clear hHeld
      refine hK.out _ _ ⟨row5 (RZ.out.drew.under hb2), row5 (R0Z.out.drew.under hb2), row5 (RBZ.out.drew.under hb2)⟩ (fun hHeld => ?_)
      clear hK K
      try simp only [Act.put]
      refine wpAnyH_take (i := 22) (oi := ⟨some 73, _, _, _, _, some _⟩) (v := ?_) rfl (by kernel_rfl) (by kernel_rfl) (by kernel_rfl) (fun _ _ _ h => h) (Or.inl ⟨by rfl, ?_⟩) (by assumption) ?_
      case refine_2 => (intro wx hSx; (try dsimp only at hSx); go_simp; first | done | with_reducible rfl)
      try simp only [Act.put, List.setIfInBounds_toArray, List.set_cons_zero, List.set_cons_succ]
      refine wpAnyH_take (i := 23) (oi := ⟨some 74, _, _, _, _, none⟩) (v := ?_) rfl (by kernel_rfl) (by kernel_rfl) (by kernel_rfl) (fun _ _ _ h => h) (Or.inl ⟨by rfl, ?_⟩) (by assumption) ?_
      case refine_2 => (intro wx hSx; (try dsimp only at hSx); go_simp; first | done | with_reducible rfl)
      try simp only [Act.put, List.setIfInBounds_toArray, List.set_cons_zero, List.set_cons_succ]
      refine wpAnyH_take (i := 24) (oi := ⟨some 75, _, _, _, _, none⟩) (v := ?_) rfl (by kernel_rfl) (by kernel_rfl) (by kernel_rfl) (fun _ _ _ h => h) (Or.inl ⟨by rfl, ?_⟩) (by assumption) ?_
      case refine_2 => (intro wx hSx; (try dsimp only at hSx); go_simp; first | done | with_reducible rfl)
      try simp only [Act.put, List.setIfInBounds_toArray, List.set_cons_zero, List.set_cons_succ]
      refine wpAnyH_take (i := 25) (oi := ⟨some 76, _, _, _, _, some _⟩) (v := ?_) rfl (by kernel_rfl) (by kernel_rfl) (by kernel_rfl) (fun _ _ _ h => h) (Or.inl ⟨by rfl, ?_⟩) (by assumption) ?_
      case refine_2 => (intro wx hSx; (try dsimp only at hSx); go_simp; first | done | with_reducible rfl)
      try simp only [Act.put, List.setIfInBounds_toArray, List.set_cons_zero, List.set_cons_succ]
      refine wpAnyH_take (i := 26) (oi := ⟨some 77, _, _, _, _, some _⟩) (v := ?_) rfl (by kernel_rfl) (by kernel_rfl) (by kernel_rfl) (fun _ _ _ h => h) (Or.inl ⟨by rfl, ?_⟩) (by assumption) ?_
      case refine_2 => (intro wx hSx; (try dsimp only at hSx); go_simp; first | done | with_reducible rfl)
      try simp only [Act.put, List.setIfInBounds_toArray, List.set_cons_zero, List.set_cons_succ]
      refine wpAnyH_take (i := 28) (oi := ⟨some 79, _, _, _, _, some _⟩) (v := ?_) rfl (by kernel_rfl) (by kernel_rfl) (by kernel_rfl) (fun _ _ _ h => h) (Or.inl ⟨by rfl, ?_⟩) (by assumption) ?_
      case refine_2 => (intro wx hSx; (try dsimp only at hSx); go_simp; first | done | with_reducible rfl)
      try simp only [Act.put, List.setIfInBounds_toArray, List.set_cons_zero, List.set_cons_succ]
      refine wpAnyH_take (i := 29) (oi := ⟨some 80, _, _, _, _, some _⟩) (v := ?_) rfl (by kernel_rfl) (by kernel_rfl) (by kernel_rfl) (fun _ _ _ h => h) (Or.inl ⟨by rfl, ?_⟩) (by assumption) ?_
      case refine_2 => (intro wx hSx; (try dsimp only at hSx); go_simp; first | done | with_reducible rfl)
      try simp only [Act.put, List.setIfInBounds_toArray, List.set_cons_zero, List.set_cons_succ]
      refine wpAnyH_ready (rs := [27]) (by kernel_rfl) (by simp) ?_
      refine AllReadyH.cons (o := ⟨some 78, _, _, _, _, some _⟩) rfl (fun K hK => ?_) AllReadyH.nil
      go_simp
      refine (FG.out wz.drew _ YZD.out hb2).mono ?_
      clear hb2
      rintro e w3 ⟨rfl, hb2⟩
      go_wp2_with fail
      clear hHeld
      refine hK.out _ _ ⟨row5 (RZ.out.drew.under hb2), row5 (R0Z.out.drew.under hb2), row5 (RBZ.out.drew.under hb2)⟩ (fun hHeld => ?_)
      clear hK K
      try simp only [Act.put]
      refine wpAnyH_ready (rs := [30]) (by kernel_rfl) (by simp) ?_
      refine AllReadyH.cons (o := ⟨some 81, _, _, _, _, some _⟩) rfl (fun K hK => ?_) AllReadyH.nil
      go_simp
      refine (FH.out wz.drew _ YZD.out hb2).mono ?_
      clear hb2
      rintro e w3 ⟨rfl, hb2⟩
      go_wp2_with fail
      clear hHeld
      refine hK.out _ _ ⟨row5 (RZ.out.drew.under hb2), row5 (R0Z.out.drew.under hb2), row5 (RBZ.out.drew.under hb2)⟩ (fun hHeld => ?_)
      clear hK K
      try simp only [Act.put]
      refine wpAnyH_take (i := 31) (oi := ⟨some 82, _, _, _, _, some _⟩) (v := ?_) rfl (by kernel_rfl) (by kernel_rfl) (by kernel_rfl) (fun _ _ _ h => h) (Or.inl ⟨by rfl, ?_⟩) (by assumption) ?_
      case refine_2 => (intro wx hSx; (try dsimp only at hSx); go_simp; first | done | with_reducible rfl)
      try simp only [Act.put, List.setIfInBounds_toArray, List.set_cons_zero, List.set_cons_succ]
      refine wpAnyH_take (i := 32) (oi := ⟨some 83, _, _, _, _, none⟩) (v := ?_) rfl (by kernel_rfl) (by kernel_rfl) (by kernel_rfl) (fun _ _ _ h => h) (Or.inl ⟨by rfl, ?_⟩) (by assumption) ?_
      case refine_2 => (intro wx hSx; (try dsimp only at hSx); go_simp; first | done | with_reducible rfl)
      try simp only [Act.put, List.setIfInBounds_toArray, List.set_cons_zero, List.set_cons_succ]
      refine wpAnyH_done (by kernel_rfl) ?_ _
      have hq := (undrew hb2).mono BZ.out.size
      have BQ := Lib.hid (BZ.out.trans hq)
      have RQ := Lib.hid (HRZ.out.under (undrew hb2))
      clear hHeld hq hb2 YZ YZD BZ RZ R0Z RBZ HRZ FC FD FE FF FG FH
      go_wp2_with fail
      go_roundw
      case rel => exact ⟨i + 1, by omega, by go_num, BQ.out, RQ.out⟩
      case measure => simp [intOf]; omega
    · have k1 : ¬ (i : Int) < 3 := by omega
      have BW := Lib.hid (BV.out.trans (hB.mono BV.out.size))
      clear hB hR
      go_wp2_with fail
      refine (awake_from (w0 := w) _ (HE.out.under BW.out) BW.out).mono ?_
      rintro e w2 ⟨rfl, gQ⟩
      go_wp2_with fail
      go_ret
      exact ⟨rfl, gQ⟩
end Go.Proofs.YtfnlgfacadmjpaaGreatDoor.Bu
