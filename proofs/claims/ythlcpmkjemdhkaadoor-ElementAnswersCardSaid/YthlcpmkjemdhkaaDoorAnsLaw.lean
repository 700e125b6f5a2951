/- The walk of ElementAnswers: for every list of readings, every two lists of numbers, every number and every text the law returns true, and what lay in memory is as it was. -/
import Derived.Test.YthlcpmkjemdhkaaDoorAnsB
namespace Go.Proofs.YthlcpmkjemdhkaaDoor
open Go.RowKit
attribute [local go_sem] eq_info
/-- What is known in the inner loop: besides, the three lists and the one at hand. -/
structure Sb (W w0 : World) (b : Nat) (M : List Elt.R) (u : Value) (base : Nat) (va : Value) (A : List Int) (gl : Nat) (cs : Array Value) (ub : Value) (N : List Elt.R) (x : Value) (L : List Elt.R) (w : World) : Prop where
  sa : Sa W w0 b M u base va A w
  row : Row w gl 22 cs
  ubs : RdIn w ub N
  xs : RdIn w x L
theorem Sb.under {W w0 w w' : World} {b base gl : Nat} {M N L : List Elt.R} {u va ub x : Value} {A : List Int} {cs : Array Value} (h : Sb W w0 b M u base va A gl cs ub N x L w) (hb : Below w.heap.size w w') : Sb W w0 b M u base va A gl cs ub N x L w' :=
  ⟨h.sa.under hb, h.row.under hb, h.ubs.under hb, h.xs.under hb⟩
set_option maxRecDepth 100000 in
set_option maxHeartbeats 16000000 in
theorem elementAnswers_any (rv v cv : Value) (R : List Elt.R) (code : Int) (t : ByteArray) (w : World) (hE : Env w) (hR : RdIn w rv R) (hl : ListIn w v) (hc : ListIn w cv) (ht : t.size ≤ 9223372036854775807) :
    Calls Tryd.prog 3 #[rv, v, cv, .int .i64 code, .string t] w fun e w' => e = .returned (.bool true) ∧ Below w.heap.size w w' := by
  have HE := Lib.hid hE; clear hE
  obtain ⟨C, hC⟩ := NmIn.of hc
  obtain ⟨A1, cap1, rfl, a1, a2, -⟩ := id hR
  obtain ⟨A2, cap2, rfl, b1, b2, -⟩ := id hC
  have HR := Lib.hid hR
  have HC := Lib.hid hC
  clear hR hC hc
  by_cases h1 : 60 < R.length
  · have h1' : (60 : Int) < (R.length : Int) := by omega
    clear h1
    go_enter Tryd.func3, Tryd.ntmps3
    go_wp2_with fail
    refine (awake_from (w0 := w) _ HE.out (Below.refl _ _)).mono ?_
    rintro e w1 ⟨rfl, g1⟩
    go_wp2_with fail
    go_ret
    exact ⟨rfl, g1⟩
  have h1' : ¬ (60 : Int) < (R.length : Int) := by omega
  have HRL := Lib.hid h1
  clear h1
  by_cases h2 : 60 < C.length
  · have h2' : (60 : Int) < (C.length : Int) := by omega
    clear h2
    go_enter Tryd.func3, Tryd.ntmps3
    go_wp2_with fail
    refine (awake_from (w0 := w) _ HE.out (Below.refl _ _)).mono ?_
    rintro e w1 ⟨rfl, g1⟩
    go_wp2_with fail
    go_ret
    exact ⟨rfl, g1⟩
  have h2' : ¬ (60 : Int) < (C.length : Int) := by omega
  clear h2
  by_cases h3 : 60 < t.size
  · have h3' : (60 : Int) < (t.size : Int) := by omega
    clear h3
    go_enter Tryd.func3, Tryd.ntmps3
    go_wp2_with fail
    refine (awake_from (w0 := w) _ HE.out (Below.refl _ _)).mono ?_
    rintro e w1 ⟨rfl, g1⟩
    go_wp2_with fail
    go_ret
    exact ⟨rfl, g1⟩
  have h3' : ¬ (60 : Int) < (t.size : Int) := by omega
  clear h3
  go_enter Tryd.func3, Tryd.ntmps3
  go_wp2_with fail
  refine (new_any _ _ hl).mono ?_
  rintro e w1 ⟨rfl, s1, -⟩
  go_wp2_with fail
  refine (list_any _ _ _ s1).mono ?_
  rintro e w2 ⟨u, M, rfl, hG, hS⟩
  have HML : Hid (M.length ≤ 11) := Lib.hid (by have := hG.len; omega)
  obtain ⟨A3, cap3, rfl, -, -, -⟩ := id (RdIn.own hS.own)
  clear hG s1 hl
  go_wp2_with fail
  refine (range_any _ _ _ _ _ hS.src (by omega) (by omega) (by omega) (by omega)).mono ?_
  rintro e w3 ⟨c1, -, rfl, s3, g3⟩
  have S3 := hS.step s3 g3
  have SA : Hid (Sa w w1 w.heap.size M (.slice A3 M.length cap3) w3.heap.size (.slice (some ⟨w3.heap.size, 0, none⟩) 2 2) [code, c1] (w3.alloc (.cells #[.int .i64 code, .int .i64 c1] 3))) :=
    Lib.hid ⟨S3.under ((Below.refl _ _).alloc (Nat.le_refl _) _), World.ownsRow_lit w3 #[.int .i64 code, .int .i64 c1] 2 (Nat.le_refl _) (by decide) rfl⟩
  clear S3 hS s3 g3
  go_wp2_with fail
  generalize w3.heap.size = ga at *
  go_loopw [54] (fun t wr => ∃ j : Nat, j ≤ 2 ∧ t = .int .i64 j ∧ Sa w w1 w.heap.size M (.slice A3 M.length cap3) ga (.slice (some ⟨ga, 0, none⟩) 2 2) [code, c1] wr) (fun t _ => 2 - (intOf t).toNat)
  case atStart => exact ⟨0, by omega, rfl, SA.out⟩
  case round =>
    clear SA
    obtain ⟨j, hj, rfl, hS⟩ := hrel
    by_cases hlt : j < 2
    · have j0 : (0 : Int) ≤ (j : Int) := by omega
      have j1 : (j : Int) < 2 := by omega
      obtain ⟨c, hc0⟩ : ∃ c : Int, wr.cell? ⟨ga, j, none⟩ = some (.int .i64 c) := ⟨_, (hS.arr.cellAt j (by show j < 2 * 1; omega)).trans (nmc_at (C := [code, c1]) (i := j) hlt)⟩
      obtain ⟨si, ia, ib, id', ie, D1, D2⟩ := both_describe c
      have HD1 := Lib.hid (D1 wr (HE.out.under hS.gl.src.below).tab)
      have HD2 := Lib.hid D2
      have HS := Lib.hid hS
      have q1 : (ie == ie) = true := beq_self_eq_true _
      clear D1 D2 hS
      go_wp2_with fail
      refine HD1.out.mono ?_
      rintro e w4 ⟨rfl, g4⟩
      have S4 := HS.out.under g4
      clear hc0 HS HD1 g4
      go_upto_region 9 with fail
      refine forget (fun Y => Sa w w1 w.heap.size M (.slice A3 M.length cap3) ga (.slice (some ⟨ga, 0, none⟩) 2 2) [code, c1] Y ∧ Row Y w4.heap.size 30 #[.string si, .int .i64 ia, .int .i64 ib, .int .i64 id']) ⟨S4.under ((Below.refl _ _).alloc (Nat.le_refl _) _), Row.new _ _ _⟩ ?_
      clear S4
      generalize w4.heap.size = gi at *
      rintro Y ⟨hS, rI⟩
      have HS := Lib.hid hS
      have HI := Lib.hid rI
      clear hS rI
      go_wp2_with fail
      refine (HD2.out _).mono ?_
      rintro e w5 ⟨rfl, g5⟩
      have S5 := HS.out.under g5
      have r5 := HI.out.under g5
      clear HS HI HD2 g5
      go_upto_region 10 with fail
      refine forget (fun Y => Sa w w1 w.heap.size M (.slice A3 M.length cap3) ga (.slice (some ⟨ga, 0, none⟩) 2 2) [code, c1] Y ∧ Row Y gi 30 #[.string si, .int .i64 ia, .int .i64 ib, .int .i64 id'] ∧ Row Y w5.heap.size 30 #[.string si, .int .i64 ia, .int .i64 ib, .int .i64 id']) ⟨S5.under ((Below.refl _ _).alloc (Nat.le_refl _) _), r5.alloc _, Row.new _ _ _⟩ ?_
      clear S5 r5
      generalize w5.heap.size = gk at *
      rintro Z ⟨hS, rI, rK⟩
      obtain ⟨i0, i1, i2, i3⟩ := row4 rI
      obtain ⟨k0, k1, k2, k3⟩ := row4 rK
      have HS := Lib.hid hS
      clear hS rI rK
      go_wp2_with fail
      clear i0 i1 i2 i3 k0 k1 k2 k3
      refine (bent_any w w.heap.size _ (.slice A3 M.length cap3) M _ HS.out.gl.src HS.out.gl.own HML.out).mono ?_
      rintro e w6 ⟨ub, N, rfl, hN, hB⟩
      have S6 := HS.out.step hB.src hB.gro
      have hub := RdIn.own hB.own
      obtain ⟨A4, cap4, rfl, -, -, -⟩ := id hub
      have b6 : Below w6.heap.size w6 (w6.alloc (.cells #[.slice A1 R.length cap1, .slice A3 M.length cap3, .slice A4 N.length cap4] 22)) := (Below.refl _ _).alloc (Nat.le_refl _) _
      have S7 := Lib.hid (S6.under b6)
      have U7 := Lib.hid (hub.under b6)
      have R7 := Lib.hid (Row.new w6 #[.slice A1 R.length cap1, .slice A3 M.length cap3, .slice A4 N.length cap4] 22)
      have HN := Lib.hid hN
      clear S6 hub b6 hB HS hN
      go_wp2_with fail
      generalize w6.alloc (.cells #[.slice A1 R.length cap1, .slice A3 M.length cap3, .slice A4 N.length cap4] 22) = W7 at *
      generalize w6.heap.size = gl at *
      go_loopw [83] (fun t wr => ∃ m : Nat, m ≤ 3 ∧ t = .int .i64 m ∧ Sa w w1 w.heap.size M (.slice A3 M.length cap3) ga (.slice (some ⟨ga, 0, none⟩) 2 2) [code, c1] wr ∧ Row wr gl 22 #[.slice A1 R.length cap1, .slice A3 M.length cap3, .slice A4 N.length cap4] ∧ RdIn wr (.slice A4 N.length cap4) N) (fun t _ => 3 - (intOf t).toNat)
      case atStart => exact ⟨0, by omega, rfl, S7.out, R7.out, U7.out⟩
      case round =>
        clear S7 R7 U7
        obtain ⟨m, hm, rfl, hS, hRw, hU⟩ := hrel
        by_cases hlm : m < 3
        · obtain ⟨x, L, hx, hX, hL⟩ : ∃ (x : Value) (L : List Elt.R), wr.cell? ⟨gl, m, none⟩ = some x ∧ RdIn wr x L ∧ L.length ≤ 1000 := by
            rcases (by omega : m = 0 ∨ m = 1 ∨ m = 2) with rfl | rfl | rfl
            · exact ⟨_, R, (hRw.cell 0).trans rfl, HR.out.under hS.gl.src.below, by have := HRL.out; omega⟩
            · exact ⟨_, M, (hRw.cell 1).trans rfl, RdIn.own hS.gl.own, by have := HML.out; omega⟩
            · exact ⟨_, N, (hRw.cell 2).trans rfl, hU, by have := HN.out; omega⟩
          have m0 : (0 : Int) ≤ (m : Int) := by omega
          have m1 : (m : Int) < 3 := by omega
          have T := Lib.hid (Sb.mk hS hRw hU hX)
          have HLL := Lib.hid hL
          clear hS hRw hU hX hL
          go_wp2_with fail
          refine (find_any x L c _ T.out.xs).mono ?_
          rintro e w8 ⟨rfl, g8⟩
          have T8 := Lib.hid (T.out.under g8)
          clear g8 T hx
          go_wp2_with fail
          refine (refFind_any x L c _ T8.out.xs).mono ?_
          rintro e w9 ⟨rfl, g9⟩
          have T9 := Lib.hid (T8.out.under g9)
          clear g9 T8
          generalize (Elt.fnd L c).getD 0 = fv at *
          generalize (Elt.fnd L c).isSome = fb at *
          have e1 : (fv == fv) = true := beq_self_eq_true _
          have e2 : (fb == fb) = true := beq_self_eq_true _
          go_wp2_with fail
          refine (validate_any x L _ T9.out.xs (HE.out.under T9.out.sa.gl.src.below).tab).mono ?_
          rintro e w10 ⟨rfl, g10⟩
          have T10 := Lib.hid (T9.out.under g10)
          clear g10 T9
          go_wp2_with fail
          refine (refValidate_any x L _ T10.out.xs).mono ?_
          rintro e w11 ⟨rfl, g11⟩
          have T11 := Lib.hid (T10.out.under g11)
          clear g11 T10
          generalize Elt.vld L = vz at *
          have e3 : (vz == vz) = true := beq_self_eq_true _
          go_wp2_with fail
          refine (without_any x _ L C _ T11.out.xs (HC.out.under T11.out.sa.gl.src.below) HLL.out).mono ?_
          rintro e w12 ⟨y1, rfl, g12, hy1⟩
          have T12 := Lib.hid (T11.out.under g12)
          have Y1 := Lib.hid hy1
          clear g12 T11 hy1
          go_wp2_with fail
          refine (refWithout_any x _ L C _ T12.out.xs (HC.out.under T12.out.sa.gl.src.below) HLL.out).mono ?_
          rintro e w13 ⟨y2, rfl, g13, hy2⟩
          have T13 := Lib.hid (T12.out.under g13)
          have SM := same_any y1 y2 _ _ w13 (Y1.out.under g13) hy2
          rw [decide_eq_true rfl] at SM
          have HSM := Lib.hid SM
          clear g13 T12 hy2 Y1 SM
          go_wp2_with fail
          refine HSM.out.mono ?_
          rintro e w14 ⟨rfl, g14⟩
          have b14 : Below w14.heap.size w14 (w14.alloc (.cells #[.int .i64 c] 3)) := (Below.refl _ _).alloc (Nat.le_refl _) _
          have T15 := Lib.hid ((T13.out.under g14).under b14)
          have NM := Lib.hid (NmIn.single (Row.new w14 #[.int .i64 c] 3))
          clear g14 b14 T13 HSM
          go_wp2_with fail
          refine (without_any x _ L [c] _ T15.out.xs NM.out HLL.out).mono ?_
          rintro e w16 ⟨y3, rfl, g16, hy3⟩
          have T16 := Lib.hid (T15.out.under g16)
          have b16 : Below w16.heap.size w16 (w16.alloc (.cells #[.int .i64 c] 3)) := (Below.refl _ _).alloc (Nat.le_refl _) _
          have T17 := Lib.hid (T16.out.under b16)
          have NM2 := Lib.hid (NmIn.single (Row.new w16 #[.int .i64 c] 3))
          have Y3 := Lib.hid (hy3.under b16)
          clear g16 b16 T15 T16 NM hy3
          go_wp2_with fail
          refine (refWithout_any x _ L [c] _ T17.out.xs NM2.out HLL.out).mono ?_
          rintro e w18 ⟨y4, rfl, g18, hy4⟩
          have T18 := Lib.hid (T17.out.under g18)
          have SM := same_any y3 y4 _ _ w18 (Y3.out.under g18) hy4
          rw [decide_eq_true rfl] at SM
          have HSM := Lib.hid SM
          clear g18 T17 hy4 Y3 SM NM2
          go_wp2_with fail
          refine HSM.out.mono ?_
          rintro e w19 ⟨rfl, g19⟩
          have T19 := Lib.hid (T18.out.under g19)
          clear g19 T18 HSM
          go_wp2_with fail
          go_roundw
          case rel => exact ⟨m + 1, by omega, by go_num, T19.out.sa, T19.out.row, T19.out.ubs⟩
          case measure => simp [intOf]; omega
        · obtain rfl : m = 3 := by omega
          have HS := Lib.hid hS
          clear hS hRw hU
          go_wp2_with fail
          go_roundw
          case rel => exact ⟨j + 1, by omega, by go_num, HS.out⟩
          case measure => simp [intOf]; omega
    · obtain rfl : j = 2 := by omega
      have hbl : w.heap.size < wr.heap.size := by
        obtain ⟨cs, hr⟩ := src_row hS.gl.src
        exact (Array.getElem?_eq_some_iff.1 hr).1
      have S3 := hS.gl.src.under ((Below.refl _ _).alloc (Nat.le_refl _) (.cells #[.string ⟨#[80]⟩, .string ⟨#[75]⟩, .string ⟨#[90]⟩, .string ⟨#[]⟩, .string ⟨#[80, 84]⟩, .string ⟨#[112]⟩] 9))
      have R3 := Row.new wr #[.string ⟨#[80]⟩, .string ⟨#[75]⟩, .string ⟨#[90]⟩, .string ⟨#[]⟩, .string ⟨#[80, 84]⟩, .string ⟨#[112]⟩] 9
      have TX := Lib.hid (text_any w w.heap.size _ wr.heap.size 6 6 S3 (by omega) (by omega) (by omega) R3.lt (fun i hi => by
        rcases (by omega : i = 0 ∨ i = 1 ∨ i = 2 ∨ i = 3 ∨ i = 4 ∨ i = 5) with rfl | rfl | rfl | rfl | rfl | rfl
        · exact ⟨_, (R3.cell 0).trans rfl⟩
        · exact ⟨_, (R3.cell 1).trans rfl⟩
        · exact ⟨_, (R3.cell 2).trans rfl⟩
        · exact ⟨_, (R3.cell 3).trans rfl⟩
        · exact ⟨_, (R3.cell 4).trans rfl⟩
        · exact ⟨_, (R3.cell 5).trans rfl⟩))
      clear S3 R3 hbl hS
      go_wp2_with fail
      refine TX.out.mono ?_
      rintro e w8 ⟨tx, rfl, s8, -⟩
      have B8 := Lib.hid (s8.below.alloc s8.below.size (.cells #[.string t, .string tx] 9))
      have R8 := Lib.hid (Row.new w8 #[.string t, .string tx] 9)
      clear s8 TX
      go_wp2_with fail
      generalize w8.heap.size = gs at *
      go_loopw [144] (fun i wr => ∃ k : Nat, k ≤ 2 ∧ i = .int .i64 k ∧ Below w.heap.size w wr ∧ Row wr gs 9 #[.string t, .string tx]) (fun i _ => 2 - (intOf i).toNat)
      case atStart => exact ⟨0, by omega, rfl, B8.out, R8.out⟩
      case round =>
        clear B8 R8
        obtain ⟨k, hk, rfl, hB, hRs⟩ := hrel
        by_cases hlk : k < 2
        · obtain ⟨s, hs⟩ : ∃ s : ByteArray, wr.cell? ⟨gs, k, none⟩ = some (.string s) := by
            rcases (by omega : k = 0 ∨ k = 1) with rfl | rfl
            · exact ⟨_, (hRs.cell 0).trans rfl⟩
            · exact ⟨_, (hRs.cell 1).trans rfl⟩
          have k0 : (0 : Int) ≤ (k : Int) := by omega
          have k1 : (k : Int) < 2 := by omega
          obtain ⟨la, le, L1, L2⟩ := both_byLetter s
          have HL1 := Lib.hid L1
          have HL2 := Lib.hid L2
          have HB := Lib.hid hB
          have HRs := Lib.hid hRs
          have e1 : (la == la) = true := beq_self_eq_true _
          have e2 : (le == le) = true := beq_self_eq_true _
          clear L1 L2 hB hRs
          go_wp2_with fail
          refine (HL1.out _).mono ?_
          rintro e w9 ⟨rfl, rfl⟩
          go_wp2_with fail
          refine (HL2.out _).mono ?_
          rintro e w10 ⟨rfl, g10⟩
          have B10 := Lib.hid (HB.out.trans (g10.mono HB.out.size))
          have R10 := Lib.hid (HRs.out.under g10)
          clear g10 HB HRs HL1 HL2 hs
          go_wp2_with fail
          go_roundw
          case rel => exact ⟨k + 1, by omega, by go_num, B10.out, R10.out⟩
          case measure => simp [intOf]; omega
        · obtain rfl : k = 2 := by omega
          have HB := Lib.hid hB
          clear hB hRs
          go_wp2_with fail
          refine (awake_from (w0 := w) _ (HE.out.under HB.out) HB.out).mono ?_
          rintro e w9 ⟨rfl, g9⟩
          have B9 := Lib.hid g9
          clear g9
          go_wp2_with fail
          go_ret
          exact ⟨rfl, B9.out⟩
end Go.Proofs.YthlcpmkjemdhkaaDoor
