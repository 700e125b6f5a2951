/- The walk of PlaceTexts: for every text, list, place and byte the law returns true, and what lay in memory is as it was. -/
import Derived.Test.YteccblhmpggcgaaDoorTextsLaw
import Derived.Test.YteccblhmpggcgaaDoorBothParse
namespace Go.Proofs.YteccblhmpggcgaaDoor
open Go.RowKit

attribute [local go_sem] S_add S_size txt_length eq_place
set_option maxRecDepth 100000 in
set_option maxHeartbeats 4000000 in
theorem placeTexts_any (s : ByteArray) (v : Value) (at_ b : Int) (w : World) (hE : Env w) (hl : ListIn w v) (hat : I64 at_) :
    Calls Tryd.prog 4 #[.string s, v, .int .i64 at_, .int .u8 b] w fun e w' => e = .returned (.bool true) ∧ Below w.heap.size w w' := by
  by_cases hlen : 60 < s.size
  · go_enter Tryd.func4, Tryd.ntmps4
    go_wp2_with fail
    refine (awake_any _ hE).mono ?_
    rintro e w1 ⟨rfl, g1⟩
    go_wp2_with fail
    go_ret
    exact ⟨rfl, g1⟩
  · go_enter Tryd.func4, Tryd.ntmps4
    go_wp2_with fail
    refine (new_any _ _ hl).mono ?_
    rintro e w1 ⟨rfl, s1, -⟩
    go_wp2_with fail
    refine (somewhere_any _ _ _ s1).mono ?_
    rintro e w2 ⟨f, x, y, z, hp, rfl, s2, -⟩
    have HP := Lib.hid hp; clear hp
    have b2 := s2.below
    have P2 := Row.new w2 #[.int .i64 f, .int .i64 x, .int .i64 y, .int .i64 z] 23
    go_upto_region 5 with fail
    refine forget (fun Y => Below w.heap.size w Y ∧ Row Y w2.heap.size 23 #[.int .i64 f, .int .i64 x, .int .i64 y, .int .i64 z]) ⟨b2.alloc b2.size _, P2⟩ ?_
    clear s1 s2 b2 P2 hl
    generalize w2.heap.size = g10 at *
    rintro Y ⟨bY, P⟩
    obtain ⟨q0, q1, q2, q3⟩ := row4 P
    go_wp2_with fail
    refine (format_yes _ _ _ _ _ (hE.under bY) HP.out).mono ?_
    rintro e w3 ⟨rfl, g3⟩
    have b3 := bY.trans (g3.mono bY.size)
    have P3 := P.under g3
    clear bY P g3 q0 q1 q2 q3
    go_wp2_with fail
    refine (parse_txt _ _ _ _ _ HP.out).mono ?_
    rintro e w4 ⟨rfl, g4⟩
    have b4 := b3.trans (g4.mono b3.size)
    have P4 := (P3.under g4).alloc (.cells #[.int .i64 f, .int .i64 x, .int .i64 y, .int .i64 z] 23)
    have Q4 := Row.new w4 #[.int .i64 f, .int .i64 x, .int .i64 y, .int .i64 z] 23
    go_upto_region 7 with fail
    refine forget (fun Y => Below w.heap.size w Y ∧ Row Y g10 23 #[.int .i64 f, .int .i64 x, .int .i64 y, .int .i64 z] ∧ Row Y w4.heap.size 23 #[.int .i64 f, .int .i64 x, .int .i64 y, .int .i64 z]) ⟨b4.alloc b4.size _, P4, Q4⟩ ?_
    clear b3 P3 b4 P4 Q4 g4
    generalize w4.heap.size = g13 at *
    rintro Y ⟨bY, P, Q⟩
    obtain ⟨q0, q1, q2, q3⟩ := row4 P
    obtain ⟨r0, r1, r2, r3⟩ := row4 Q
    go_upto_region 9 with fail
    clear q0 q1 q2 q3 r0 r1 r2 r3 P Q
    have kc := run_bytes_of_string (P := Tryd.prog) Y 9 51 5 (S (txt f x y)) Tryd.underlying9 Tryd.underlying51 Tryd.underlying5
    go_upto_region 10 with fail
    have hg := bY.size
    refine forget (fun V => Below w.heap.size w V ∧ Bys V Y.heap.size) ⟨bY.drew.alloc bY.size _, Bys.new Y.drew _ rfl _⟩ ?_
    clear bY kc
    generalize grownCap Y _ 0 5 = cap at *
    generalize Y.heap.size = g at *
    rintro V ⟨bV, BV⟩
    go_wp2_with fail
    refine (mod_any _ _ _ hat (by omega) (by omega)).mono ?_
    rintro e w6 ⟨rfl, rfl⟩
    have o1 : 0 ≤ at_ % 8 := Int.emod_nonneg _ (by omega)
    have o2 : at_ % 8 < 8 := Int.emod_lt_of_pos _ (by omega)
    clear hat
    generalize at_ % 8 = k at *
    obtain ⟨j, rfl⟩ := Int.eq_ofNat_of_zero_le o1
    have o3 : j < 8 := by omega
    obtain ⟨zz, hz, hfz⟩ := BV.at j o3
    go_upto_region 11 with fail
    refine forget (fun Z => Below w.heap.size w Z ∧ Bys Z g) ⟨bV.setCell hg _, BV.set j _⟩ ?_
    clear bV BV hz hfz o1 o2 o3
    rintro Z ⟨bZ, BZ⟩
    obtain ⟨x2, hx, kx⟩ := BZ.drew.text cap
    have hx' : x2.size ≤ 8 := by omega
    clear hx BZ
    go_region
    go_wp2_with fail
    refine forget (fun Y => Below w.heap.size w Y ∧ ∃ f0 f1 f2 f3, Four Y Z.heap.size f0 f1 f2 f3) ⟨(bZ.alloc bZ.size _).drew, _, _, _, _, (Row.new Z _ _).drew⟩ ?_
    clear bZ kx hx'
    generalize Z.heap.size = q at *
    rintro V ⟨bV, f0, f1, f2, f3, FV⟩
    go_loopw [72] (fun s wr => ∃ j : Int, s = .int .i64 j ∧ 0 ≤ j ∧ j ≤ 4 ∧ Below w.heap.size w wr ∧ Four wr q f0 f1 f2 f3) (fun s _ => (10 - intOf s).toNat)
    case atStart => exact ⟨0, rfl, by omega, by omega, bV, FV⟩
    case round =>
      clear bV FV
      obtain ⟨j', rfl, j1, j2, br, Fr⟩ := hrel
      obtain ⟨x0, x1, x2', x3⟩ := row4 Fr
      have hj : j' = 0 ∨ j' = 1 ∨ j' = 2 ∨ j' = 3 ∨ j' = 4 := by omega
      clear j1 j2
      rcases hj with rfl | rfl | rfl | rfl | rfl
      · obtain ⟨F, A, B, C, r, kp, kq⟩ := both_parse f0
        have KP := Lib.hid kp; clear kp
        have KQ := Lib.hid kq; clear kq
        go_wp2_with fail
        refine (KP.out _).mono ?_
        rintro e w7 ⟨rfl, g7⟩
        have b7 := (br.trans (g7.mono br.size)).alloc (br.trans (g7.mono br.size)).size (.cells #[.int .i64 F, .int .i64 A, .int .i64 B, .int .i64 C] 23)
        have F7 : Row (w7.alloc (.cells #[.int .i64 F, .int .i64 A, .int .i64 B, .int .i64 C] 23)) q 9 #[.string f0, .string f1, .string f2, .string f3] := (Row.under Fr g7).alloc _
        have G7 := Row.new w7 #[.int .i64 F, .int .i64 A, .int .i64 B, .int .i64 C] 23
        go_upto_region 15 with fail
        refine forget (fun T => Below w.heap.size w T ∧ Four T q f0 f1 f2 f3 ∧ Row T w7.heap.size 23 #[.int .i64 F, .int .i64 A, .int .i64 B, .int .i64 C]) ⟨b7, F7, G7⟩ ?_
        clear b7 F7 G7 g7 br Fr x0 x1 x2' x3
        generalize w7.heap.size = ga at *
        rintro T ⟨bT, FT, GT⟩
        go_wp2_with fail
        refine (KQ.out _).mono ?_
        rintro e w8 ⟨rfl, g8⟩
        have b8 := (bT.trans (g8.mono bT.size)).alloc (bT.trans (g8.mono bT.size)).size (.cells #[.int .i64 F, .int .i64 A, .int .i64 B, .int .i64 C] 23)
        have F8 : Row (w8.alloc (.cells #[.int .i64 F, .int .i64 A, .int .i64 B, .int .i64 C] 23)) q 9 #[.string f0, .string f1, .string f2, .string f3] := (Row.under FT g8).alloc _
        have G8 := (GT.under g8).alloc (.cells #[.int .i64 F, .int .i64 A, .int .i64 B, .int .i64 C] 23)
        have H8 := Row.new w8 #[.int .i64 F, .int .i64 A, .int .i64 B, .int .i64 C] 23
        go_upto_region 16 with fail
        refine forget (fun U => Below w.heap.size w U ∧ Four U q f0 f1 f2 f3 ∧ Row U ga 23 #[.int .i64 F, .int .i64 A, .int .i64 B, .int .i64 C] ∧ Row U w8.heap.size 23 #[.int .i64 F, .int .i64 A, .int .i64 B, .int .i64 C]) ⟨b8, F8, G8, H8⟩ ?_
        clear b8 F8 G8 H8 g8 bT FT GT
        generalize w8.heap.size = gb at *
        rintro U ⟨bU, FU, GU, HU⟩
        obtain ⟨c0, c1, c2, c3⟩ := row4 GU
        obtain ⟨d0, d1, d2, d3⟩ := row4 HU
        go_wp2_with fail
        go_roundw
        case rel => exact ⟨1, rfl, by omega, by omega, bU, FU⟩
        case measure => simp [intOf]
      · obtain ⟨F, A, B, C, r, kp, kq⟩ := both_parse f1
        have KP := Lib.hid kp; clear kp
        have KQ := Lib.hid kq; clear kq
        go_wp2_with fail
        refine (KP.out _).mono ?_
        rintro e w7 ⟨rfl, g7⟩
        have b7 := (br.trans (g7.mono br.size)).alloc (br.trans (g7.mono br.size)).size (.cells #[.int .i64 F, .int .i64 A, .int .i64 B, .int .i64 C] 23)
        have F7 : Row (w7.alloc (.cells #[.int .i64 F, .int .i64 A, .int .i64 B, .int .i64 C] 23)) q 9 #[.string f0, .string f1, .string f2, .string f3] := (Row.under Fr g7).alloc _
        have G7 := Row.new w7 #[.int .i64 F, .int .i64 A, .int .i64 B, .int .i64 C] 23
        go_upto_region 15 with fail
        refine forget (fun T => Below w.heap.size w T ∧ Four T q f0 f1 f2 f3 ∧ Row T w7.heap.size 23 #[.int .i64 F, .int .i64 A, .int .i64 B, .int .i64 C]) ⟨b7, F7, G7⟩ ?_
        clear b7 F7 G7 g7 br Fr x0 x1 x2' x3
        generalize w7.heap.size = ga at *
        rintro T ⟨bT, FT, GT⟩
        go_wp2_with fail
        refine (KQ.out _).mono ?_
        rintro e w8 ⟨rfl, g8⟩
        have b8 := (bT.trans (g8.mono bT.size)).alloc (bT.trans (g8.mono bT.size)).size (.cells #[.int .i64 F, .int .i64 A, .int .i64 B, .int .i64 C] 23)
        have F8 : Row (w8.alloc (.cells #[.int .i64 F, .int .i64 A, .int .i64 B, .int .i64 C] 23)) q 9 #[.string f0, .string f1, .string f2, .string f3] := (Row.under FT g8).alloc _
        have G8 := (GT.under g8).alloc (.cells #[.int .i64 F, .int .i64 A, .int .i64 B, .int .i64 C] 23)
        have H8 := Row.new w8 #[.int .i64 F, .int .i64 A, .int .i64 B, .int .i64 C] 23
        go_upto_region 16 with fail
        refine forget (fun U => Below w.heap.size w U ∧ Four U q f0 f1 f2 f3 ∧ Row U ga 23 #[.int .i64 F, .int .i64 A, .int .i64 B, .int .i64 C] ∧ Row U w8.heap.size 23 #[.int .i64 F, .int .i64 A, .int .i64 B, .int .i64 C]) ⟨b8, F8, G8, H8⟩ ?_
        clear b8 F8 G8 H8 g8 bT FT GT
        generalize w8.heap.size = gb at *
        rintro U ⟨bU, FU, GU, HU⟩
        obtain ⟨c0, c1, c2, c3⟩ := row4 GU
        obtain ⟨d0, d1, d2, d3⟩ := row4 HU
        go_wp2_with fail
        go_roundw
        case rel => exact ⟨2, rfl, by omega, by omega, bU, FU⟩
        case measure => simp [intOf]
      · obtain ⟨F, A, B, C, r, kp, kq⟩ := both_parse f2
        have KP := Lib.hid kp; clear kp
        have KQ := Lib.hid kq; clear kq
        go_wp2_with fail
        refine (KP.out _).mono ?_
        rintro e w7 ⟨rfl, g7⟩
        have b7 := (br.trans (g7.mono br.size)).alloc (br.trans (g7.mono br.size)).size (.cells #[.int .i64 F, .int .i64 A, .int .i64 B, .int .i64 C] 23)
        have F7 : Row (w7.alloc (.cells #[.int .i64 F, .int .i64 A, .int .i64 B, .int .i64 C] 23)) q 9 #[.string f0, .string f1, .string f2, .string f3] := (Row.under Fr g7).alloc _
        have G7 := Row.new w7 #[.int .i64 F, .int .i64 A, .int .i64 B, .int .i64 C] 23
        go_upto_region 15 with fail
        refine forget (fun T => Below w.heap.size w T ∧ Four T q f0 f1 f2 f3 ∧ Row T w7.heap.size 23 #[.int .i64 F, .int .i64 A, .int .i64 B, .int .i64 C]) ⟨b7, F7, G7⟩ ?_
        clear b7 F7 G7 g7 br Fr x0 x1 x2' x3
        generalize w7.heap.size = ga at *
        rintro T ⟨bT, FT, GT⟩
        go_wp2_with fail
        refine (KQ.out _).mono ?_
        rintro e w8 ⟨rfl, g8⟩
        have b8 := (bT.trans (g8.mono bT.size)).alloc (bT.trans (g8.mono bT.size)).size (.cells #[.int .i64 F, .int .i64 A, .int .i64 B, .int .i64 C] 23)
        have F8 : Row (w8.alloc (.cells #[.int .i64 F, .int .i64 A, .int .i64 B, .int .i64 C] 23)) q 9 #[.string f0, .string f1, .string f2, .string f3] := (Row.under FT g8).alloc _
        have G8 := (GT.under g8).alloc (.cells #[.int .i64 F, .int .i64 A, .int .i64 B, .int .i64 C] 23)
        have H8 := Row.new w8 #[.int .i64 F, .int .i64 A, .int .i64 B, .int .i64 C] 23
        go_upto_region 16 with fail
        refine forget (fun U => Below w.heap.size w U ∧ Four U q f0 f1 f2 f3 ∧ Row U ga 23 #[.int .i64 F, .int .i64 A, .int .i64 B, .int .i64 C] ∧ Row U w8.heap.size 23 #[.int .i64 F, .int .i64 A, .int .i64 B, .int .i64 C]) ⟨b8, F8, G8, H8⟩ ?_
        clear b8 F8 G8 H8 g8 bT FT GT
        generalize w8.heap.size = gb at *
        rintro U ⟨bU, FU, GU, HU⟩
        obtain ⟨c0, c1, c2, c3⟩ := row4 GU
        obtain ⟨d0, d1, d2, d3⟩ := row4 HU
        go_wp2_with fail
        go_roundw
        case rel => exact ⟨3, rfl, by omega, by omega, bU, FU⟩
        case measure => simp [intOf]
      · obtain ⟨F, A, B, C, r, kp, kq⟩ := both_parse f3
        have KP := Lib.hid kp; clear kp
        have KQ := Lib.hid kq; clear kq
        go_wp2_with fail
        refine (KP.out _).mono ?_
        rintro e w7 ⟨rfl, g7⟩
        have b7 := (br.trans (g7.mono br.size)).alloc (br.trans (g7.mono br.size)).size (.cells #[.int .i64 F, .int .i64 A, .int .i64 B, .int .i64 C] 23)
        have F7 : Row (w7.alloc (.cells #[.int .i64 F, .int .i64 A, .int .i64 B, .int .i64 C] 23)) q 9 #[.string f0, .string f1, .string f2, .string f3] := (Row.under Fr g7).alloc _
        have G7 := Row.new w7 #[.int .i64 F, .int .i64 A, .int .i64 B, .int .i64 C] 23
        go_upto_region 15 with fail
        refine forget (fun T => Below w.heap.size w T ∧ Four T q f0 f1 f2 f3 ∧ Row T w7.heap.size 23 #[.int .i64 F, .int .i64 A, .int .i64 B, .int .i64 C]) ⟨b7, F7, G7⟩ ?_
        clear b7 F7 G7 g7 br Fr x0 x1 x2' x3
        generalize w7.heap.size = ga at *
        rintro T ⟨bT, FT, GT⟩
        go_wp2_with fail
        refine (KQ.out _).mono ?_
        rintro e w8 ⟨rfl, g8⟩
        have b8 := (bT.trans (g8.mono bT.size)).alloc (bT.trans (g8.mono bT.size)).size (.cells #[.int .i64 F, .int .i64 A, .int .i64 B, .int .i64 C] 23)
        have F8 : Row (w8.alloc (.cells #[.int .i64 F, .int .i64 A, .int .i64 B, .int .i64 C] 23)) q 9 #[.string f0, .string f1, .string f2, .string f3] := (Row.under FT g8).alloc _
        have G8 := (GT.under g8).alloc (.cells #[.int .i64 F, .int .i64 A, .int .i64 B, .int .i64 C] 23)
        have H8 := Row.new w8 #[.int .i64 F, .int .i64 A, .int .i64 B, .int .i64 C] 23
        go_upto_region 16 with fail
        refine forget (fun U => Below w.heap.size w U ∧ Four U q f0 f1 f2 f3 ∧ Row U ga 23 #[.int .i64 F, .int .i64 A, .int .i64 B, .int .i64 C] ∧ Row U w8.heap.size 23 #[.int .i64 F, .int .i64 A, .int .i64 B, .int .i64 C]) ⟨b8, F8, G8, H8⟩ ?_
        clear b8 F8 G8 H8 g8 bT FT GT
        generalize w8.heap.size = gb at *
        rintro U ⟨bU, FU, GU, HU⟩
        obtain ⟨c0, c1, c2, c3⟩ := row4 GU
        obtain ⟨d0, d1, d2, d3⟩ := row4 HU
        go_wp2_with fail
        go_roundw
        case rel => exact ⟨4, rfl, by omega, by omega, bU, FU⟩
        case measure => simp [intOf]
      · go_wp2_with fail
        refine (awake_from _ hE br).mono ?_
        rintro e w9 ⟨rfl, g9⟩
        go_wp2_with fail
        go_ret
        exact ⟨rfl, g9⟩
end Go.Proofs.YteccblhmpggcgaaDoor
