/- The walk of ClockTexts: for every minute, text, list, place and byte the law returns true, and what lay in memory is as it was. -/
import Derived.Test.YtaohndjlaamdaaaDoorTextsLaw
namespace Go.Proofs.YtaohndjlaamdaaaDoor
open Go.RowKit

/-- A row of four texts. -/
def Four (w : World) (g : Nat) (a b c d : ByteArray) : Prop := w.heap[g]? = some (.cells #[.string a, .string b, .string c, .string d] 9 (0, 0))
theorem Four.facts {w : World} {g : Nat} {a b c d : ByteArray} (h : Four w g a b c d) :
    w.cell? ⟨g, 0, none⟩ = some (.string a) ∧ w.cell? ⟨g, 1, none⟩ = some (.string b) ∧ w.cell? ⟨g, 2, none⟩ = some (.string c) ∧ w.cell? ⟨g, 3, none⟩ = some (.string d) := by
  unfold Four at h
  simp [World.cell?, h]
theorem Four.lt {w : World} {g : Nat} {a b c d : ByteArray} (hB : Four w g a b c d) : g < w.heap.size := (Array.getElem?_eq_some_iff.1 hB).1
theorem Four.under {w w' : World} {g : Nat} {a b c d : ByteArray} (hB : Four w g a b c d) (hb : Below w.heap.size w w') : Four w' g a b c d := (hb.block g hB.lt).trans hB
attribute [local go_sem] S_add S_size txt_length
set_option maxRecDepth 100000 in
set_option maxHeartbeats 4000000 in
theorem clockTexts_any (m : Int) (s : ByteArray) (v : Value) (at_ b : Int) (w : World) (hE : Env w) (hl : ListIn w v) (hat : I64 at_) :
    Calls Tryd.prog 7 #[.int .i64 m, .string s, v, .int .i64 at_, .int .u8 b] w fun e w' => e = .returned (.bool true) ∧ Below w.heap.size w w' := by
  obtain ⟨t, c, t1, kf, kr⟩ := both_format m
  have KF := Lib.hid kf; clear kf
  have KR := Lib.hid kr; clear kr
  by_cases hlen : 100 < s.size
  · go_enter Tryd.func7, Tryd.ntmps7
    go_wp2_with fail
    refine (awake_any _ hE).mono ?_
    rintro e w1 ⟨rfl, g1⟩
    go_wp2_with fail
    go_ret
    exact ⟨rfl, g1⟩
  · go_enter Tryd.func7, Tryd.ntmps7
    go_wp2_with fail
    refine (new_any _ _ hl).mono ?_
    rintro e w1 ⟨rfl, s1, -⟩
    go_wp2_with fail
    refine (KF.out _ (hE.under s1.below)).mono ?_
    rintro e w2 ⟨rfl, g2⟩
    have s2 := s1.under g2
    go_wp2_with fail
    refine (KR.out _).mono ?_
    rintro e w3 ⟨rfl, g3⟩
    have s3 := s2.under g3
    clear s1 g2 s2 g3
    go_wp2_with fail
    refine (minute_any _ _ _ s3).mono ?_
    rintro e w4 ⟨n, ⟨n1, n2⟩, rfl, s4, -⟩
    obtain ⟨y, mo, d, ho, i, hv, hn, -⟩ := Cal.num_of n n1 n2
    have N := Lib.hid hn; clear hn
    go_wp2_with fail
    refine (refFormat_yes _ _ _ _ _ _ _ N.out hv).mono ?_
    rintro e w5 ⟨rfl, g5⟩
    have s5 := s4.under g5
    clear s3 s4 g5
    have kc := run_bytes_of_string (P := Tryd.prog) w5 9 48 5 (S (txt y mo d ho i)) Tryd.underlying9 Tryd.underlying48 Tryd.underlying5
    go_upto_region 8 with fail
    have hg := s5.below.size
    refine forget (fun Y => Below w.heap.size w Y ∧ Bys Y w5.heap.size) ⟨s5.below.drew.alloc s5.below.size _, Bys.new w5.drew _ rfl _⟩ ?_
    clear s5 kc
    generalize grownCap w5 _ 0 5 = cap at *
    generalize w5.heap.size = g at *
    rintro Y ⟨bY, BY⟩
    go_wp2_with fail
    refine (mod_any _ _ _ hat (by omega) (by omega)).mono ?_
    rintro e w6 ⟨rfl, rfl⟩
    have o1 : 0 ≤ at_ % 16 := Int.emod_nonneg _ (by omega)
    have o2 : at_ % 16 < 16 := Int.emod_lt_of_pos _ (by omega)
    clear hat
    generalize at_ % 16 = k at *
    obtain ⟨j, rfl⟩ := Int.eq_ofNat_of_zero_le o1
    have o3 : j < 16 := by omega
    obtain ⟨z, hz, hfz⟩ := BY.at j o3
    go_upto_region 9 with fail
    refine forget (fun Z => Below w.heap.size w Z ∧ Bys Z g) ⟨bY.setCell hg _, BY.set j _⟩ ?_
    clear bY BY hz hfz o1 o2 o3
    rintro Z ⟨bZ, BZ⟩
    obtain ⟨x, hx, kx⟩ := BZ.text cap
    have hx' : x.size ≤ 16 := by omega
    clear hx BZ
    go_wp2_with fail
    refine forget (fun Y => Below w.heap.size w Y ∧ ∃ f0 f1 f2 f3, Four Y Z.heap.size f0 f1 f2 f3) ⟨bZ.alloc bZ.size _, _, _, _, _, heap_alloc_new Z _⟩ ?_
    clear bZ kx hx'
    generalize Z.heap.size = q at *
    rintro V ⟨bV, f0, f1, f2, f3, FV⟩
    go_loopw [75] (fun s wr => ∃ j : Int, s = .int .i64 j ∧ 0 ≤ j ∧ j ≤ 4 ∧ Below w.heap.size w wr ∧ Four wr q f0 f1 f2 f3) (fun s _ => (10 - intOf s).toNat)
    case atStart => exact ⟨0, rfl, by omega, by omega, bV, FV⟩
    case round =>
      clear bV FV
      obtain ⟨j', rfl, j1, j2, br, Fr⟩ := hrel
      obtain ⟨x0, x1, x2, x3⟩ := Fr.facts
      have hj : j' = 0 ∨ j' = 1 ∨ j' = 2 ∨ j' = 3 ∨ j' = 4 := by omega
      clear j1 j2
      rcases hj with rfl | rfl | rfl | rfl | rfl
      · obtain ⟨u, r, kp, kq⟩ := both_parse f0
        have KP := Lib.hid kp; clear kp
        have KQ := Lib.hid kq; clear kq
        go_wp2_with fail
        refine (KP.out _ (hE.under br)).mono ?_
        rintro e w7 ⟨rfl, g7⟩
        have b7 := br.trans (g7.mono br.size)
        have F7 := Fr.under g7
        clear g7 br Fr
        go_wp2_with fail
        refine (KQ.out _).mono ?_
        rintro e w8 ⟨rfl, g8⟩
        have b8 := b7.trans (g8.mono b7.size)
        have F8 := F7.under g8
        clear g8 b7 F7
        go_wp2_with fail
        go_roundw
        case rel => exact ⟨1, rfl, by omega, by omega, b8, F8⟩
        case measure => simp [intOf]
      · obtain ⟨u, r, kp, kq⟩ := both_parse f1
        have KP := Lib.hid kp; clear kp
        have KQ := Lib.hid kq; clear kq
        go_wp2_with fail
        refine (KP.out _ (hE.under br)).mono ?_
        rintro e w7 ⟨rfl, g7⟩
        have b7 := br.trans (g7.mono br.size)
        have F7 := Fr.under g7
        clear g7 br Fr
        go_wp2_with fail
        refine (KQ.out _).mono ?_
        rintro e w8 ⟨rfl, g8⟩
        have b8 := b7.trans (g8.mono b7.size)
        have F8 := F7.under g8
        clear g8 b7 F7
        go_wp2_with fail
        go_roundw
        case rel => exact ⟨2, rfl, by omega, by omega, b8, F8⟩
        case measure => simp [intOf]
      · obtain ⟨u, r, kp, kq⟩ := both_parse f2
        have KP := Lib.hid kp; clear kp
        have KQ := Lib.hid kq; clear kq
        go_wp2_with fail
        refine (KP.out _ (hE.under br)).mono ?_
        rintro e w7 ⟨rfl, g7⟩
        have b7 := br.trans (g7.mono br.size)
        have F7 := Fr.under g7
        clear g7 br Fr
        go_wp2_with fail
        refine (KQ.out _).mono ?_
        rintro e w8 ⟨rfl, g8⟩
        have b8 := b7.trans (g8.mono b7.size)
        have F8 := F7.under g8
        clear g8 b7 F7
        go_wp2_with fail
        go_roundw
        case rel => exact ⟨3, rfl, by omega, by omega, b8, F8⟩
        case measure => simp [intOf]
      · obtain ⟨u, r, kp, kq⟩ := both_parse f3
        have KP := Lib.hid kp; clear kp
        have KQ := Lib.hid kq; clear kq
        go_wp2_with fail
        refine (KP.out _ (hE.under br)).mono ?_
        rintro e w7 ⟨rfl, g7⟩
        have b7 := br.trans (g7.mono br.size)
        have F7 := Fr.under g7
        clear g7 br Fr
        go_wp2_with fail
        refine (KQ.out _).mono ?_
        rintro e w8 ⟨rfl, g8⟩
        have b8 := b7.trans (g8.mono b7.size)
        have F8 := F7.under g8
        clear g8 b7 F7
        go_wp2_with fail
        go_roundw
        case rel => exact ⟨4, rfl, by omega, by omega, b8, F8⟩
        case measure => simp [intOf]
      · go_wp2_with fail
        refine (awake_from _ hE br).mono ?_
        rintro e w9 ⟨rfl, g9⟩
        go_wp2_with fail
        go_ret
        exact ⟨rfl, g9⟩
end Go.Proofs.YtaohndjlaamdaaaDoor
