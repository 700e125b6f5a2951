/- The contract of the document's own function Resolve. -/
import Derived.Test.YtneglkfcelpdgaaGreatDoorMw
import Derived.Test.YtneglkfcelpdgaaGreatDoorMx
namespace Go.Proofs.YtneglkfcelpdgaaGreatDoor.Ck
open Go.RowKit

set_option maxHeartbeats 1000000 in
theorem refResolve_no (day h i near : Int) (w : World) (hr : ¬ ((1 ≤ day ∧ day ≤ 31) ∧ Cal.tod h i = true ∧ Cal.rng near = true)) :
    Calls Tryz.prog 95 #[.int .i64 day, .int .i64 h, .int .i64 i, .int .i64 near] w fun e w' => e = .returned (.tuple #[.int .i64 0, .int .i64 1]) ∧ w = w' := by
  have ht : Cal.tod h i = decide (0 ≤ h ∧ h ≤ 23 ∧ 0 ≤ i ∧ i ≤ 59) := rfl
  by_cases h1 : 1 ≤ day
  · by_cases h2 : day ≤ 31
    · by_cases h3 : 0 ≤ h
      · by_cases h4 : h ≤ 23
        · by_cases h5 : 0 ≤ i
          · by_cases h6 : i ≤ 59
            · have h7 : Cal.rng near = false := by
                rcases hb : Cal.rng near with _ | _
                · rfl
                · exact absurd ⟨⟨h1, h2⟩, by rw [ht]; simp [*], hb⟩ hr
              clear hr ht
              go_enter Tryz.func95, Tryz.ntmps95
              go_wp2_with (go_at_call 47; refine (refIn_any _ _).mono ?_; rintro e w1 ⟨rfl, rfl⟩)
              go_ret2
              exact ⟨rfl, rfl⟩
            · clear hr ht
              go_enter Tryz.func95, Tryz.ntmps95
              go_wp2_with fail
              go_ret2
              exact ⟨rfl, rfl⟩
          · clear hr ht
            go_enter Tryz.func95, Tryz.ntmps95
            go_wp2_with fail
            go_ret2
            exact ⟨rfl, rfl⟩
        · clear hr ht
          go_enter Tryz.func95, Tryz.ntmps95
          go_wp2_with fail
          go_ret2
          exact ⟨rfl, rfl⟩
      · clear hr ht
        go_enter Tryz.func95, Tryz.ntmps95
        go_wp2_with fail
        go_ret2
        exact ⟨rfl, rfl⟩
    · clear hr ht
      go_enter Tryz.func95, Tryz.ntmps95
      go_wp2_with fail
      go_ret2
      exact ⟨rfl, rfl⟩
  · clear hr ht
    go_enter Tryz.func95, Tryz.ntmps95
    go_wp2_with fail
    go_ret2
    exact ⟨rfl, rfl⟩

set_option maxHeartbeats 1000000 in
theorem refResolve_yes (day h i near : Int) (w : World) (h1 : 1 ≤ day) (h2 : day ≤ 31) (h3 : Cal.tod h i = true) (h4 : Cal.rng near = true) :
    Calls Tryz.prog 95 #[.int .i64 day, .int .i64 h, .int .i64 i, .int .i64 near] w (Resolved day h i near w) := by
  have h5 : 0 ≤ near ∧ near ≤ 52595999 := by unfold Cal.rng at h4; simpa using h4
  obtain ⟨t1, t2, t3, t4⟩ : 0 ≤ h ∧ h ≤ 23 ∧ 0 ≤ i ∧ i ≤ 59 := by unfold Cal.tod at h3; simpa using h3
  obtain ⟨y, m, d, p, q, hv, hn, -⟩ := Cal.num_of near h5.1 h5.2
  obtain ⟨⟨a1, a2, a3, a4⟩, -, -, -, -, -, -⟩ := Cal.vld_iff.1 hv
  have N := Lib.hid hn; clear hn
  go_enter Tryz.func95, Tryz.ntmps95
  go_wp2_with (first | (go_at_call 47; refine (refIn_any _ _).mono ?_; rintro e w1 ⟨rfl, rfl⟩) | (go_at_call 79; refine (refDate_yes _ _ _ _ _ _ _ N.out hv).mono ?_; rintro e w1 ⟨rfl, hb⟩))
  have hb0 := hb.alloc hb.size (.cells #[.int .i64 y, .int .i64 m, .int .i64 d, .int .i64 p, .int .i64 q] 75)
  have B0 := Box.new w1 y m d p q
  clear hb
  generalize w1.heap.size = g at *
  generalize w1.alloc _ = w0 at *
  go_loopw [12, 13, 14] (fun s12 s13 s14 wr => ∃ (k b : Int) (f : Bool), s14 = .int .i64 (k - (y * 12 + m - 1)) ∧ s12 = .int .i64 b ∧ s13 = .bool f ∧ y * 12 + m - 1 - 3 ≤ k ∧ k ≤ y * 12 + m - 1 + 4 ∧ 0 ≤ b ∧ b ≤ 52595999 ∧ Best day h i near (y * 12 + m - 1 - 3) k b f ∧ Below w.heap.size w wr ∧ Box wr g y m d p q) (fun _ _ s14 _ => (400000 - intOf s14).toNat)
  case atStart => exact ⟨y * 12 + m - 1 - 3, 0, false, by congr 1; omega, rfl, rfl, by omega, by omega, by omega, by omega, Best.start, hb0, B0⟩
  case round =>
    clear B0 hb0
    obtain ⟨k, b, f, rfl, rfl, rfl, k1, k2, b1, b2, hB, hbr, Br⟩ := hrel
    obtain ⟨⟨c0, c1, c2, c3, c4⟩, -⟩ := Br.facts
    have ek : y * 12 + m - 1 + (k - (y * 12 + m - 1)) = k := by omega
    have en : k - (y * 12 + m - 1) + 1 = k + 1 - (y * 12 + m - 1) := by omega
    have EN := Lib.hid en; clear en
    by_cases hlt : k ≤ y * 12 + m - 1 + 3
    · by_cases hk : okM day h i k = true
      · have hbd := okM_bd hk
        unfold valM at hbd
        have hvk : Cal.vld (k / 12) (k % 12 + 1) day h i = true := hk
        cases f with
        | false =>
          have hB1 := hB.first k1 hk
          clear hk
          go_wp2_with (go_at_call 66; refine (refMinutes_yes _ _ _ _ _ _ hvk).mono ?_; rintro e w2 ⟨rfl, hb2⟩)
          go_roundw
          case rel => exact ⟨k + 1, _, true, by rw [EN.out], rfl, rfl, by omega, by omega, hbd.1, hbd.2, hB1, hbr.trans (hb2.mono hbr.size), Br.under hb2⟩
          case measure => simp [intOf]; omega
        | true =>
          by_cases hd : dist (Cal.num (k / 12) (k % 12 + 1) day h i) near < dist b near
          · have hB1 := hB.better k1 hk hd
            clear hk
            go_wp2_with (first | (go_at_call 66; refine (refMinutes_yes _ _ _ _ _ _ hvk).mono ?_; rintro e w2 ⟨rfl, hb2⟩) | (go_at_call 124; refine (refDistance_any _ _ _ (by omega) (by omega) (by omega) (by omega)).mono ?_; rintro e w3 ⟨rfl, rfl⟩))
            go_roundw
            case rel => exact ⟨k + 1, _, true, by rw [EN.out], rfl, rfl, by omega, by omega, hbd.1, hbd.2, hB1, hbr.trans (hb2.mono hbr.size), Br.under hb2⟩
            case measure => simp [intOf]; omega
          · have hB1 := hB.keep hk hd
            clear hk
            go_wp2_with (first | (go_at_call 66; refine (refMinutes_yes _ _ _ _ _ _ hvk).mono ?_; rintro e w2 ⟨rfl, hb2⟩) | (go_at_call 124; refine (refDistance_any _ _ _ (by omega) (by omega) (by omega) (by omega)).mono ?_; rintro e w3 ⟨rfl, rfl⟩))
            go_roundw
            case rel => exact ⟨k + 1, b, true, by rw [EN.out], rfl, rfl, by omega, by omega, b1, b2, hB1, hbr.trans (hb2.mono hbr.size), Br.under hb2⟩
            case measure => simp [intOf]; omega
      · have hk' : okM day h i k = false := by simpa using hk
        have hvk : Cal.vld (k / 12) (k % 12 + 1) day h i = false := hk'
        have hB1 := hB.skip hk'
        clear hk hk'
        go_wp2_with (go_at_call 66; refine (refMinutes_no _ _ _ _ _ _ hvk).mono ?_; rintro e w2 ⟨rfl, hb2⟩)
        go_roundw
        case rel => exact ⟨k + 1, b, f, by rw [EN.out], rfl, rfl, by omega, by omega, b1, b2, hB1, hbr.trans (hb2.mono hbr.size), Br.under hb2⟩
        case measure => simp [intOf]; omega
    · have hNear := hB.nearest hv N.out (by omega) (by omega) ⟨h1, h2⟩ h3
      go_wp2
      go_ret2
      exact ⟨b, hNear, rfl, hbr⟩
end Go.Proofs.YtneglkfcelpdgaaGreatDoor.Ck
