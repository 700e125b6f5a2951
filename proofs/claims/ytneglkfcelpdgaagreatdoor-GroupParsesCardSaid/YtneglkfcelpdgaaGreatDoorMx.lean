/- The contract of Resolve of the program. -/
import Derived.Test.YtneglkfcelpdgaaGreatDoorMv
import Derived.Outline
namespace Go.Proofs.YtneglkfcelpdgaaGreatDoor.Ck
open Go.RowKit

set_option maxHeartbeats 400000 in
theorem resolve_no (day h i near : Int) (w : World) (hr : ¬ ((1 ≤ day ∧ day ≤ 31) ∧ Cal.tod h i = true ∧ Cal.rng near = true)) :
    Calls Tryz.prog 51 #[.int .i64 day, .int .i64 h, .int .i64 i, .int .i64 near] w fun e w' => e = .returned (.tuple #[.int .i64 0, .int .i64 1]) ∧ w = w' := by
  by_cases h1 : 1 ≤ day
  · by_cases h2 : day ≤ 31
    · by_cases h3 : Cal.tod h i = true
      · have h4 : Cal.rng near = false := by
          rcases hb : Cal.rng near with _ | _
          · rfl
          · exact absurd ⟨⟨h1, h2⟩, h3, hb⟩ hr
        clear hr
        go_enter Tryz.func51, Tryz.ntmps51
        go_wp2_with (first | (go_at_call 92; refine (timeOfDay_any _ _ _).mono ?_; rintro e w1 ⟨rfl, rfl⟩) | (go_at_call 89; refine (inRange_any _ _).mono ?_; rintro e w1 ⟨rfl, rfl⟩))
        go_ret2
        exact ⟨rfl, rfl⟩
      · have h4 : Cal.tod h i = false := by simpa using h3
        clear hr h3
        go_enter Tryz.func51, Tryz.ntmps51
        go_wp2_with (first | (go_at_call 92; refine (timeOfDay_any _ _ _).mono ?_; rintro e w1 ⟨rfl, rfl⟩))
        go_ret2
        exact ⟨rfl, rfl⟩
    · clear hr
      go_enter Tryz.func51, Tryz.ntmps51
      go_wp2_with fail
      go_ret2
      exact ⟨rfl, rfl⟩
  · clear hr
    go_enter Tryz.func51, Tryz.ntmps51
    go_wp2_with fail
    go_ret2
    exact ⟨rfl, rfl⟩

/-- What Resolve leaves: the nearest minute. -/
def Resolved (day h i near : Int) (w : World) (e : Ending) (w' : World) : Prop := ∃ a, Nearest day h i near a ∧ e = .returned (.tuple #[.int .i64 a, .int .i64 0]) ∧ Below w.heap.size w w'

set_option maxHeartbeats 1000000 in
theorem resolve_yes (day h i near : Int) (w : World) (hT : Tab w) (h1 : 1 ≤ day) (h2 : day ≤ 31) (h3 : Cal.tod h i = true) (h4 : Cal.rng near = true) :
    Calls Tryz.prog 51 #[.int .i64 day, .int .i64 h, .int .i64 i, .int .i64 near] w (Resolved day h i near w) := by
  have h5 : 0 ≤ near ∧ near ≤ 52595999 := by unfold Cal.rng at h4; simpa using h4
  obtain ⟨y, m, d, p, q, hv, hn, -⟩ := Cal.num_of near h5.1 h5.2
  obtain ⟨⟨a1, a2, a3, a4⟩, -, -, -, -, -, -⟩ := Cal.vld_iff.1 hv
  have N := Lib.hid hn; clear hn
  go_enter Tryz.func51, Tryz.ntmps51
  go_wp2_with (first | (go_at_call 92; refine (timeOfDay_any _ _ _).mono ?_; rintro e w1 ⟨rfl, rfl⟩) | (go_at_call 89; refine (inRange_any _ _).mono ?_; rintro e w1 ⟨rfl, rfl⟩) | (go_at_call 50; refine (date_yes _ _ _ _ _ _ _ hT N.out hv).mono ?_; rintro e w1 ⟨rfl, hb⟩))
  have hb0 := hb.alloc hb.size (.cells #[.int .i64 y, .int .i64 m, .int .i64 d, .int .i64 p, .int .i64 q] 75)
  clear hb
  generalize w1.alloc _ = w0 at *
  go_loopw [13, 14, 15] (fun s13 s14 s15 wr => ∃ (k b : Int) (f : Bool), s15 = .int .i64 k ∧ s13 = .int .i64 b ∧ s14 = .bool f ∧ y * 12 + m - 1 - 2 ≤ k ∧ k ≤ y * 12 + m - 1 + 3 ∧ 0 ≤ b ∧ b ≤ 52595999 ∧ Best day h i near (y * 12 + m - 1 - 2) k b f ∧ Below w.heap.size w wr) (fun _ _ s15 _ => (400000 - intOf s15).toNat)
  case atStart => exact ⟨_, 0, false, rfl, rfl, rfl, by omega, by omega, by omega, by omega, Best.start, hb0⟩
  case round =>
    obtain ⟨k, b, f, rfl, rfl, rfl, k1, k2, b1, b2, hB, hbr⟩ := hrel
    have hTr := hT.under hbr
    by_cases hlt : k ≤ y * 12 + m - 1 + 2
    · by_cases hk : okM day h i k = true
      · have hbd := okM_bd hk
        unfold valM at hbd
        have hvk : Cal.vld (k / 12) (k % 12 + 1) day h i = true := hk
        cases f with
        | false =>
          have hB1 := hB.first k1 hk
          clear hk
          go_wp2_with (go_at_call 93; refine (minutes_yes _ _ _ _ _ _ hTr hvk).mono ?_; rintro e w2 ⟨rfl, hb2⟩)
          go_roundw
          case rel => exact ⟨k + 1, _, true, rfl, rfl, rfl, by omega, by omega, hbd.1, hbd.2, hB1, hbr.trans (hb2.mono hbr.size)⟩
          case measure => simp [intOf]; omega
        | true =>
          by_cases hd : dist (Cal.num (k / 12) (k % 12 + 1) day h i) near < dist b near
          · have hB1 := hB.better k1 hk hd
            clear hk
            go_wp2_with (first | (go_at_call 93; refine (minutes_yes _ _ _ _ _ _ hTr hvk).mono ?_; rintro e w2 ⟨rfl, hb2⟩) | (go_at_call 94; refine (distance_any _ _ _ (by omega) (by omega) (by omega) (by omega)).mono ?_; rintro e w3 ⟨rfl, rfl⟩))
            go_roundw
            case rel => exact ⟨k + 1, _, true, rfl, rfl, rfl, by omega, by omega, hbd.1, hbd.2, hB1, hbr.trans (hb2.mono hbr.size)⟩
            case measure => simp [intOf]; omega
          · have hB1 := hB.keep hk hd
            clear hk
            go_wp2_with (first | (go_at_call 93; refine (minutes_yes _ _ _ _ _ _ hTr hvk).mono ?_; rintro e w2 ⟨rfl, hb2⟩) | (go_at_call 94; refine (distance_any _ _ _ (by omega) (by omega) (by omega) (by omega)).mono ?_; rintro e w3 ⟨rfl, rfl⟩))
            go_roundw
            case rel => exact ⟨k + 1, b, true, rfl, rfl, rfl, by omega, by omega, b1, b2, hB1, hbr.trans (hb2.mono hbr.size)⟩
            case measure => simp [intOf]; omega
      · have hk' : okM day h i k = false := by simpa using hk
        have hvk : Cal.vld (k / 12) (k % 12 + 1) day h i = false := hk'
        have hB1 := hB.skip hk'
        clear hk hk'
        go_wp2_with (go_at_call 93; refine (minutes_no _ _ _ _ _ _ hTr hvk).mono ?_; rintro e w2 ⟨rfl, hb2⟩)
        go_roundw
        case rel => exact ⟨k + 1, b, f, rfl, rfl, rfl, by omega, by omega, b1, b2, hB1, hbr.trans (hb2.mono hbr.size)⟩
        case measure => simp [intOf]; omega
    · have hNear := hB.nearest hv N.out (by omega) (by omega) ⟨h1, h2⟩ h3
      go_wp2
      go_ret2
      exact ⟨b, hNear, rfl, hbr⟩
end Go.Proofs.YtneglkfcelpdgaaGreatDoor.Ck
