/- The walk of ClockNear: for every list the law returns true, and what lay in memory is as it was. -/
import Derived.Test.YtaohndjlaamdaaaDoorAwake
import Derived.Test.YtaohndjlaamdaaaDoorSrc
namespace Go.Proofs.YtaohndjlaamdaaaDoor
open Go.RowKit

set_option maxHeartbeats 1000000 in
theorem clockNear_any (v : Value) (w : World) (hE : Env w) (hl : ListIn w v) :
    Calls Tryd.prog 6 #[v] w fun e w' => e = .returned (.bool true) ∧ Below w.heap.size w w' := by
  go_enter Tryd.func6, Tryd.ntmps6
  go_wp2_with fail
  refine (new_any _ _ hl).mono ?_
  rintro e w1 ⟨rfl, s1, -⟩
  go_wp2_with fail
  refine (minute_any _ _ _ s1).mono ?_
  rintro e w2 ⟨near, ⟨n1, n2⟩, rfl, s2, -⟩
  go_wp2_with fail
  refine (range_any _ _ _ _ _ s2 (by omega) (by omega) (by omega) (by omega)).mono ?_
  rintro e w3 ⟨r, ⟨r1, r2⟩, rfl, s3, -⟩
  have b3 := s3.below
  have hE3 := hE.under b3
  by_cases h0 : 0 ≤ near + r ∧ near + r ≤ 52595999
  · obtain ⟨h1, h2⟩ := h0
    obtain ⟨y, mo, d, h, i, hv, hn, -⟩ := Cal.num_of _ h1 h2
    have N := Lib.hid hn
    have hNear := Lib.hid (hn ▸ nearest_near (near := near) hv (by omega) (by omega) : Nearest d h i near (near + r))
    have hdd := Cal.vld_days hv
    have hd31 := Cal.days_bd y mo
    have ht := Cal.vld_tod hv
    have hr := Cal.rng_yes n1 n2
    clear hn
    go_wp2_with fail
    refine (date_yes _ _ _ _ _ _ _ hE3.1 N.out hv).mono ?_
    rintro e w4 ⟨rfl, g4⟩
    have b4 := b3.trans (g4.mono b3.size)
    have b5 := b4.alloc b4.size (.cells #[.int .i64 y, .int .i64 mo, .int .i64 d, .int .i64 h, .int .i64 i] 23)
    have hE5 := hE.under b5
    go_wp2_with fail
    refine (resolve_yes _ _ _ _ _ hE5.1 (by omega) (by omega) ht hr).mono ?_
    rintro e w6 ⟨a, ha, rfl, g6⟩
    obtain rfl := ha.unique hNear.out
    have b6 := b5.trans (g6.mono b5.size)
    have hE6 := hE.under b6
    go_wp2_with fail
    refine (awake_any _ hE6).mono ?_
    rintro e w7 ⟨rfl, g7⟩
    go_wp2_with fail
    go_ret
    exact ⟨rfl, b6.trans (g7.mono b6.size)⟩
  · have hr := Cal.rng_no (n := near + r) (by omega)
    go_wp2_with fail
    refine (date_no _ _ hr).mono ?_
    rintro e w4 ⟨rfl, g4⟩
    have b4 := b3.trans (g4.mono b3.size)
    have b5 := b4.alloc b4.size (.cells #[.int .i64 0, .int .i64 0, .int .i64 0, .int .i64 0, .int .i64 0] 23)
    have hE5 := hE.under b5
    by_cases hneg : near + r < 0
    · go_wp2_with fail
      refine (awake_any _ hE5).mono ?_
      rintro e w7 ⟨rfl, g7⟩
      go_wp2_with fail
      go_ret
      exact ⟨rfl, b5.trans (g7.mono b5.size)⟩
    · have hbig : 52595999 < near + r := by omega
      clear h0
      go_wp2_with fail
      refine (awake_any _ hE5).mono ?_
      rintro e w7 ⟨rfl, g7⟩
      go_wp2_with fail
      go_ret
      exact ⟨rfl, b5.trans (g7.mono b5.size)⟩
end Go.Proofs.YtaohndjlaamdaaaDoor
