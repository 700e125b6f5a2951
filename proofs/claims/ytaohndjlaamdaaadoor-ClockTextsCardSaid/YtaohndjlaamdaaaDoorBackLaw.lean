/- The walk of ClockBack: for every list the law returns true, and what lay in memory is as it was. -/
import Derived.Test.YtaohndjlaamdaaaDoorAwake
import Derived.Test.YtaohndjlaamdaaaDoorSrc
import Derived.Test.YtaohndjlaamdaaaDoorBox
import Derived.Test.YtaohndjlaamdaaaDoorEqs
import Derived.Deep.Cut
namespace Go.Proofs.YtaohndjlaamdaaaDoor
open Go.RowKit

/-! Texts are read back. -/
theorem b10_toNat {x : Int} (h1 : 0 ≤ x) (h2 : x ≤ 9) : ((b10 x).toNat : Int) = 48 + x := by
  unfold b10
  rw [UInt8.toNat_ofNat_of_lt' (by simp only [UInt8.size]; omega)]; omega
theorem numv_dig2 {n : Int} (h1 : 0 ≤ n) (h2 : n ≤ 99) : numv (dig2 n) = n := by
  have a := b10_toNat (x := n / 10) (by omega) (by omega)
  have b := b10_toNat (x := n % 10) (by omega) (by omega)
  simp only [numv, dig2, List.foldl]; omega
theorem numv_dig4 {n : Int} (h1 : 0 ≤ n) (h2 : n ≤ 9999) : numv (dig4 n) = n := by
  have a := b10_toNat (x := n / 1000) (by omega) (by omega)
  have b := b10_toNat (x := n / 100 % 10) (by omega) (by omega)
  have c := b10_toNat (x := n / 10 % 10) (by omega) (by omega)
  have d := b10_toNat (x := n % 10) (by omega) (by omega)
  simp only [numv, dig4, List.foldl]; omega
theorem extract_S (l : List UInt8) (a b : Nat) : ((S l).extract a b).data.toList = (l.drop a).take (b - a) := by
  unfold S; simp [ByteArray.data_extract, List.extract]
theorem txt_fld {y m d h i : Int} (hv : Cal.vld y m d h i = true) :
    fld (S (txt y m d h i)) 0 4 = y ∧ fld (S (txt y m d h i)) 5 7 = m ∧ fld (S (txt y m d h i)) 8 10 = d ∧ fld (S (txt y m d h i)) 11 13 = h ∧ fld (S (txt y m d h i)) 14 16 = i := by
  obtain ⟨⟨a1, a2, a3, a4⟩, a5, a6, a7, a8, a9, a10⟩ := Cal.vld_iff.1 hv
  have c2 := Cal.dim_bd y m
  simp only [fld, extract_S]
  exact ⟨numv_dig4 (by omega) (by omega), numv_dig2 (by omega) (by omega), numv_dig2 (by omega) (by omega), numv_dig2 (by omega) (by omega), numv_dig2 (by omega) (by omega)⟩
theorem parse_txt (n y m d h i : Int) (w : World) (hE : Env w) (hn : Cal.num y m d h i = n) (hv : Cal.vld y m d h i = true) :
    Calls Tryd.prog 23 #[.string (S (txt y m d h i))] w fun e w' => e = .returned (.tuple #[.int .i64 n, .int .i64 0]) ∧ Below w.heap.size w w' := by
  obtain ⟨e1, e2, e3, e4, e5⟩ := txt_fld hv
  have h := parse_yes (S (txt y m d h i)) w hE (by rw [S_size]; rfl) (by rw [e1, e2, e3, e4, e5]; exact hv) (by rw [e1, e2, e3, e4, e5])
  rw [e1, e2, e3, e4, e5, hn] at h
  exact h

/-- The date of the next minute. -/
def NextOf (y m d h i y' m' d' h' i' : Int) : Prop :=
  (i < 59 ∧ y' = y ∧ m' = m ∧ d' = d ∧ h' = h ∧ i' = i + 1) ∨ (i = 59 ∧ h < 23 ∧ y' = y ∧ m' = m ∧ d' = d ∧ h' = h + 1 ∧ i' = 0) ∨
  (i = 59 ∧ h = 23 ∧ d < Cal.days y m ∧ y' = y ∧ m' = m ∧ d' = d + 1 ∧ h' = 0 ∧ i' = 0) ∨ (i = 59 ∧ h = 23 ∧ Cal.days y m ≤ d ∧ m < 12 ∧ y' = y ∧ m' = m + 1 ∧ d' = 1 ∧ h' = 0 ∧ i' = 0) ∨
  (i = 59 ∧ h = 23 ∧ Cal.days y m ≤ d ∧ m = 12 ∧ y' = y + 1 ∧ m' = 1 ∧ d' = 1 ∧ h' = 0 ∧ i' = 0)
theorem next_of {y m d h i : Int} (hv : Cal.vld y m d h i = true) (hm : Cal.num y m d h i < 52595999) :
    ∃ y' m' d' h' i', NextOf y m d h i y' m' d' h' i' ∧ Cal.vld y' m' d' h' i' = true ∧ Cal.num y' m' d' h' i' = Cal.num y m d h i + 1 := by
  obtain ⟨⟨a1, a2, a3, a4⟩, a5, a6, a7, a8, a9, a10⟩ := Cal.vld_iff.1 hv
  have hdd := Cal.days_in ⟨a1, a2, a3, a4⟩
  by_cases c1 : i < 59
  · exact ⟨y, m, d, h, i + 1, .inl ⟨c1, rfl, rfl, rfl, rfl, rfl⟩, Cal.vld_iff.2 (by omega), by unfold Cal.num; omega⟩
  · by_cases c2 : h < 23
    · exact ⟨y, m, d, h + 1, 0, .inr (.inl ⟨by omega, c2, rfl, rfl, rfl, rfl, rfl⟩), Cal.vld_iff.2 (by omega), by unfold Cal.num; omega⟩
    · by_cases c3 : d < Cal.days y m
      · exact ⟨y, m, d + 1, 0, 0, .inr (.inr (.inl ⟨by omega, by omega, c3, rfl, rfl, rfl, rfl, rfl⟩)), Cal.vld_iff.2 (by omega), by unfold Cal.num; omega⟩
      · by_cases c4 : m < 12
        · have e1 := Cal.cum_succ y m a3 a4
          have e2 := Cal.dim_bd y (m + 1)
          exact ⟨y, m + 1, 1, 0, 0, .inr (.inr (.inr (.inl ⟨by omega, by omega, by omega, c4, rfl, rfl, rfl, rfl, rfl⟩))), Cal.vld_iff.2 (by omega), by unfold Cal.num; omega⟩
        · obtain rfl : m = 12 := by omega
          have e1 := Cal.cum_succ y 12 (by omega) (by omega)
          have e2 := Cal.dim_bd (y + 1) 1
          have e3 := Cal.cum_13 y
          have e4 := Cal.dby_succ y a1
          have e5 := Cal.cum_one (y + 1)
          rw [show (12 : Int) + 1 = 13 by rfl] at e1
          have hy : y < 2099 := by
            rcases Int.lt_or_le y 2099 with hy | hy
            · exact hy
            · obtain rfl : y = 2099 := by omega
              exfalso
              have : Cal.dby 2099 = 36160 := by decide
              have : Cal.leap 2099 = 0 := by decide
              unfold Cal.num at hm; omega
          exact ⟨y + 1, 1, 1, 0, 0, .inr (.inr (.inr (.inr ⟨by omega, by omega, by omega, rfl, rfl, rfl, rfl, rfl, rfl⟩))), Cal.vld_iff.2 (by omega), by unfold Cal.num; omega⟩
attribute [local go_sem] eq_civil
set_option maxRecDepth 100000 in
set_option maxHeartbeats 3000000 in
theorem clockBack_any (v : Value) (w : World) (hE : Env w) (hl : ListIn w v) :
    Calls Tryd.prog 4 #[v] w fun e w' => e = .returned (.bool true) ∧ Below w.heap.size w w' := by
  go_enter Tryd.func4, Tryd.ntmps4
  go_wp2_with fail
  refine (new_any _ _ hl).mono ?_
  rintro e w1 ⟨rfl, s1, -⟩
  go_wp2_with fail
  refine (minute_any _ _ _ s1).mono ?_
  rintro e w2 ⟨n, ⟨n1, n2⟩, rfl, s2, -⟩
  have b2 := s2.below
  have hE2 := hE.under b2
  obtain ⟨y, m, d, h, i, hv, hn, -⟩ := Cal.num_of _ n1 n2
  have N := Lib.hid hn
  clear hn
  go_wp2_with fail
  refine (date_yes _ _ _ _ _ _ _ hE2.1 N.out hv).mono ?_
  rintro e w3 ⟨rfl, g3⟩
  have b3 := b2.trans (g3.mono b2.size)
  have hE4 := (hE.under b3).alloc (.cells #[.int .i64 y, .int .i64 m, .int .i64 d, .int .i64 h, .int .i64 i] 23)
  have b4 := b3.alloc b3.size (.cells #[.int .i64 y, .int .i64 m, .int .i64 d, .int .i64 h, .int .i64 i] 23)
  have B4 := Box.new w3 y m d h i
  go_wp2_with fail
  refine (minutes_yes _ _ _ _ _ _ hE4.1 hv).mono ?_
  rintro e w5 ⟨rfl, g5⟩
  have b5 := b4.trans (g5.mono b4.size)
  have hE5 := hE.under b5
  have B5 := B4.under g5
  go_wp2_with fail
  refine (format_yes _ _ _ _ _ _ _ hE5 N.out hv).mono ?_
  rintro e w6 ⟨rfl, g6⟩
  have b6 := b5.trans (g6.mono b5.size)
  have hE6 := hE.under b6
  have B6 := B5.under g6
  go_wp2_with fail
  refine (parse_txt _ _ _ _ _ _ _ hE6 N.out hv).mono ?_
  rintro e w7 ⟨rfl, g7⟩
  have b7 := b6.trans (g7.mono b6.size)
  have hE7 := hE.under b7
  have B7 := B6.under g7
  have hsm : (Cal.num y m d h i != n) = false := by rw [N.out]; simp
  by_cases hmax : n = 52595999
  · subst hmax
    go_wp2_with fail
    refine (awake_any _ hE7).mono ?_
    rintro e w8 ⟨rfl, g8⟩
    go_wp2_with fail
    go_ret
    exact ⟨rfl, b7.trans (g8.mono b7.size)⟩
  · have hne : (n == 52595999) = false := beq_eq_false_iff_ne.2 hmax
    obtain ⟨y', m', d', h', i', hN, hv', hn'⟩ := next_of hv (by rw [N.out]; omega)
    rw [N.out] at hn'
    have N' := Lib.hid hn'
    clear hn' hmax
    go_wp2_with fail
    refine (date_yes _ _ _ _ _ _ _ hE7.1 N'.out hv').mono ?_
    rintro e w8 ⟨rfl, g8⟩
    have b8 := b7.trans (g8.mono b7.size)
    have hE8 := hE.under b8
    have B8 := B7.under g8
    have hg := B8.lt
    have hg0 : w.heap.size ≤ w3.heap.size := b3.size
    have hwp := hE.1.pos
    obtain ⟨⟨k0, k1, k2, k3, k4⟩, f0, f1, f2, f3, f4⟩ := B8.facts
    clear B4 B5 B6 B7 g3 g5 g6 g7 g8
    have hdd := Cal.vld_days hv
    obtain ⟨⟨a1, a2, a3, a4⟩, a5, a6, a7, a8, a9, a10⟩ := Cal.vld_iff.1 hv
    unfold NextOf at hN
    have hs8 := b8.size
    have hdy := Cal.days_bd y m
    clear k0 k1 k2 k3 k4 f0 f1 f2 f3 f4
    have T8 : Two w w3.heap.size w8.heap.size y m d h i y' m' d' h' i' (w8.alloc (.cells #[.int .i64 y', .int .i64 m', .int .i64 d', .int .i64 h', .int .i64 i'] 23)) :=
      ⟨b8.alloc b8.size _, hg0, by omega, B8.alloc _, Box.new _ _ _ _ _ _⟩
    clear B8 hE8 hE7 hE6 hE5 hE4 hE2 b4 b5 b6 b7 b3 b2 s1 s2 hl
    go_upto_region 14 with fail
    refine forget (Two w w3.heap.size w8.heap.size y m d h i y' m' d' h' i') T8 ?_
    clear T8 b8 hs8 hg
    generalize w3.heap.size = g at *
    generalize w8.heap.size = g' at *
    intro Y T
    obtain ⟨⟨⟨k0, k1, k2, k3, k4⟩, f0, f1, f2, f3, f4⟩, q0, q1, q2, q3, q4⟩ := T.facts
    rcases hN with ⟨c1, rfl, rfl, rfl, rfl, rfl⟩ | ⟨rfl, c2, rfl, rfl, rfl, rfl, rfl⟩ | ⟨rfl, rfl, c3, rfl, rfl, rfl, rfl, rfl⟩ | ⟨rfl, rfl, c3, c4, rfl, rfl, rfl, rfl, rfl⟩ | ⟨rfl, rfl, c3, rfl, rfl, rfl, rfl, rfl, rfl⟩
    · skip
      go_upto_region 17 with fail
      refine forget (Two w g g' y' m' d' h' (i + 1) y' m' d' h' (i + 1)) (T.set4 _) ?_
      clear k0 k1 k2 k3 k4 f0 f1 f2 f3 f4 q0 q1 q2 q3 q4 T Y
      intro Y T
      obtain ⟨⟨⟨k0, k1, k2, k3, k4⟩, f0, f1, f2, f3, f4⟩, q0, q1, q2, q3, q4⟩ := T.facts
      go_upto_region 19 with fail
      go_quiet ((go_at_call 16; exact quiet_left (days_any _ _ _ (hE.1.under (below_drewN T.below _)))))
      go_wp2_with fail
      refine (awake_from _ hE (below_drewN T.below _)).mono ?_
      rintro e w9 ⟨rfl, g9⟩
      go_wp2_with fail
      go_ret
      exact ⟨rfl, g9⟩
    · skip
      go_upto_region 17 with fail
      refine forget (Two w g g' y' m' d' (h + 1) 0 y' m' d' (h + 1) 0) (((T.set4 _).set3 _).set4 _) ?_
      clear k0 k1 k2 k3 k4 f0 f1 f2 f3 f4 q0 q1 q2 q3 q4 T Y
      intro Y T
      obtain ⟨⟨⟨k0, k1, k2, k3, k4⟩, f0, f1, f2, f3, f4⟩, q0, q1, q2, q3, q4⟩ := T.facts
      go_upto_region 19 with fail
      go_quiet ((go_at_call 16; exact quiet_left (days_any _ _ _ (hE.1.under (below_drewN T.below _)))))
      go_wp2_with fail
      refine (awake_from _ hE (below_drewN T.below _)).mono ?_
      rintro e w9 ⟨rfl, g9⟩
      go_wp2_with fail
      go_ret
      exact ⟨rfl, g9⟩
    · skip
      go_upto_region 17 with fail
      refine forget (Two w g g' y' m' d 24 0 y' m' (d + 1) 0 0) (((T.set4 _).set3 _).set4 _) ?_
      clear k0 k1 k2 k3 k4 f0 f1 f2 f3 f4 q0 q1 q2 q3 q4 T Y
      intro Y T
      obtain ⟨⟨⟨k0, k1, k2, k3, k4⟩, f0, f1, f2, f3, f4⟩, q0, q1, q2, q3, q4⟩ := T.facts
      go_upto_region 19 with fail
      refine forget (Two w g g' y' m' (d + 1) 0 0 y' m' (d + 1) 0 0) ((T.set2 _).set3 _) ?_
      clear k0 k1 k2 k3 k4 f0 f1 f2 f3 f4 q0 q1 q2 q3 q4 T Y
      intro Y T
      obtain ⟨⟨⟨k0, k1, k2, k3, k4⟩, f0, f1, f2, f3, f4⟩, q0, q1, q2, q3, q4⟩ := T.facts
      go_quiet ((go_at_call 16; exact quiet_left (days_any _ _ _ (hE.1.under (below_drewN T.below _)))))
      go_wp2_with fail
      refine (awake_from _ hE (below_drewN T.below _)).mono ?_
      rintro e w9 ⟨rfl, g9⟩
      go_wp2_with fail
      go_ret
      exact ⟨rfl, g9⟩
    · skip
      go_upto_region 17 with fail
      refine forget (Two w g g' y' m d 24 0 y' (m + 1) 1 0 0) (((T.set4 _).set3 _).set4 _) ?_
      clear k0 k1 k2 k3 k4 f0 f1 f2 f3 f4 q0 q1 q2 q3 q4 T Y
      intro Y T
      obtain ⟨⟨⟨k0, k1, k2, k3, k4⟩, f0, f1, f2, f3, f4⟩, q0, q1, q2, q3, q4⟩ := T.facts
      go_upto_region 19 with fail
      refine forget (Two w g g' y' m (d + 1) 0 0 y' (m + 1) 1 0 0) ((T.set2 _).set3 _) ?_
      clear k0 k1 k2 k3 k4 f0 f1 f2 f3 f4 q0 q1 q2 q3 q4 T Y
      intro Y T
      obtain ⟨⟨⟨k0, k1, k2, k3, k4⟩, f0, f1, f2, f3, f4⟩, q0, q1, q2, q3, q4⟩ := T.facts
      go_quiet ((go_at_call 16; exact quiet_left (days_any _ _ _ (hE.1.under (below_drewN T.below _)))))
      go_upto_region 21 with fail
      refine forget (Two w g g' y' (m + 1) 1 0 0 y' (m + 1) 1 0 0) (((T.set1 _).set2 _).drewN _) ?_
      clear k0 k1 k2 k3 k4 f0 f1 f2 f3 f4 q0 q1 q2 q3 q4 T Y
      intro Y T
      obtain ⟨⟨⟨k0, k1, k2, k3, k4⟩, f0, f1, f2, f3, f4⟩, q0, q1, q2, q3, q4⟩ := T.facts
      go_wp2_with fail
      refine (awake_from _ hE (T.below)).mono ?_
      rintro e w9 ⟨rfl, g9⟩
      go_wp2_with fail
      go_ret
      exact ⟨rfl, g9⟩
    · skip
      go_upto_region 17 with fail
      refine forget (Two w g g' y 12 d 24 0 (y + 1) 1 1 0 0) (((T.set4 _).set3 _).set4 _) ?_
      clear k0 k1 k2 k3 k4 f0 f1 f2 f3 f4 q0 q1 q2 q3 q4 T Y
      intro Y T
      obtain ⟨⟨⟨k0, k1, k2, k3, k4⟩, f0, f1, f2, f3, f4⟩, q0, q1, q2, q3, q4⟩ := T.facts
      go_upto_region 19 with fail
      refine forget (Two w g g' y 12 (d + 1) 0 0 (y + 1) 1 1 0 0) ((T.set2 _).set3 _) ?_
      clear k0 k1 k2 k3 k4 f0 f1 f2 f3 f4 q0 q1 q2 q3 q4 T Y
      intro Y T
      obtain ⟨⟨⟨k0, k1, k2, k3, k4⟩, f0, f1, f2, f3, f4⟩, q0, q1, q2, q3, q4⟩ := T.facts
      go_quiet ((go_at_call 16; exact quiet_left (days_any _ _ _ (hE.1.under (below_drewN T.below _)))))
      go_upto_region 21 with fail
      refine forget (Two w g g' y 13 1 0 0 (y + 1) 1 1 0 0) (((T.set1 _).set2 _).drewN _) ?_
      clear k0 k1 k2 k3 k4 f0 f1 f2 f3 f4 q0 q1 q2 q3 q4 T Y
      intro Y T
      obtain ⟨⟨⟨k0, k1, k2, k3, k4⟩, f0, f1, f2, f3, f4⟩, q0, q1, q2, q3, q4⟩ := T.facts
      go_upto_region 23 with fail
      refine forget (Two w g g' (y + 1) 1 1 0 0 (y + 1) 1 1 0 0) ((T.set0 _).set1 _) ?_
      clear k0 k1 k2 k3 k4 f0 f1 f2 f3 f4 q0 q1 q2 q3 q4 T Y
      intro Y T
      obtain ⟨⟨⟨k0, k1, k2, k3, k4⟩, f0, f1, f2, f3, f4⟩, q0, q1, q2, q3, q4⟩ := T.facts
      go_wp2_with fail
      refine (awake_from _ hE (T.below)).mono ?_
      rintro e w9 ⟨rfl, g9⟩
      go_wp2_with fail
      go_ret
      exact ⟨rfl, g9⟩
end Go.Proofs.YtaohndjlaamdaaaDoor
