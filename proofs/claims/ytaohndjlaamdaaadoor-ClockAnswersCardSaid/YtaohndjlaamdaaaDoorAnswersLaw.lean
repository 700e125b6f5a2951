/- The walk of ClockAnswers: for every date, minute and list the law returns true, and what lay in memory is as it was. -/
import Derived.Test.YtaohndjlaamdaaaDoorAwake
import Derived.Test.YtaohndjlaamdaaaDoorSrc
import Derived.Test.YtaohndjlaamdaaaDoorRefMin
import Derived.Test.YtaohndjlaamdaaaDoorEqs
import Derived.Deep.RegionHeld3
namespace Go.Proofs.YtaohndjlaamdaaaDoor
open Go.RowKit
attribute [local go_sem] eq_civil

theorem Box.undrew {w : World} {g : Nat} {y m d h i : Int} (hB : Box w g y m d h i) : Box w.drew g y m d h i := hB

theorem rng_bd {n : Int} (h : Cal.rng n = true) : 0 ≤ n ∧ n ≤ 52595999 := by unfold Cal.rng at h; simpa using h
/-- A block of two dates. -/
def Ten (w : World) (g : Nat) (a b c d e a' b' c' d' e' : Int) : Prop :=
  w.heap[g]? = some (.cells #[.int .i64 a, .int .i64 b, .int .i64 c, .int .i64 d, .int .i64 e, .int .i64 a', .int .i64 b', .int .i64 c', .int .i64 d', .int .i64 e'] 23 (0, 0))
section
variable {w w' : World} {g : Nat} {a b c d e a' b' c' d' e' : Int}
theorem Ten.lt (hB : Ten w g a b c d e a' b' c' d' e') : g < w.heap.size := by
  rcases Nat.lt_or_ge g w.heap.size with hlt | hge
  · exact hlt
  · unfold Ten at hB; rw [Array.getElem?_eq_none hge] at hB; cases hB
theorem Ten.under (hB : Ten w g a b c d e a' b' c' d' e') (hb : Below w.heap.size w w') : Ten w' g a b c d e a' b' c' d' e' := (hb.block g hB.lt).trans hB
theorem Ten.facts (hB : Ten w g a b c d e a' b' c' d' e') :
    (w.cell? ⟨g, 0, none⟩ = some (.int .i64 a) ∧ w.cell? ⟨g, 1, none⟩ = some (.int .i64 b) ∧ w.cell? ⟨g, 2, none⟩ = some (.int .i64 c) ∧ w.cell? ⟨g, 3, none⟩ = some (.int .i64 d) ∧ w.cell? ⟨g, 4, none⟩ = some (.int .i64 e)) ∧
    (w.cell? ⟨g, 5, none⟩ = some (.int .i64 a') ∧ w.cell? ⟨g, 6, none⟩ = some (.int .i64 b') ∧ w.cell? ⟨g, 7, none⟩ = some (.int .i64 c') ∧ w.cell? ⟨g, 8, none⟩ = some (.int .i64 d') ∧ w.cell? ⟨g, 9, none⟩ = some (.int .i64 e')) := by
  unfold Ten at hB
  simp [World.cell?, hB]
end
/-- A block of two numbers. -/
def Pair (w : World) (g : Nat) (a b : Int) : Prop := w.heap[g]? = some (.cells #[.int .i64 a, .int .i64 b] 3 (0, 0))
section
variable {w w' : World} {g : Nat} {a b : Int}
theorem Pair.lt (hB : Pair w g a b) : g < w.heap.size := by
  rcases Nat.lt_or_ge g w.heap.size with hlt | hge
  · exact hlt
  · unfold Pair at hB; rw [Array.getElem?_eq_none hge] at hB; cases hB
theorem Pair.under (hB : Pair w g a b) (hb : Below w.heap.size w w') : Pair w' g a b := (hb.block g hB.lt).trans hB
theorem Pair.facts (hB : Pair w g a b) : w.cell? ⟨g, 0, none⟩ = some (.int .i64 a) ∧ w.cell? ⟨g, 1, none⟩ = some (.int .i64 b) := by
  unfold Pair at hB
  simp [World.cell?, hB]
end
set_option maxRecDepth 100000 in
set_option maxHeartbeats 4000000 in
theorem clockAnswers_any (cy cm cd ch ci n : Int) (v : Value) (w : World) (hE : Env w) (hl : ListIn w v) :
    Calls Tryd.prog 3 #[.agg #[.int .i64 cy, .int .i64 cm, .int .i64 cd, .int .i64 ch, .int .i64 ci], .int .i64 n, v] w fun e w' => e = .returned (.bool true) ∧ Below w.heap.size w w' := by
  go_enter Tryd.func3, Tryd.ntmps3
  go_upto_region 1 with fail
  refine forget (fun Y => Below w.heap.size w Y ∧ Box Y w.heap.size cy cm cd ch ci ∧ w.heap.size < Y.heap.size) ⟨(Below.refl _ _).alloc (Nat.le_refl _) _, Box.new _ _ _ _ _ _, by simp⟩ ?_
  rintro W ⟨bW, BW, hW⟩
  have hEW := hE.under bW
  have hlW := hl.under bW
  go_wp2_with fail
  refine (new_any _ _ hlW).mono ?_
  rintro e w1 ⟨rfl, s1, -⟩
  go_wp2_with fail
  refine (range_any _ _ _ _ _ s1 (by omega) (by omega) (by omega) (by omega)).mono ?_
  rintro e w2 ⟨dy, -, rfl, s2, -⟩
  go_wp2_with fail
  refine (range_any _ _ _ _ _ s2 (by omega) (by omega) (by omega) (by omega)).mono ?_
  rintro e w3 ⟨dm, -, rfl, s3, -⟩
  go_wp2_with fail
  refine (range_any _ _ _ _ _ s3 (by omega) (by omega) (by omega) (by omega)).mono ?_
  rintro e w4 ⟨dd, -, rfl, s4, -⟩
  go_wp2_with fail
  refine (range_any _ _ _ _ _ s4 (by omega) (by omega) (by omega) (by omega)).mono ?_
  rintro e w5 ⟨dh, -, rfl, s5, -⟩
  go_wp2_with fail
  refine (range_any _ _ _ _ _ s5 (by omega) (by omega) (by omega) (by omega)).mono ?_
  rintro e w6 ⟨di, -, rfl, s6, -⟩
  clear s1 s2 s3 s4 s5
  have B6 : Box w6 w.heap.size cy cm cd ch ci := (s6.below.block _ hW).trans BW
  go_upto_region 3 with fail
  refine forget (fun Y => Src W W.heap.size Y ∧ Box Y w.heap.size cy cm cd ch ci ∧ Box Y w6.heap.size dy dm dd dh di) ⟨s6.under ((Below.refl _ _).alloc (Nat.le_refl _) _), B6.alloc _, Box.new _ _ _ _ _ _⟩ ?_
  clear s6 B6 BW
  generalize w6.heap.size = gd
  rintro Y ⟨sY, Bc, Bd⟩
  obtain ⟨⟨k0, k1, k2, k3, k4⟩, -⟩ := Bc.facts
  obtain ⟨⟨q0, q1, q2, q3, q4⟩, -⟩ := Bd.facts
  have hbY : Below W.heap.size W Y := sY.below
  go_wp2_with fail
  have sr0 := sY.under ((Below.refl _ _).alloc (Nat.le_refl _) (.cells #[.int .i64 cy, .int .i64 cm, .int .i64 cd, .int .i64 ch, .int .i64 ci, .int .i64 dy, .int .i64 dm, .int .i64 dd, .int .i64 dh, .int .i64 di] 23))
  have Tr0 : Ten (Y.alloc (.cells #[.int .i64 cy, .int .i64 cm, .int .i64 cd, .int .i64 ch, .int .i64 ci, .int .i64 dy, .int .i64 dm, .int .i64 dd, .int .i64 dh, .int .i64 di] 23)) Y.heap.size cy cm cd ch ci dy dm dd dh di := heap_alloc_new Y _
  generalize Y.heap.size = g at *
  generalize Y.alloc _ = Y1 at *
  clear sY Bc Bd k0 k1 k2 k3 k4 q0 q1 q2 q3 q4 hbY Y
  go_loopw [38] (fun q wr => ∃ k : Int, q = .int .i64 k ∧ 0 ≤ k ∧ k ≤ 2 ∧ Src W W.heap.size wr ∧ Ten wr g cy cm cd ch ci dy dm dd dh di) (fun q _ => (2 - intOf q).toNat)
  case atStart => exact ⟨0, rfl, by omega, by omega, sr0, Tr0⟩
  case round =>
    clear sr0 Tr0
    obtain ⟨k, rfl, k1, k2, sr, Tr⟩ := hrel
    obtain ⟨⟨r0, r1, r2, r3, r4⟩, r5, r6, r7, r8, r9⟩ := Tr.facts
    have hk : k = 0 ∨ k = 1 ∨ k = 2 := by omega
    rcases hk with rfl | rfl | rfl
    · clear k1 k2
      rcases hv : Cal.vld cy cm cd ch ci with _ | _
      · go_upto_region 6 with fail
        refine forget (fun Z => Src W W.heap.size Z ∧ Ten Z g cy cm cd ch ci dy dm dd dh di ∧ Box Z wr.heap.size cy cm cd ch ci) ⟨sr.under ((Below.refl _ _).alloc (Nat.le_refl _) _), Tr.under ((Below.refl _ _).alloc (Nat.le_refl _) _), Box.new _ _ _ _ _ _⟩ ?_
        clear Tr sr r0 r1 r2 r3 r4 r5 r6 r7 r8 r9
        generalize wr.heap.size = gx
        rintro Z ⟨sZ, TZ, BZ⟩
        obtain ⟨⟨k0, k1, k2, k3, k4⟩, -⟩ := BZ.facts
        go_wp2_with fail
        refine (minutes_no _ _ _ _ _ _ (hEW.under sZ.below).1 hv).mono ?_
        rintro e1 w7 ⟨rfl, g7⟩
        have s7 := sZ.under g7; have T7 := TZ.under g7; have B7 := BZ.under g7
        clear sZ TZ BZ g7 k0 k1 k2 k3 k4
        obtain ⟨⟨k0, k1, k2, k3, k4⟩, -⟩ := B7.facts
        go_wp2_with fail
        refine (refMinutes_no _ _ _ _ _ _ hv).mono ?_
        rintro e2 w8 ⟨rfl, g8⟩
        have s8 := s7.under g8; have T8 := T7.under g8; have B8 := B7.under g8
        clear s7 T7 B7 g8 k0 k1 k2 k3 k4
        obtain ⟨⟨k0, k1, k2, k3, k4⟩, -⟩ := B8.facts
        have hE8 := hEW.under s8.below
        go_wp2_with fail
        go_region_held3 (fun w' => w'.cell? ⟨gx, 0, none⟩ = some (.int .i64 cy) ∧ w'.cell? ⟨gx, 1, none⟩ = some (.int .i64 cm) ∧ w'.cell? ⟨gx, 2, none⟩ = some (.int .i64 cd) ∧ w'.cell? ⟨gx, 3, none⟩ = some (.int .i64 ch) ∧ w'.cell? ⟨gx, 4, none⟩ = some (.int .i64 ci))
          (first | go_keep | exact ((B8.under (undrew hb9)).under hb10).facts.1 | exact (B8.under (undrew hb9)).facts.1)
          (first | (go_at_call 14; refine (valid_any _ _ _ _ _ _ hE8.1.drew).mono ?_; rintro e w9 ⟨rfl, hb9⟩) | (go_at_call 15; refine (refValid_any _ _ _ _ _ _).mono ?_; rintro e w10 ⟨rfl, hb10⟩) | (go_at_call 16; refine (days_any _ _ _ ((hE8.1.under (undrew hb9)).under hb10)).mono ?_; rintro e w11 ⟨rfl, rfl⟩) | (go_at_call 17; refine (refDays_any _ _ _).mono ?_; rintro e w12 ⟨rfl, rfl⟩))
        have s10 := (s8.under (undrew hb9)).under hb10; have T10 := (T8.under (undrew hb9)).under hb10
        clear s8 T8 B8 hE8 hb9 hb10 k0 k1 k2 k3 k4
        go_wp2_with fail
        go_roundw
        case rel => exact ⟨1, rfl, by omega, by omega, s10, T10⟩
        case measure => simp [intOf]
      · go_upto_region 6 with fail
        refine forget (fun Z => Src W W.heap.size Z ∧ Ten Z g cy cm cd ch ci dy dm dd dh di ∧ Box Z wr.heap.size cy cm cd ch ci) ⟨sr.under ((Below.refl _ _).alloc (Nat.le_refl _) _), Tr.under ((Below.refl _ _).alloc (Nat.le_refl _) _), Box.new _ _ _ _ _ _⟩ ?_
        clear Tr sr r0 r1 r2 r3 r4 r5 r6 r7 r8 r9
        generalize wr.heap.size = gx
        rintro Z ⟨sZ, TZ, BZ⟩
        obtain ⟨⟨k0, k1, k2, k3, k4⟩, -⟩ := BZ.facts
        go_wp2_with fail
        refine (minutes_yes _ _ _ _ _ _ (hEW.under sZ.below).1 hv).mono ?_
        rintro e1 w7 ⟨rfl, g7⟩
        have s7 := sZ.under g7; have T7 := TZ.under g7; have B7 := BZ.under g7
        clear sZ TZ BZ g7 k0 k1 k2 k3 k4
        obtain ⟨⟨k0, k1, k2, k3, k4⟩, -⟩ := B7.facts
        go_wp2_with fail
        refine (refMinutes_yes _ _ _ _ _ _ hv).mono ?_
        rintro e2 w8 ⟨rfl, g8⟩
        have s8 := s7.under g8; have T8 := T7.under g8; have B8 := B7.under g8
        clear s7 T7 B7 g8 k0 k1 k2 k3 k4
        obtain ⟨⟨k0, k1, k2, k3, k4⟩, -⟩ := B8.facts
        have hE8 := hEW.under s8.below
        go_wp2_with fail
        go_region_held3 (fun w' => w'.cell? ⟨gx, 0, none⟩ = some (.int .i64 cy) ∧ w'.cell? ⟨gx, 1, none⟩ = some (.int .i64 cm) ∧ w'.cell? ⟨gx, 2, none⟩ = some (.int .i64 cd) ∧ w'.cell? ⟨gx, 3, none⟩ = some (.int .i64 ch) ∧ w'.cell? ⟨gx, 4, none⟩ = some (.int .i64 ci))
          (first | go_keep | exact ((B8.under (undrew hb9)).under hb10).facts.1 | exact (B8.under (undrew hb9)).facts.1)
          (first | (go_at_call 14; refine (valid_any _ _ _ _ _ _ hE8.1.drew).mono ?_; rintro e w9 ⟨rfl, hb9⟩) | (go_at_call 15; refine (refValid_any _ _ _ _ _ _).mono ?_; rintro e w10 ⟨rfl, hb10⟩) | (go_at_call 16; refine (days_any _ _ _ ((hE8.1.under (undrew hb9)).under hb10)).mono ?_; rintro e w11 ⟨rfl, rfl⟩) | (go_at_call 17; refine (refDays_any _ _ _).mono ?_; rintro e w12 ⟨rfl, rfl⟩))
        have s10 := (s8.under (undrew hb9)).under hb10; have T10 := (T8.under (undrew hb9)).under hb10
        clear s8 T8 B8 hE8 hb9 hb10 k0 k1 k2 k3 k4
        go_wp2_with fail
        go_roundw
        case rel => exact ⟨1, rfl, by omega, by omega, s10, T10⟩
        case measure => simp [intOf]
    · clear k1 k2
      rcases hv : Cal.vld dy dm dd dh di with _ | _
      · go_upto_region 6 with fail
        refine forget (fun Z => Src W W.heap.size Z ∧ Ten Z g cy cm cd ch ci dy dm dd dh di ∧ Box Z wr.heap.size dy dm dd dh di) ⟨sr.under ((Below.refl _ _).alloc (Nat.le_refl _) _), Tr.under ((Below.refl _ _).alloc (Nat.le_refl _) _), Box.new _ _ _ _ _ _⟩ ?_
        clear Tr sr r0 r1 r2 r3 r4 r5 r6 r7 r8 r9
        generalize wr.heap.size = gx
        rintro Z ⟨sZ, TZ, BZ⟩
        obtain ⟨⟨k0, k1, k2, k3, k4⟩, -⟩ := BZ.facts
        go_wp2_with fail
        refine (minutes_no _ _ _ _ _ _ (hEW.under sZ.below).1 hv).mono ?_
        rintro e1 w7 ⟨rfl, g7⟩
        have s7 := sZ.under g7; have T7 := TZ.under g7; have B7 := BZ.under g7
        clear sZ TZ BZ g7 k0 k1 k2 k3 k4
        obtain ⟨⟨k0, k1, k2, k3, k4⟩, -⟩ := B7.facts
        go_wp2_with fail
        refine (refMinutes_no _ _ _ _ _ _ hv).mono ?_
        rintro e2 w8 ⟨rfl, g8⟩
        have s8 := s7.under g8; have T8 := T7.under g8; have B8 := B7.under g8
        clear s7 T7 B7 g8 k0 k1 k2 k3 k4
        obtain ⟨⟨k0, k1, k2, k3, k4⟩, -⟩ := B8.facts
        have hE8 := hEW.under s8.below
        go_wp2_with fail
        go_region_held3 (fun w' => w'.cell? ⟨gx, 0, none⟩ = some (.int .i64 dy) ∧ w'.cell? ⟨gx, 1, none⟩ = some (.int .i64 dm) ∧ w'.cell? ⟨gx, 2, none⟩ = some (.int .i64 dd) ∧ w'.cell? ⟨gx, 3, none⟩ = some (.int .i64 dh) ∧ w'.cell? ⟨gx, 4, none⟩ = some (.int .i64 di))
          (first | go_keep | exact ((B8.under (undrew hb9)).under hb10).facts.1 | exact (B8.under (undrew hb9)).facts.1)
          (first | (go_at_call 14; refine (valid_any _ _ _ _ _ _ hE8.1.drew).mono ?_; rintro e w9 ⟨rfl, hb9⟩) | (go_at_call 15; refine (refValid_any _ _ _ _ _ _).mono ?_; rintro e w10 ⟨rfl, hb10⟩) | (go_at_call 16; refine (days_any _ _ _ ((hE8.1.under (undrew hb9)).under hb10)).mono ?_; rintro e w11 ⟨rfl, rfl⟩) | (go_at_call 17; refine (refDays_any _ _ _).mono ?_; rintro e w12 ⟨rfl, rfl⟩))
        have s10 := (s8.under (undrew hb9)).under hb10; have T10 := (T8.under (undrew hb9)).under hb10
        clear s8 T8 B8 hE8 hb9 hb10 k0 k1 k2 k3 k4
        go_wp2_with fail
        go_roundw
        case rel => exact ⟨2, rfl, by omega, by omega, s10, T10⟩
        case measure => simp [intOf]
      · go_upto_region 6 with fail
        refine forget (fun Z => Src W W.heap.size Z ∧ Ten Z g cy cm cd ch ci dy dm dd dh di ∧ Box Z wr.heap.size dy dm dd dh di) ⟨sr.under ((Below.refl _ _).alloc (Nat.le_refl _) _), Tr.under ((Below.refl _ _).alloc (Nat.le_refl _) _), Box.new _ _ _ _ _ _⟩ ?_
        clear Tr sr r0 r1 r2 r3 r4 r5 r6 r7 r8 r9
        generalize wr.heap.size = gx
        rintro Z ⟨sZ, TZ, BZ⟩
        obtain ⟨⟨k0, k1, k2, k3, k4⟩, -⟩ := BZ.facts
        go_wp2_with fail
        refine (minutes_yes _ _ _ _ _ _ (hEW.under sZ.below).1 hv).mono ?_
        rintro e1 w7 ⟨rfl, g7⟩
        have s7 := sZ.under g7; have T7 := TZ.under g7; have B7 := BZ.under g7
        clear sZ TZ BZ g7 k0 k1 k2 k3 k4
        obtain ⟨⟨k0, k1, k2, k3, k4⟩, -⟩ := B7.facts
        go_wp2_with fail
        refine (refMinutes_yes _ _ _ _ _ _ hv).mono ?_
        rintro e2 w8 ⟨rfl, g8⟩
        have s8 := s7.under g8; have T8 := T7.under g8; have B8 := B7.under g8
        clear s7 T7 B7 g8 k0 k1 k2 k3 k4
        obtain ⟨⟨k0, k1, k2, k3, k4⟩, -⟩ := B8.facts
        have hE8 := hEW.under s8.below
        go_wp2_with fail
        go_region_held3 (fun w' => w'.cell? ⟨gx, 0, none⟩ = some (.int .i64 dy) ∧ w'.cell? ⟨gx, 1, none⟩ = some (.int .i64 dm) ∧ w'.cell? ⟨gx, 2, none⟩ = some (.int .i64 dd) ∧ w'.cell? ⟨gx, 3, none⟩ = some (.int .i64 dh) ∧ w'.cell? ⟨gx, 4, none⟩ = some (.int .i64 di))
          (first | go_keep | exact ((B8.under (undrew hb9)).under hb10).facts.1 | exact (B8.under (undrew hb9)).facts.1)
          (first | (go_at_call 14; refine (valid_any _ _ _ _ _ _ hE8.1.drew).mono ?_; rintro e w9 ⟨rfl, hb9⟩) | (go_at_call 15; refine (refValid_any _ _ _ _ _ _).mono ?_; rintro e w10 ⟨rfl, hb10⟩) | (go_at_call 16; refine (days_any _ _ _ ((hE8.1.under (undrew hb9)).under hb10)).mono ?_; rintro e w11 ⟨rfl, rfl⟩) | (go_at_call 17; refine (refDays_any _ _ _).mono ?_; rintro e w12 ⟨rfl, rfl⟩))
        have s10 := (s8.under (undrew hb9)).under hb10; have T10 := (T8.under (undrew hb9)).under hb10
        clear s8 T8 B8 hE8 hb9 hb10 k0 k1 k2 k3 k4
        go_wp2_with fail
        go_roundw
        case rel => exact ⟨2, rfl, by omega, by omega, s10, T10⟩
        case measure => simp [intOf]
    · clear k1 k2 Tr r0 r1 r2 r3 r4 r5 r6 r7 r8 r9
      go_wp2_with fail
      refine (minute_any _ _ _ sr).mono ?_
      rintro e w7 ⟨mi, ⟨mi1, mi2⟩, rfl, s7, -⟩
      go_wp2_with fail
      have sr0 := s7.under ((Below.refl _ _).alloc (Nat.le_refl _) (.cells #[.int .i64 n, .int .i64 mi] 3))
      have Pr0 : Pair (w7.alloc (.cells #[.int .i64 n, .int .i64 mi] 3)) w7.heap.size n mi := heap_alloc_new w7 _
      generalize w7.heap.size = g2 at *
      generalize w7.alloc _ = Y2 at *
      clear s7 sr w7 wr
      go_loopw [86] (fun q wr => ∃ k : Int, q = .int .i64 k ∧ 0 ≤ k ∧ k ≤ 2 ∧ Src W W.heap.size wr ∧ Pair wr g2 n mi) (fun q _ => (2 - intOf q).toNat)
      case atStart => exact ⟨0, rfl, by omega, by omega, sr0, Pr0⟩
      case round =>
        clear sr0 Pr0
        obtain ⟨k, rfl, k1, k2, sr, Pr⟩ := hrel
        obtain ⟨r0, r1⟩ := Pr.facts
        have hk : k = 0 ∨ k = 1 ∨ k = 2 := by omega
        rcases hk with rfl | rfl | rfl
        · clear k1 k2
          rcases hx : Cal.rng n with _ | _
          · skip
            go_wp2_with fail
            refine (date_no _ _ hx).mono ?_
            rintro e1 w8 ⟨rfl, g8⟩
            have s8 := sr.under g8; have P8 := Pr.under g8
            clear sr Pr g8 r0 r1
            go_wp2_with fail
            refine (refDate_no _ _ hx).mono ?_
            rintro e2 w9 ⟨rfl, g9⟩
            have hlt : w8.heap.size < w9.heap.size := by have := g9.size; simp at this; omega
            obtain ⟨⟨k0, k1, k2, k3, k4⟩, g9'⟩ := box5 g9
            have s9 := (s8.under g9').under ((Below.refl _ _).alloc (Nat.le_refl _) (.cells #[.int .i64 0, .int .i64 0, .int .i64 0, .int .i64 0, .int .i64 0] 23))
            have P9 := (P8.under g9').under ((Below.refl _ _).alloc (Nat.le_refl _) (.cells #[.int .i64 0, .int .i64 0, .int .i64 0, .int .i64 0, .int .i64 0] 23))
            clear s8 P8 g9 g9'
            go_wp2_with fail
            go_roundw
            case rel => exact ⟨1, rfl, by omega, by omega, s9, P9⟩
            case measure => simp [intOf]
          · skip
            obtain ⟨y, m, d, h, i, hv, hn, -⟩ := Cal.num_of n (rng_bd hx).1 (rng_bd hx).2
            have N := Lib.hid hn
            clear hn
            go_wp2_with fail
            refine (date_yes _ _ _ _ _ _ _ (hEW.under sr.below).1 N.out hv).mono ?_
            rintro e1 w8 ⟨rfl, g8⟩
            have s8 := sr.under g8; have P8 := Pr.under g8
            clear sr Pr g8 r0 r1
            go_wp2_with fail
            refine (refDate_yes _ _ _ _ _ _ _ N.out hv).mono ?_
            rintro e2 w9 ⟨rfl, g9⟩
            have hlt : w8.heap.size < w9.heap.size := by have := g9.size; simp at this; omega
            obtain ⟨⟨k0, k1, k2, k3, k4⟩, g9'⟩ := box5 g9
            have s9 := (s8.under g9').under ((Below.refl _ _).alloc (Nat.le_refl _) (.cells #[.int .i64 y, .int .i64 m, .int .i64 d, .int .i64 h, .int .i64 i] 23))
            have P9 := (P8.under g9').under ((Below.refl _ _).alloc (Nat.le_refl _) (.cells #[.int .i64 y, .int .i64 m, .int .i64 d, .int .i64 h, .int .i64 i] 23))
            clear s8 P8 g9 g9'
            go_wp2_with fail
            go_roundw
            case rel => exact ⟨1, rfl, by omega, by omega, s9, P9⟩
            case measure => simp [intOf]
        · clear k1 k2
          have hx : Cal.rng mi = true := Cal.rng_yes mi1 mi2
          obtain ⟨y, m, d, h, i, hv, hn, -⟩ := Cal.num_of mi (rng_bd hx).1 (rng_bd hx).2
          have N := Lib.hid hn
          clear hn
          go_wp2_with fail
          refine (date_yes _ _ _ _ _ _ _ (hEW.under sr.below).1 N.out hv).mono ?_
          rintro e1 w8 ⟨rfl, g8⟩
          have s8 := sr.under g8; have P8 := Pr.under g8
          clear sr Pr g8 r0 r1
          go_wp2_with fail
          refine (refDate_yes _ _ _ _ _ _ _ N.out hv).mono ?_
          rintro e2 w9 ⟨rfl, g9⟩
          have hlt : w8.heap.size < w9.heap.size := by have := g9.size; simp at this; omega
          obtain ⟨⟨k0, k1, k2, k3, k4⟩, g9'⟩ := box5 g9
          have s9 := (s8.under g9').under ((Below.refl _ _).alloc (Nat.le_refl _) (.cells #[.int .i64 y, .int .i64 m, .int .i64 d, .int .i64 h, .int .i64 i] 23))
          have P9 := (P8.under g9').under ((Below.refl _ _).alloc (Nat.le_refl _) (.cells #[.int .i64 y, .int .i64 m, .int .i64 d, .int .i64 h, .int .i64 i] 23))
          clear s8 P8 g9 g9'
          go_wp2_with fail
          go_roundw
          case rel => exact ⟨2, rfl, by omega, by omega, s9, P9⟩
          case measure => simp [intOf]
        · have bf : Below w.heap.size w wr := bW.trans (sr.below.mono bW.size)
          go_wp2_with fail
          refine (awake_from _ hE bf).mono ?_
          rintro e w9 ⟨rfl, g9⟩
          go_wp2_with fail
          go_ret
          exact ⟨rfl, g9⟩
end Go.Proofs.YtaohndjlaamdaaaDoor
