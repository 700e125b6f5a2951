/- The walk of ClockOrder: for every list the law returns true, and what lay in memory is as it was. -/
import Derived.Test.YtaohndjlaamdaaaDoorAwake
import Derived.Test.YtaohndjlaamdaaaDoorSrc
import Derived.Test.YtaohndjlaamdaaaDoorBox
import Derived.Test.YtaohndjlaamdaaaDoorLexi
import Derived.Deep.Cut
import Derived.Deep.CutRange
import Derived.Deep.RegionHeld3
import Derived.Laws.StructEq
namespace Go.Proofs.YtaohndjlaamdaaaDoor
open Go.RowKit

theorem row_cell {w : World} {g : Nat} {t : TypeId} {cs : Array Value} (h : w.heap[g]? = some (.cells cs t (0, 0))) (j : Nat) : w.cell? ⟨g, j, none⟩ = cs[j]? := by simp [World.cell?, h]
theorem seven_pick {r q : Int} (a1 : -60000 ≤ r) (a2 : r ≤ 60000) (a3 : 0 ≤ q) (a4 : q < 16777216) (w : World) (t : TypeId) (i : Nat) (hi : i < 7) :
    ∃ x, (w.alloc (.cells #[.int .i64 0, .int .i64 1, .int .i64 (-1), .int .i64 60, .int .i64 1440, .int .i64 r, .int .i64 q] t)).cell? ⟨w.heap.size, i, none⟩ = some (.int .i64 x) ∧ (-60000 ≤ x ∧ x ≤ 16777216) := by
  have h := heap_alloc_new w (.cells #[.int .i64 0, .int .i64 1, .int .i64 (-1), .int .i64 60, .int .i64 1440, .int .i64 r, .int .i64 q] t)
  have hc : ∀ j, (w.alloc (.cells #[.int .i64 0, .int .i64 1, .int .i64 (-1), .int .i64 60, .int .i64 1440, .int .i64 r, .int .i64 q] t)).cell? ⟨w.heap.size, j, none⟩ = (#[.int .i64 0, .int .i64 1, .int .i64 (-1), .int .i64 60, .int .i64 1440, .int .i64 r, .int .i64 q] : Array Value)[j]? := fun j => row_cell h j
  match i, hi with
  | 0, _ => exact ⟨0, hc 0, by omega, by omega⟩
  | 1, _ => exact ⟨1, hc 1, by omega, by omega⟩
  | 2, _ => exact ⟨-1, hc 2, by omega, by omega⟩
  | 3, _ => exact ⟨60, hc 3, by omega, by omega⟩
  | 4, _ => exact ⟨1440, hc 4, by omega, by omega⟩
  | 5, _ => exact ⟨r, hc 5, by omega, by omega⟩
  | 6, _ => exact ⟨q, hc 6, by omega, by omega⟩

/-- An array of five numbers, known whole. -/
def Arr (w : World) (g : Nat) (a b c d e : Int) : Prop := w.heap[g]? = some (.cells #[.int .i64 a, .int .i64 b, .int .i64 c, .int .i64 d, .int .i64 e] 53 (0, 0))
theorem Arr.facts {w : World} {g : Nat} {a b c d e : Int} (h : Arr w g a b c d e) :
    w.cell? ⟨g, 0, none⟩ = some (.int .i64 a) ∧ w.cell? ⟨g, 1, none⟩ = some (.int .i64 b) ∧ w.cell? ⟨g, 2, none⟩ = some (.int .i64 c) ∧ w.cell? ⟨g, 3, none⟩ = some (.int .i64 d) ∧ w.cell? ⟨g, 4, none⟩ = some (.int .i64 e) := by
  unfold Arr at h
  simp [World.cell?, h]
theorem Arr.drew {w : World} {g : Nat} {a b c d e : Int} (h : Arr w g a b c d e) : Arr w.drew g a b c d e := h
theorem Arr.newAt {w : World} {g : Nat} (hg : w.heap.size = g) (a b c d e : Int) : Arr (w.alloc (.cells #[.int .i64 a, .int .i64 b, .int .i64 c, .int .i64 d, .int .i64 e] 53)) g a b c d e := hg ▸ heap_alloc_new w _
theorem Arr.lt {w : World} {g : Nat} {a b c d e : Int} (hB : Arr w g a b c d e) : g < w.heap.size := by
  rcases Nat.lt_or_ge g w.heap.size with hlt | hge
  · exact hlt
  · unfold Arr at hB; rw [Array.getElem?_eq_none hge] at hB; cases hB
theorem Arr.under {w w' : World} {g : Nat} {a b c d e : Int} (hB : Arr w g a b c d e) (hb : Below w.heap.size w w') : Arr w' g a b c d e := (hb.block g hB.lt).trans hB
theorem Arr.drewN {w : World} {g : Nat} {a b c d e : Int} (h : Arr w g a b c d e) (n : Nat) : Arr (w.drewN n) g a b c d e := h
theorem cells10 {w : World} {g g' : Nat} {a b c d e a' b' c' d' e' : Int} (h : Arr w g a b c d e) (h' : Arr w g' a' b' c' d' e') :
    w.cell? ⟨g, 0, none⟩ = some (.int .i64 a) ∧ w.cell? ⟨g, 1, none⟩ = some (.int .i64 b) ∧ w.cell? ⟨g, 2, none⟩ = some (.int .i64 c) ∧ w.cell? ⟨g, 3, none⟩ = some (.int .i64 d) ∧ w.cell? ⟨g, 4, none⟩ = some (.int .i64 e) ∧
    w.cell? ⟨g', 0, none⟩ = some (.int .i64 a') ∧ w.cell? ⟨g', 1, none⟩ = some (.int .i64 b') ∧ w.cell? ⟨g', 2, none⟩ = some (.int .i64 c') ∧ w.cell? ⟨g', 3, none⟩ = some (.int .i64 d') ∧ w.cell? ⟨g', 4, none⟩ = some (.int .i64 e') := by
  obtain ⟨x0, x1, x2, x3, x4⟩ := h.facts
  exact ⟨x0, x1, x2, x3, x4, h'.facts⟩
/-- Two arrays are compared number by number. -/
theorem eq_arr (a b c d e a' b' c' d' e' : Int) (w : World) :
    (Op.equalIn 10000 53 (.agg #[.int .i64 a, .int .i64 b, .int .i64 c, .int .i64 d, .int .i64 e]) (.agg #[.int .i64 a', .int .i64 b', .int .i64 c', .int .i64 d', .int .i64 e'])).run Tryd.prog w = .ok (a == a' && b == b' && c == c' && d == d' && e == e') w := by
  have u3 := Tryd.underlying3
  have a3 := Tryd.isAgg3
  have z3 := Tryd.sizeOf3
  rw [show (10000 : Nat) = 9999 + 1 from rfl, Op.equalIn]
  simp only [Sem.run_bind, run_underlying Tryd.underlying53, Result.andThen_ok]
  simp only [Std.Legacy.Range.forIn_eq_forIn_range', Std.Legacy.Range.size, Nat.sub_zero, Nat.add_sub_cancel, Nat.div_one, List.range'_succ, List.range'_zero, List.forIn_cons, List.forIn_nil]
  go_simp
  by_cases h1 : a = a' <;> by_cases h2 : b = b' <;> by_cases h3 : c = c' <;> by_cases h4 : d = d' <;> by_cases h5 : e = e' <;> simp [h1, h2, h3, h4, h5]
attribute [local go_sem] eq_arr
set_option maxRecDepth 100000 in
set_option maxHeartbeats 4000000 in
theorem clockOrder_any (v : Value) (w : World) (hE : Env w) (hl : ListIn w v) :
    Calls Tryd.prog 9 #[v] w fun e w' => e = .returned (.bool true) ∧ Below w.heap.size w w' := by
  go_enter Tryd.func9, Tryd.ntmps9
  go_wp2_with fail
  refine (new_any _ _ hl).mono ?_
  rintro e w1 ⟨rfl, s1, -⟩
  go_wp2_with fail
  refine (minute_any _ _ _ s1).mono ?_
  rintro e w2 ⟨n, ⟨n1, n2⟩, rfl, s2, -⟩
  go_upto_region 3 with fail
  go_cut [5] from 21 to 32 (fun s wc => ∃ k : Int, s = .int .i64 k ∧ 0 ≤ k ∧ k ≤ 52595999 ∧ Below w.heap.size w wc)
  case first =>
    go_wp2_with fail
    refine (range_any _ _ _ _ _ s2 (by omega) (by omega) (by omega) (by omega)).mono ?_
    rintro e w3 ⟨r, ⟨r1, r2⟩, rfl, s3, -⟩
    go_wp2_with fail
    refine (raw_any _ _ _ s3).mono ?_
    rintro e w4 ⟨q', hq, rfl, s4, -⟩
    go_wp2_with fail
    refine (mod_any _ _ _ hq (by omega) (by omega)).mono ?_
    rintro e w5 ⟨rfl, rfl⟩
    have o7 : 0 ≤ q' % 16777216 := Int.emod_nonneg _ (by omega)
    have o8 : q' % 16777216 < 16777216 := Int.emod_lt_of_pos _ (by omega)
    clear hq
    generalize q' % 16777216 = q at *
    go_wp2_with fail
    refine (pick_any (fun x => -60000 ≤ x ∧ x ≤ 16777216) _ _ _ _ 7 7 (s4.under ((Below.refl _ _).alloc (Nat.le_refl _) _)) (by omega) (by omega) ?_ (by simp) (seven_pick r1 r2 o7 o8 _ _)).mono ?_
    · have := s4.below.size
      have h4 := s4.row
      obtain ⟨_, _, _, _, _, _, h5, _⟩ := h4
      intro e
      rw [← e, Array.getElem?_eq_none (Nat.le_refl _)] at h5
      cases h5
    rintro e w6 ⟨x, ⟨x1, x2⟩, rfl, s6, -⟩
    go_wp2_with fail
    all_goals go_meet
    all_goals exact ⟨_, rfl, by omega, by omega, s6.below⟩
  case rest =>
    obtain ⟨k, rfl, k1, k2, bc⟩ := hcut
    clear s1 s2
    obtain ⟨y, m, d, h, i, hv, hn, -⟩ := Cal.num_of n n1 n2
    obtain ⟨y', m', d', h', i', hv', hk, -⟩ := Cal.num_of k k1 k2
    have N := Lib.hid hn; clear hn
    have K := Lib.hid hk; clear hk
    have hEc := hE.under bc
    go_wp2_with fail
    refine (date_yes _ _ _ _ _ _ _ hEc.1 N.out hv).mono ?_
    rintro e w7 ⟨rfl, g7⟩
    have b7 := (bc.trans (g7.mono bc.size)).alloc (bc.trans (g7.mono bc.size)).size (.cells #[.int .i64 y, .int .i64 m, .int .i64 d, .int .i64 h, .int .i64 i] 23)
    have B7 := Box.new w7 y m d h i
    clear g7
    go_wp2_with fail
    refine (date_yes _ _ _ _ _ _ _ (hE.under b7).1 K.out hv').mono ?_
    rintro e w8 ⟨rfl, g8⟩
    have b8 := (b7.trans (g8.mono b7.size)).alloc (b7.trans (g8.mono b7.size)).size (.cells #[.int .i64 y', .int .i64 m', .int .i64 d', .int .i64 h', .int .i64 i'] 23)
    have B8 := (B7.under g8).alloc (.cells #[.int .i64 y', .int .i64 m', .int .i64 d', .int .i64 h', .int .i64 i'] 23)
    have C8 := Box.new w8 y' m' d' h' i'
    clear g8 b7 B7
    go_wp2_with fail
    refine (format_yes _ _ _ _ _ _ _ (hE.under b8) N.out hv).mono ?_
    rintro e w9 ⟨rfl, g9⟩
    have b9 := b8.trans (g9.mono b8.size); have B9 := B8.under g9; have C9 := C8.under g9
    clear g9 b8 B8 C8
    go_wp2_with fail
    refine (format_yes _ _ _ _ _ _ _ (hE.under b9) K.out hv').mono ?_
    rintro e w10 ⟨rfl, g10⟩
    have b10 := b9.trans (g10.mono b9.size); have B10 := B9.under g10; have C10 := C9.under g10
    clear g10 b9 B9 C9
    generalize w7.heap.size = ga at *
    generalize w8.heap.size = gb at *
    obtain ⟨⟨c0, c1, c2, c3, c4⟩, -⟩ := B10.facts
    obtain ⟨⟨e0, e1, e2, e3, e4⟩, -⟩ := C10.facts
    have la := B10.lt
    have lb := C10.lt
    go_upto_region 10 with fail
    go_cut [14, 15] from 67 to 88 (fun s t wd => ∃ gx gy : Nat, s = .pointer (some ⟨gx, 0, none⟩) ∧ t = .pointer (some ⟨gy, 0, none⟩) ∧ Below w.heap.size w wd ∧ Arr wd gx y m d h i ∧ Arr wd gy y' m' d' h' i')
    case first =>
      go_region_held3 (fun w' => w'.cell? ⟨ga, 0, none⟩ = some (.int .i64 y) ∧ w'.cell? ⟨ga, 1, none⟩ = some (.int .i64 m) ∧ w'.cell? ⟨ga, 2, none⟩ = some (.int .i64 d) ∧ w'.cell? ⟨ga, 3, none⟩ = some (.int .i64 h) ∧ w'.cell? ⟨ga, 4, none⟩ = some (.int .i64 i) ∧
        w'.cell? ⟨gb, 0, none⟩ = some (.int .i64 y') ∧ w'.cell? ⟨gb, 1, none⟩ = some (.int .i64 m') ∧ w'.cell? ⟨gb, 2, none⟩ = some (.int .i64 d') ∧ w'.cell? ⟨gb, 3, none⟩ = some (.int .i64 h') ∧ w'.cell? ⟨gb, 4, none⟩ = some (.int .i64 i'))
        (go_keep) (fail)
      all_goals go_wp2_with fail
      all_goals go_meet
      all_goals first
        | exact ⟨_, _, rfl, rfl, ((b10.alloc b10.size _).alloc (Nat.le_trans b10.size (by simp)) _).drew, (Below.heap_alloc _ _ _ (by simp)).trans (heap_alloc_new w10 _), Arr.drew (Arr.newAt (by simp) _ _ _ _ _)⟩
        | exact ⟨_, _, rfl, rfl, ((b10.alloc b10.size _).alloc (Nat.le_trans b10.size (by simp)) _).drew, Arr.drew (Arr.newAt (by simp) _ _ _ _ _), (Below.heap_alloc _ _ _ (by simp)).trans (heap_alloc_new w10 _)⟩
    case rest =>
    obtain ⟨gx, gy, rfl, rfl, bY, AY, CY⟩ := hcut
    clear c0 c1 c2 c3 c4 e0 e1 e2 e3 e4 la lb B10 C10 b10
    go_wp2_with fail
    by_cases hne : y = y'
    · subst hne
      by_cases hne : m = m'
      · subst hne
        by_cases hne : d = d'
        · subst hne
          by_cases hne : h = h'
          · subst hne
            obtain ⟨ql, qk, qt⟩ := less4 hv hv'
            rw [N.out, K.out] at ql qk qt
            go_loopw [16] (fun s wr => ∃ j : Int, s = .int .i64 j ∧ 0 ≤ j ∧ j ≤ 4 ∧ Below w.heap.size w wr ∧ Arr wr gx y m d h i ∧ Arr wr gy y m d h i') (fun s _ => (10 - intOf s).toNat)
            case atStart => exact ⟨0, rfl, by omega, by omega, bY, AY, CY⟩
            case round =>
              clear bY AY CY
              obtain ⟨j, rfl, j1, j2, br, Ar, Cr⟩ := hrel
              obtain ⟨x0, x1, x2, x3, x4⟩ := Ar.facts
              obtain ⟨z0, z1, z2, z3, z4⟩ := Cr.facts
              have hj : j = 0 ∨ j = 1 ∨ j = 2 ∨ j = 3 ∨ j = 4 := by omega
              clear j1 j2
              rcases hj with rfl | rfl | rfl | rfl | rfl
              · go_wp2_with fail
                go_quiet (fail)
                go_wp2_with fail
                go_roundw
                case rel => exact ⟨1, rfl, by omega, by omega, below_drewN br _, Ar.drewN _, Cr.drewN _⟩
                case measure => simp [intOf]
              · go_wp2_with fail
                go_quiet (fail)
                go_wp2_with fail
                go_roundw
                case rel => exact ⟨2, rfl, by omega, by omega, below_drewN br _, Ar.drewN _, Cr.drewN _⟩
                case measure => simp [intOf]
              · go_wp2_with fail
                go_quiet (fail)
                go_wp2_with fail
                go_roundw
                case rel => exact ⟨3, rfl, by omega, by omega, below_drewN br _, Ar.drewN _, Cr.drewN _⟩
                case measure => simp [intOf]
              · go_wp2_with fail
                go_quiet (fail)
                go_wp2_with fail
                go_roundw
                case rel => exact ⟨4, rfl, by omega, by omega, below_drewN br _, Ar.drewN _, Cr.drewN _⟩
                case measure => simp [intOf]
              · go_wp2_with fail
                go_quiet (fail)
                go_wp2_with fail
                go_region_held3 (fun w' => w'.cell? ⟨gx, 0, none⟩ = some (.int .i64 y) ∧ w'.cell? ⟨gx, 1, none⟩ = some (.int .i64 m) ∧ w'.cell? ⟨gx, 2, none⟩ = some (.int .i64 d) ∧ w'.cell? ⟨gx, 3, none⟩ = some (.int .i64 h) ∧ w'.cell? ⟨gx, 4, none⟩ = some (.int .i64 i) ∧ w'.cell? ⟨gy, 0, none⟩ = some (.int .i64 y) ∧ w'.cell? ⟨gy, 1, none⟩ = some (.int .i64 m) ∧ w'.cell? ⟨gy, 2, none⟩ = some (.int .i64 d) ∧ w'.cell? ⟨gy, 3, none⟩ = some (.int .i64 h) ∧ w'.cell? ⟨gy, 4, none⟩ = some (.int .i64 i'))
                  (first | go_keep | exact cells10 (((Ar.drewN _).drew).under g11) (((Cr.drewN _).drew).under g11)) (first | (go_at_call 21; refine (awake_any _ (hE.under (below_drewN br _).drew)).mono ?_; rintro e w11 ⟨rfl, g11⟩))
                go_wp2_with fail
                go_ret
                exact ⟨rfl, (below_drewN br _).drew.trans (g11.mono br.size)⟩
          · skip
            have qx := num_lt_iff hv hv' hne (fun c => .inr ⟨rfl, .inr ⟨rfl, .inr ⟨rfl, .inl c⟩⟩⟩) (fun c => .inr ⟨rfl, .inr ⟨rfl, .inr ⟨rfl, .inl c⟩⟩⟩)
            have qt := less3 hv hv' hne
            rw [N.out, K.out] at qx qt
            obtain ⟨ql, qn⟩ := qx
            have qe : (h == h') = false := beq_eq_false_iff_ne.2 hne
            have qk : (n == k) = false := beq_eq_false_iff_ne.2 qn
            clear hne qn
            go_loopw [16] (fun s wr => ∃ j : Int, s = .int .i64 j ∧ 0 ≤ j ∧ j ≤ 3 ∧ Below w.heap.size w wr ∧ Arr wr gx y m d h i ∧ Arr wr gy y m d h' i') (fun s _ => (10 - intOf s).toNat)
            case atStart => exact ⟨0, rfl, by omega, by omega, bY, AY, CY⟩
            case round =>
              clear bY AY CY
              obtain ⟨j, rfl, j1, j2, br, Ar, Cr⟩ := hrel
              obtain ⟨x0, x1, x2, x3, x4⟩ := Ar.facts
              obtain ⟨z0, z1, z2, z3, z4⟩ := Cr.facts
              have hj : j = 0 ∨ j = 1 ∨ j = 2 ∨ j = 3 := by omega
              clear j1 j2
              rcases hj with rfl | rfl | rfl | rfl
              · go_wp2_with fail
                go_quiet (fail)
                go_wp2_with fail
                go_roundw
                case rel => exact ⟨1, rfl, by omega, by omega, below_drewN br _, Ar.drewN _, Cr.drewN _⟩
                case measure => simp [intOf]
              · go_wp2_with fail
                go_quiet (fail)
                go_wp2_with fail
                go_roundw
                case rel => exact ⟨2, rfl, by omega, by omega, below_drewN br _, Ar.drewN _, Cr.drewN _⟩
                case measure => simp [intOf]
              · go_wp2_with fail
                go_quiet (fail)
                go_wp2_with fail
                go_roundw
                case rel => exact ⟨3, rfl, by omega, by omega, below_drewN br _, Ar.drewN _, Cr.drewN _⟩
                case measure => simp [intOf]
              · go_wp2_with fail
                go_quiet (fail)
                go_wp2_with fail
                go_region_held3 (fun w' => w'.cell? ⟨gx, 0, none⟩ = some (.int .i64 y) ∧ w'.cell? ⟨gx, 1, none⟩ = some (.int .i64 m) ∧ w'.cell? ⟨gx, 2, none⟩ = some (.int .i64 d) ∧ w'.cell? ⟨gx, 3, none⟩ = some (.int .i64 h) ∧ w'.cell? ⟨gx, 4, none⟩ = some (.int .i64 i) ∧ w'.cell? ⟨gy, 0, none⟩ = some (.int .i64 y) ∧ w'.cell? ⟨gy, 1, none⟩ = some (.int .i64 m) ∧ w'.cell? ⟨gy, 2, none⟩ = some (.int .i64 d) ∧ w'.cell? ⟨gy, 3, none⟩ = some (.int .i64 h') ∧ w'.cell? ⟨gy, 4, none⟩ = some (.int .i64 i'))
                  (first | go_keep | exact cells10 (((Ar.drewN _).drew).under g11) (((Cr.drewN _).drew).under g11)) (first | (go_at_call 21; refine (awake_any _ (hE.under (below_drewN br _).drew)).mono ?_; rintro e w11 ⟨rfl, g11⟩))
                go_wp2_with fail
                go_ret
                exact ⟨rfl, (below_drewN br _).drew.trans (g11.mono br.size)⟩
        · skip
          have qx := num_lt_iff hv hv' hne (fun c => .inr ⟨rfl, .inr ⟨rfl, .inl c⟩⟩) (fun c => .inr ⟨rfl, .inr ⟨rfl, .inl c⟩⟩)
          have qt := less2 hv hv' hne
          rw [N.out, K.out] at qx qt
          obtain ⟨ql, qn⟩ := qx
          have qe : (d == d') = false := beq_eq_false_iff_ne.2 hne
          have qk : (n == k) = false := beq_eq_false_iff_ne.2 qn
          clear hne qn
          go_loopw [16] (fun s wr => ∃ j : Int, s = .int .i64 j ∧ 0 ≤ j ∧ j ≤ 2 ∧ Below w.heap.size w wr ∧ Arr wr gx y m d h i ∧ Arr wr gy y m d' h' i') (fun s _ => (10 - intOf s).toNat)
          case atStart => exact ⟨0, rfl, by omega, by omega, bY, AY, CY⟩
          case round =>
            clear bY AY CY
            obtain ⟨j, rfl, j1, j2, br, Ar, Cr⟩ := hrel
            obtain ⟨x0, x1, x2, x3, x4⟩ := Ar.facts
            obtain ⟨z0, z1, z2, z3, z4⟩ := Cr.facts
            have hj : j = 0 ∨ j = 1 ∨ j = 2 := by omega
            clear j1 j2
            rcases hj with rfl | rfl | rfl
            · go_wp2_with fail
              go_quiet (fail)
              go_wp2_with fail
              go_roundw
              case rel => exact ⟨1, rfl, by omega, by omega, below_drewN br _, Ar.drewN _, Cr.drewN _⟩
              case measure => simp [intOf]
            · go_wp2_with fail
              go_quiet (fail)
              go_wp2_with fail
              go_roundw
              case rel => exact ⟨2, rfl, by omega, by omega, below_drewN br _, Ar.drewN _, Cr.drewN _⟩
              case measure => simp [intOf]
            · go_wp2_with fail
              go_quiet (fail)
              go_wp2_with fail
              go_region_held3 (fun w' => w'.cell? ⟨gx, 0, none⟩ = some (.int .i64 y) ∧ w'.cell? ⟨gx, 1, none⟩ = some (.int .i64 m) ∧ w'.cell? ⟨gx, 2, none⟩ = some (.int .i64 d) ∧ w'.cell? ⟨gx, 3, none⟩ = some (.int .i64 h) ∧ w'.cell? ⟨gx, 4, none⟩ = some (.int .i64 i) ∧ w'.cell? ⟨gy, 0, none⟩ = some (.int .i64 y) ∧ w'.cell? ⟨gy, 1, none⟩ = some (.int .i64 m) ∧ w'.cell? ⟨gy, 2, none⟩ = some (.int .i64 d') ∧ w'.cell? ⟨gy, 3, none⟩ = some (.int .i64 h') ∧ w'.cell? ⟨gy, 4, none⟩ = some (.int .i64 i'))
                (first | go_keep | exact cells10 (((Ar.drewN _).drew).under g11) (((Cr.drewN _).drew).under g11)) (first | (go_at_call 21; refine (awake_any _ (hE.under (below_drewN br _).drew)).mono ?_; rintro e w11 ⟨rfl, g11⟩))
              go_wp2_with fail
              go_ret
              exact ⟨rfl, (below_drewN br _).drew.trans (g11.mono br.size)⟩
      · skip
        have qx := num_lt_iff hv hv' hne (fun c => .inr ⟨rfl, .inl c⟩) (fun c => .inr ⟨rfl, .inl c⟩)
        have qt := less1 hv hv' hne
        rw [N.out, K.out] at qx qt
        obtain ⟨ql, qn⟩ := qx
        have qe : (m == m') = false := beq_eq_false_iff_ne.2 hne
        have qk : (n == k) = false := beq_eq_false_iff_ne.2 qn
        clear hne qn
        go_loopw [16] (fun s wr => ∃ j : Int, s = .int .i64 j ∧ 0 ≤ j ∧ j ≤ 1 ∧ Below w.heap.size w wr ∧ Arr wr gx y m d h i ∧ Arr wr gy y m' d' h' i') (fun s _ => (10 - intOf s).toNat)
        case atStart => exact ⟨0, rfl, by omega, by omega, bY, AY, CY⟩
        case round =>
          clear bY AY CY
          obtain ⟨j, rfl, j1, j2, br, Ar, Cr⟩ := hrel
          obtain ⟨x0, x1, x2, x3, x4⟩ := Ar.facts
          obtain ⟨z0, z1, z2, z3, z4⟩ := Cr.facts
          have hj : j = 0 ∨ j = 1 := by omega
          clear j1 j2
          rcases hj with rfl | rfl
          · go_wp2_with fail
            go_quiet (fail)
            go_wp2_with fail
            go_roundw
            case rel => exact ⟨1, rfl, by omega, by omega, below_drewN br _, Ar.drewN _, Cr.drewN _⟩
            case measure => simp [intOf]
          · go_wp2_with fail
            go_quiet (fail)
            go_wp2_with fail
            go_region_held3 (fun w' => w'.cell? ⟨gx, 0, none⟩ = some (.int .i64 y) ∧ w'.cell? ⟨gx, 1, none⟩ = some (.int .i64 m) ∧ w'.cell? ⟨gx, 2, none⟩ = some (.int .i64 d) ∧ w'.cell? ⟨gx, 3, none⟩ = some (.int .i64 h) ∧ w'.cell? ⟨gx, 4, none⟩ = some (.int .i64 i) ∧ w'.cell? ⟨gy, 0, none⟩ = some (.int .i64 y) ∧ w'.cell? ⟨gy, 1, none⟩ = some (.int .i64 m') ∧ w'.cell? ⟨gy, 2, none⟩ = some (.int .i64 d') ∧ w'.cell? ⟨gy, 3, none⟩ = some (.int .i64 h') ∧ w'.cell? ⟨gy, 4, none⟩ = some (.int .i64 i'))
              (first | go_keep | exact cells10 (((Ar.drewN _).drew).under g11) (((Cr.drewN _).drew).under g11)) (first | (go_at_call 21; refine (awake_any _ (hE.under (below_drewN br _).drew)).mono ?_; rintro e w11 ⟨rfl, g11⟩))
            go_wp2_with fail
            go_ret
            exact ⟨rfl, (below_drewN br _).drew.trans (g11.mono br.size)⟩
    · skip
      have qx := num_lt_iff hv hv' hne (fun c => .inl c) (fun c => .inl c)
      have qt := less0 hv hv' hne
      rw [N.out, K.out] at qx qt
      obtain ⟨ql, qn⟩ := qx
      have qe : (y == y') = false := beq_eq_false_iff_ne.2 hne
      have qk : (n == k) = false := beq_eq_false_iff_ne.2 qn
      clear hne qn
      go_loopw [16] (fun s wr => ∃ j : Int, s = .int .i64 j ∧ 0 ≤ j ∧ j ≤ 0 ∧ Below w.heap.size w wr ∧ Arr wr gx y m d h i ∧ Arr wr gy y' m' d' h' i') (fun s _ => (10 - intOf s).toNat)
      case atStart => exact ⟨0, rfl, by omega, by omega, bY, AY, CY⟩
      case round =>
        clear bY AY CY
        obtain ⟨j, rfl, j1, j2, br, Ar, Cr⟩ := hrel
        obtain ⟨x0, x1, x2, x3, x4⟩ := Ar.facts
        obtain ⟨z0, z1, z2, z3, z4⟩ := Cr.facts
        have hj : j = 0 := by omega
        clear j1 j2
        rcases hj with rfl
        · go_wp2_with fail
          go_quiet (fail)
          go_wp2_with fail
          go_region_held3 (fun w' => w'.cell? ⟨gx, 0, none⟩ = some (.int .i64 y) ∧ w'.cell? ⟨gx, 1, none⟩ = some (.int .i64 m) ∧ w'.cell? ⟨gx, 2, none⟩ = some (.int .i64 d) ∧ w'.cell? ⟨gx, 3, none⟩ = some (.int .i64 h) ∧ w'.cell? ⟨gx, 4, none⟩ = some (.int .i64 i) ∧ w'.cell? ⟨gy, 0, none⟩ = some (.int .i64 y') ∧ w'.cell? ⟨gy, 1, none⟩ = some (.int .i64 m') ∧ w'.cell? ⟨gy, 2, none⟩ = some (.int .i64 d') ∧ w'.cell? ⟨gy, 3, none⟩ = some (.int .i64 h') ∧ w'.cell? ⟨gy, 4, none⟩ = some (.int .i64 i'))
            (first | go_keep | exact cells10 (((Ar.drewN _).drew).under g11) (((Cr.drewN _).drew).under g11)) (first | (go_at_call 21; refine (awake_any _ (hE.under (below_drewN br _).drew)).mono ?_; rintro e w11 ⟨rfl, g11⟩))
          go_wp2_with fail
          go_ret
          exact ⟨rfl, (below_drewN br _).drew.trans (g11.mono br.size)⟩
end Go.Proofs.YtaohndjlaamdaaaDoor
