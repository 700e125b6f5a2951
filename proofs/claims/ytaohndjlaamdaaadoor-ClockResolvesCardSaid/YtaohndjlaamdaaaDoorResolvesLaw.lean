/- The walk of ClockResolves: for every day, time, minute and list the law returns true, and what lay in memory is as it was. -/
import Derived.Test.YtaohndjlaamdaaaDoorAwake
import Derived.Test.YtaohndjlaamdaaaDoorSrc
import Derived.Test.YtaohndjlaamdaaaDoorRefResolve
namespace Go.Proofs.YtaohndjlaamdaaaDoor
open Go.RowKit

/-- A block known whole. -/
def Row (w : World) (g : Nat) (t : TypeId) (cs : Array Value) : Prop := w.heap[g]? = some (.cells cs t (0, 0))
section
variable {w w' : World} {g : Nat} {t : TypeId} {cs : Array Value}
theorem Row.lt (hB : Row w g t cs) : g < w.heap.size := by
  rcases Nat.lt_or_ge g w.heap.size with hlt | hge
  · exact hlt
  · unfold Row at hB; rw [Array.getElem?_eq_none hge] at hB; cases hB
theorem Row.under (hB : Row w g t cs) (hb : Below w.heap.size w w') : Row w' g t cs := (hb.block g hB.lt).trans hB
theorem Row.cell (hB : Row w g t cs) (i : Nat) : w.cell? ⟨g, i, none⟩ = cs[i]? := by
  unfold Row at hB
  simp [World.cell?, hB]
theorem Row.new (w : World) (t : TypeId) (cs : Array Value) : Row (w.alloc (.cells cs t)) w.heap.size t cs := heap_alloc_new w _
theorem Row.alloc (hB : Row w g t cs) (o : Obj) : Row (w.alloc o) g t cs := (Below.heap_alloc w o g hB.lt).trans hB
end
theorem rng_bd' {n : Int} (h : Cal.rng n = true) : 0 ≤ n ∧ n ≤ 52595999 := by unfold Cal.rng at h; simpa using h
/-- A minute with the day and the time is no better than the nearest one. -/
theorem nearest_no_better {D H I R a y m d p q n : Int} (hN : Nearest D H I R a) (hv : Cal.vld y m d p q = true) (hn : Cal.num y m d p q = n) (hd : d = D)
    (t1 : 0 ≤ H) (t2 : H ≤ 23) (t3 : 0 ≤ I) (t4 : I ≤ 59) {k : Int} (hk : n = k * 1440 + H * 60 + I) :
    max (a - R) (R - a) < max (n - R) (R - n) ∨ (max (a - R) (R - a) = max (n - R) (R - n) ∧ a ≤ n) := by
  subst hd
  obtain ⟨⟨a1, a2, a3, a4⟩, a5, a6, a7, a8, a9, a10⟩ := Cal.vld_iff.1 hv
  rw [Cal.num_dnum] at hn
  have e1 : p = H := by omega
  have e2 : q = I := by omega
  subst e1 e2
  have hM : okM d p q (y * 12 + m - 1) = true := by
    unfold okM
    rw [show (y * 12 + m - 1) / 12 = y by omega, show (y * 12 + m - 1) % 12 + 1 = m by omega]; exact hv
  have hV : valM d p q (y * 12 + m - 1) = n := by
    unfold valM
    rw [show (y * 12 + m - 1) / 12 = y by omega, show (y * 12 + m - 1) % 12 + 1 = m by omega, Cal.num_dnum]; exact hn
  have := hN.2 _ hM
  rw [hV] at this
  exact this

set_option maxRecDepth 100000 in
set_option maxHeartbeats 4000000 in
theorem clockResolves_any (day hour min near : Int) (v : Value) (w : World) (hE : Env w) (hl : ListIn w v) :
    Calls Tryd.prog 5 #[.int .i64 day, .int .i64 hour, .int .i64 min, .int .i64 near, v] w fun e w' => e = .returned (.bool true) ∧ Below w.heap.size w w' := by
  go_enter Tryd.func5, Tryd.ntmps5
  go_wp2_with fail
  refine (new_any _ _ hl).mono ?_
  rintro e w1 ⟨rfl, s1, -⟩
  go_wp2_with fail
  refine (range_any _ _ _ _ _ s1 (by omega) (by omega) (by omega) (by omega)).mono ?_
  rintro e w2 ⟨r1, ⟨p1, p2⟩, rfl, s2, -⟩
  go_wp2_with fail
  refine (n_any _ _ _ _ s2 (by omega) (by omega)).mono ?_
  rintro e w3 ⟨r2, ⟨p3, p4⟩, rfl, s3, -⟩
  go_wp2_with fail
  refine (n_any _ _ _ _ s3 (by omega) (by omega)).mono ?_
  rintro e w4 ⟨r3, ⟨p5, p6⟩, rfl, s4, -⟩
  go_wp2_with fail
  refine (minute_any _ _ _ s4).mono ?_
  rintro e w5 ⟨r4, ⟨p7, p8⟩, rfl, s5, -⟩
  go_wp2_with fail
  refine (range_any _ _ _ _ _ s5 (by omega) (by omega) (by omega) (by omega)).mono ?_
  rintro e w6 ⟨q1, ⟨o1, o2⟩, rfl, s6, -⟩
  go_wp2_with fail
  refine (n_any _ _ _ _ s6 (by omega) (by omega)).mono ?_
  rintro e w7 ⟨q2, ⟨o3, o4⟩, rfl, s7, -⟩
  go_wp2_with fail
  refine (n_any _ _ _ _ s7 (by omega) (by omega)).mono ?_
  rintro e w8 ⟨q3, ⟨o5, o6⟩, rfl, s8, -⟩
  go_wp2_with fail
  refine (raw_any _ _ _ s8).mono ?_
  rintro e w9 ⟨q4', hq4, rfl, s9, -⟩
  go_wp2_with fail
  refine (mod_any _ _ _ hq4 (by omega) (by omega)).mono ?_
  rintro e w10 ⟨rfl, rfl⟩
  have o7 : 0 ≤ q4' % 90000 := Int.emod_nonneg _ (by omega)
  have o8 : q4' % 90000 < 90000 := Int.emod_lt_of_pos _ (by omega)
  clear hq4
  generalize q4' % 90000 = q4 at *
  have b9 := s9.below
  clear s1 s2 s3 s4 s5 s6 s7 s8 s9
  go_wp2_with fail
  have b0 := b9.alloc b9.size (.cells #[.int .i64 day, .int .i64 hour, .int .i64 min, .int .i64 near, .int .i64 r1, .int .i64 r2, .int .i64 r3, .int .i64 r4, .int .i64 q1, .int .i64 q2, .int .i64 q3, .int .i64 q4] 42)
  have R0 := Row.new w9 42 #[.int .i64 day, .int .i64 hour, .int .i64 min, .int .i64 near, .int .i64 r1, .int .i64 r2, .int .i64 r3, .int .i64 r4, .int .i64 q1, .int .i64 q2, .int .i64 q3, .int .i64 q4]
  clear b9
  generalize w9.heap.size = g at *
  generalize w9.alloc _ = w10 at *
  obtain ⟨cs, hcs⟩ : ∃ cs : Array Value, cs = #[.int .i64 day, .int .i64 hour, .int .i64 min, .int .i64 near, .int .i64 r1, .int .i64 r2, .int .i64 r3, .int .i64 r4, .int .i64 q1, .int .i64 q2, .int .i64 q3, .int .i64 q4] := ⟨_, rfl⟩
  rw [← hcs] at R0
  have HC := Lib.hid hcs; clear hcs
  go_loopw [52] (fun s wr => ∃ k : Int, s = .int .i64 k ∧ 0 ≤ k ∧ k ≤ 3 ∧ Below w.heap.size w wr ∧ Row wr g 42 cs) (fun s _ => (3 - intOf s).toNat)
  case atStart => exact ⟨0, rfl, by omega, by omega, b0, R0⟩
  case round =>
    clear b0 R0
    obtain ⟨k, rfl, k1, k2, br, Rr⟩ := hrel
    by_cases h3 : k = 3
    · subst h3
      go_wp2_with fail
      refine (awake_from _ hE br).mono ?_
      rintro e w11 ⟨rfl, g11⟩
      go_wp2_with fail
      go_ret
      exact ⟨rfl, g11⟩
    · have hk : k = 0 ∨ k = 1 ∨ k = 2 := by omega
      have c0 : wr.cell? ⟨g, 0, none⟩ = some (.int .i64 day) := by rw [Rr.cell 0, HC.out]; rfl
      have c1 : wr.cell? ⟨g, 1, none⟩ = some (.int .i64 hour) := by rw [Rr.cell 1, HC.out]; rfl
      have c2 : wr.cell? ⟨g, 2, none⟩ = some (.int .i64 min) := by rw [Rr.cell 2, HC.out]; rfl
      have c3 : wr.cell? ⟨g, 3, none⟩ = some (.int .i64 near) := by rw [Rr.cell 3, HC.out]; rfl
      have c4 : wr.cell? ⟨g, 4, none⟩ = some (.int .i64 r1) := by rw [Rr.cell 4, HC.out]; rfl
      have c5 : wr.cell? ⟨g, 5, none⟩ = some (.int .i64 r2) := by rw [Rr.cell 5, HC.out]; rfl
      have c6 : wr.cell? ⟨g, 6, none⟩ = some (.int .i64 r3) := by rw [Rr.cell 6, HC.out]; rfl
      have c7 : wr.cell? ⟨g, 7, none⟩ = some (.int .i64 r4) := by rw [Rr.cell 7, HC.out]; rfl
      have c8 : wr.cell? ⟨g, 8, none⟩ = some (.int .i64 q1) := by rw [Rr.cell 8, HC.out]; rfl
      have c9 : wr.cell? ⟨g, 9, none⟩ = some (.int .i64 q2) := by rw [Rr.cell 9, HC.out]; rfl
      have c10 : wr.cell? ⟨g, 10, none⟩ = some (.int .i64 q3) := by rw [Rr.cell 10, HC.out]; rfl
      have c11 : wr.cell? ⟨g, 11, none⟩ = some (.int .i64 q4) := by rw [Rr.cell 11, HC.out]; rfl
      have next : ∀ j : Int, k = j → 0 ≤ j + 1 ∧ j + 1 ≤ 3 := fun j e => by omega
      have NX := Lib.hid next; clear next h3 k1 k2
      have pick : ∃ D H I R : Int, (k = 0 ∧ D = day ∧ H = hour ∧ I = min ∧ R = near) ∨ (k = 1 ∧ D = r1 ∧ H = r2 ∧ I = r3 ∧ R = r4) ∨ (k = 2 ∧ D = q1 ∧ H = q2 ∧ I = q3 ∧ R = q4) := by
        rcases hk with e | e | e
        · exact ⟨_, _, _, _, .inl ⟨e, rfl, rfl, rfl, rfl⟩⟩
        · exact ⟨_, _, _, _, .inr (.inl ⟨e, rfl, rfl, rfl, rfl⟩)⟩
        · exact ⟨_, _, _, _, .inr (.inr ⟨e, rfl, rfl, rfl, rfl⟩)⟩
      clear hk
      obtain ⟨D, H, I, R, hp⟩ := pick
      have hall : (1 ≤ D ∧ D ≤ 31 ∧ Cal.tod H I = true ∧ Cal.rng R = true) ∨ ¬ ((1 ≤ D ∧ D ≤ 31) ∧ Cal.tod H I = true ∧ Cal.rng R = true) := by
        by_cases hh : (1 ≤ D ∧ D ≤ 31) ∧ Cal.tod H I = true ∧ Cal.rng R = true
        · exact .inl ⟨hh.1.1, hh.1.2, hh.2.1, hh.2.2⟩
        · exact .inr hh
      have HA := Lib.hid hall; clear hall
      rcases hp with ⟨rfl, rfl, rfl, rfl, rfl⟩ | ⟨rfl, rfl, rfl, rfl, rfl⟩ | ⟨rfl, rfl, rfl, rfl, rfl⟩
      all_goals
        go_upto_region 5 with fail
        refine forget (fun Z => Below w.heap.size w Z ∧ Row Z g 42 cs ∧ Row Z wr.heap.size 42 #[.int .i64 D, .int .i64 H, .int .i64 I, .int .i64 R]) ⟨br.alloc br.size _, Rr.alloc _, Row.new _ _ _⟩ ?_
        clear br Rr c0 c1 c2 c3 c4 c5 c6 c7 c8 c9 c10 c11
        generalize wr.heap.size = gx at *
        rintro Z ⟨bZ, RZ, XZ⟩
        have x0 : Z.cell? ⟨gx, 0, none⟩ = some (.int .i64 D) := by rw [XZ.cell 0]; rfl
        have x1 : Z.cell? ⟨gx, 1, none⟩ = some (.int .i64 H) := by rw [XZ.cell 1]; rfl
        have x2 : Z.cell? ⟨gx, 2, none⟩ = some (.int .i64 I) := by rw [XZ.cell 2]; rfl
        have x3 : Z.cell? ⟨gx, 3, none⟩ = some (.int .i64 R) := by rw [XZ.cell 3]; rfl
        rcases HA.out with ⟨h1, h2, h3, h4⟩ | hN
        · have hb3 : 0 ≤ H ∧ H ≤ 23 ∧ 0 ≤ I ∧ I ≤ 59 := by unfold Cal.tod at h3; simpa using h3
          have hb4 : 0 ≤ R ∧ R ≤ 52595999 := by unfold Cal.rng at h4; simpa using h4
          obtain ⟨t1, t2, t3, t4⟩ := hb3
          obtain ⟨t5, t6⟩ := hb4
          go_wp2_with fail
          refine (resolve_yes _ _ _ _ _ (hE.under bZ).1 h1 h2 h3 h4).mono ?_
          rintro e w11 ⟨a, ha, rfl, g11⟩
          have b11 := bZ.trans (g11.mono bZ.size); have R11 := RZ.under g11; have X11 := XZ.under g11
          clear bZ RZ XZ g11 x0 x1 x2 x3
          have x0 : w11.cell? ⟨gx, 0, none⟩ = some (.int .i64 D) := by rw [X11.cell 0]; rfl
          have x1 : w11.cell? ⟨gx, 1, none⟩ = some (.int .i64 H) := by rw [X11.cell 1]; rfl
          have x2 : w11.cell? ⟨gx, 2, none⟩ = some (.int .i64 I) := by rw [X11.cell 2]; rfl
          have x3 : w11.cell? ⟨gx, 3, none⟩ = some (.int .i64 R) := by rw [X11.cell 3]; rfl
          go_wp2_with fail
          refine (refResolve_yes _ _ _ _ _ h1 h2 h3 h4).mono ?_
          rintro e w12 ⟨a', ha', rfl, g12⟩
          obtain rfl := ha'.unique ha
          have b12 := b11.trans (g12.mono b11.size); have R12 := R11.under g12; have X12 := X11.under g12
          clear b11 R11 X11 g12 x0 x1 x2 x3 ha'
          have x0 : w12.cell? ⟨gx, 0, none⟩ = some (.int .i64 D) := by rw [X12.cell 0]; rfl
          have x1 : w12.cell? ⟨gx, 1, none⟩ = some (.int .i64 H) := by rw [X12.cell 1]; rfl
          have x2 : w12.cell? ⟨gx, 2, none⟩ = some (.int .i64 I) := by rw [X12.cell 2]; rfl
          have x3 : w12.cell? ⟨gx, 3, none⟩ = some (.int .i64 R) := by rw [X12.cell 3]; rfl
          obtain ⟨u1, u2⟩ := ha.bd
          have HN := Lib.hid ha; clear ha
          go_wp2_with fail
          all_goals
            go_loopw [19] (fun s wv => ∃ j : Int, s = .int .i64 j ∧ -70 ≤ j ∧ j ≤ 71 ∧ Below w.heap.size w wv ∧ Row wv g 42 cs ∧ Row wv gx 42 #[.int .i64 D, .int .i64 H, .int .i64 I, .int .i64 R]) (fun s _ => (100 - intOf s).toNat)
            case atStart => exact ⟨-70, rfl, by omega, by omega, b12, R12, X12⟩
            case round =>
              clear b12 R12 X12 x0 x1 x2 x3
              obtain ⟨j, rfl, j1, j2, bj, Rj, Xj⟩ := hrel
              by_cases hj : j ≤ 70
              · skip
                have x0 : wr.cell? ⟨gx, 0, none⟩ = some (.int .i64 D) := by rw [Xj.cell 0]; rfl
                have x1 : wr.cell? ⟨gx, 1, none⟩ = some (.int .i64 H) := by rw [Xj.cell 1]; rfl
                have x2 : wr.cell? ⟨gx, 2, none⟩ = some (.int .i64 I) := by rw [Xj.cell 2]; rfl
                have x3 : wr.cell? ⟨gx, 3, none⟩ = some (.int .i64 R) := by rw [Xj.cell 3]; rfl
                have d1 : 0 ≤ R / 1440 := by omega
                have d2 : R / 1440 ≤ 36525 := by omega
                rcases hx : Cal.rng ((R / 1440 + j) * 1440 + H * 60 + I) with _ | _
                · go_wp2_with fail
                  refine (refDate_no _ _ hx).mono ?_
                  rintro e w14 ⟨rfl, g14⟩
                  have b15 := (bj.trans (g14.mono bj.size)).alloc (bj.trans (g14.mono bj.size)).size (.cells #[.int .i64 0, .int .i64 0, .int .i64 0, .int .i64 0, .int .i64 0] 23)
                  have R15 := (Rj.under g14).alloc (.cells #[.int .i64 0, .int .i64 0, .int .i64 0, .int .i64 0, .int .i64 0] 23)
                  have X15 := (Xj.under g14).alloc (.cells #[.int .i64 0, .int .i64 0, .int .i64 0, .int .i64 0, .int .i64 0] 23)
                  clear bj Rj Xj g14 x0 x1 x2 x3
                  go_wp2_with fail
                  go_roundw
                  case rel => exact ⟨j + 1, rfl, by omega, by omega, b15, R15, X15⟩
                  case measure => simp [intOf]; omega
                · obtain ⟨y, mo, d, p, q, hv, hn, -⟩ := Cal.num_of _ (rng_bd' hx).1 (rng_bd' hx).2
                  have N := Lib.hid hn
                  have nb := fun hd : d = D => nearest_no_better HN.out hv hn hd t1 t2 t3 t4 rfl
                  clear hn
                  have NB := Lib.hid nb; clear nb
                  go_wp2_with fail
                  refine (refDate_yes _ _ _ _ _ _ _ N.out hv).mono ?_
                  rintro e w14 ⟨rfl, g14⟩
                  have X14 := Xj.under g14
                  have b15 := (bj.trans (g14.mono bj.size)).alloc (bj.trans (g14.mono bj.size)).size (.cells #[.int .i64 y, .int .i64 mo, .int .i64 d, .int .i64 p, .int .i64 q] 23)
                  have R15 := (Rj.under g14).alloc (.cells #[.int .i64 y, .int .i64 mo, .int .i64 d, .int .i64 p, .int .i64 q] 23)
                  have X15 := X14.alloc (.cells #[.int .i64 y, .int .i64 mo, .int .i64 d, .int .i64 p, .int .i64 q] 23)
                  have hgx := X14.lt
                  clear bj Rj Xj g14 x0 x1 x2 x3
                  have x0 : w14.cell? ⟨gx, 0, none⟩ = some (.int .i64 D) := by rw [X14.cell 0]; rfl
                  have x1 : w14.cell? ⟨gx, 1, none⟩ = some (.int .i64 H) := by rw [X14.cell 1]; rfl
                  have x2 : w14.cell? ⟨gx, 2, none⟩ = some (.int .i64 I) := by rw [X14.cell 2]; rfl
                  have x3 : w14.cell? ⟨gx, 3, none⟩ = some (.int .i64 R) := by rw [X14.cell 3]; rfl
                  by_cases hd : d = D
                  · have nb := NB.out hd
                    have hdd : (d != D) = false := by rw [hd]; simp
                    clear hd
                    go_wp2_with fail
                    all_goals go_roundw
                    all_goals first
                      | (case rel => exact ⟨j + 1, rfl, by omega, by omega, b15, R15, X15⟩)
                      | (case measure => simp [intOf]; omega)
                  · have hdd : (d != D) = true := by simpa using hd
                    clear hd
                    go_wp2_with fail
                    go_roundw
                    case rel => exact ⟨j + 1, rfl, by omega, by omega, b15, R15, X15⟩
                    case measure => simp [intOf]; omega
              · go_wp2_with fail
                go_roundw
                case rel => exact ⟨_, rfl, by omega, by omega, bj, Rj⟩
                case measure => simp [intOf]
        · go_wp2_with fail
          refine (resolve_no _ _ _ _ _ hN).mono ?_
          rintro e w11 ⟨rfl, rfl⟩
          go_wp2_with fail
          refine (refResolve_no _ _ _ _ _ hN).mono ?_
          rintro e w12 ⟨rfl, rfl⟩
          go_wp2_with fail
          go_roundw
          case rel => exact ⟨_, rfl, by omega, by omega, bZ, RZ⟩
          case measure => simp [intOf]
end Go.Proofs.YtaohndjlaamdaaaDoor
