/- Lists of rows of numbers in memory; the reference's Neighbours. -/
import Derived.Test.YtehehhehilgnkaaGreatRAr
import Derived.Test.YtehehhehilgnkaaGreatCel2
import Derived.Test.YtehehhehilgnkaaGreatShr
import Derived.Laws.StructEq
import Derived.BigQuiet
namespace Go.Proofs.YtehehhehilgnkaaGreat
open Go.RowKit Go.Maps Go.Shelf

/-- v is a list of m rows of k numbers each: F gives the numbers, one row behind the other. -/
def Ls (w : World) (v : Value) (m k : Nat) (F : Nat → Int) : Prop := ∃ A cap, v = .slice A m cap ∧ m ≤ cap ∧ cap ≤ 9223372036854775807 ∧ ∀ i, i < m → ∃ g, A = some ⟨g, 0, none⟩ ∧ g < w.heap.size ∧ ∀ j, j < k → w.cell? ⟨g, i * k + j, none⟩ = some (.int .i64 (F (i * k + j)))
theorem Ls.under {w w' : World} {v : Value} {m k : Nat} {F : Nat → Int} (h : Ls w v m k F) (hb : Below w.heap.size w w') : Ls w' v m k F := by
  obtain ⟨A, cap, h1, h2, h3, h4⟩ := h
  refine ⟨A, cap, h1, h2, h3, fun i hi => ?_⟩
  obtain ⟨g, e1, e2, e3⟩ := h4 i hi
  exact ⟨g, e1, Nat.lt_of_lt_of_le e2 hb.size, fun j hj => (hb.cell (p := ⟨g, i * k + j, none⟩) e2).trans (e3 j hj)⟩
theorem Ls.nil (w : World) (k : Nat) (F : Nat → Int) : Ls w (.slice none 0 0) 0 k F := ⟨none, 0, rfl, Nat.le_refl _, by omega, fun i hi => absurd hi (Nat.not_lt_zero _)⟩
/-- The number that a cell holds. -/
def nof (xs : List Value) (j : Nat) : Int := intOf (xs[j]?.getD undef)
theorem nof_at {xs : List Value} (h : ∀ u ∈ xs, ∃ z, u = .int .i64 z) {j : Nat} (hj : j < xs.length) : xs[j]? = some (.int .i64 (nof xs j)) := by
  obtain ⟨z, hz⟩ := h _ (List.getElem_mem hj)
  unfold nof
  rw [List.getElem?_eq_getElem hj, hz]
  rfl
theorem ls_own {w : World} {base m k : Nat} {e : TypeId} {v : Value} {xs : List Value} (h : w.ownsRow base e k v m xs) (hx : ∀ u ∈ xs, ∃ z, u = .int .i64 z) : Ls w v m k (nof xs) := by
  have hl := h.1
  have hx' := h
  rcases h.2 with ⟨rfl, h0⟩ | ⟨g, cap, cur, rfl, hb, hh, hle, hmax, _⟩
  · rw [h0]; exact Ls.nil _ _ _
  · refine ⟨_, cap, rfl, hle, by unfold maxLen at hmax; omega, fun i hi => ⟨g, rfl, (Array.getElem?_eq_some_iff.1 hh).1, fun j hj => ?_⟩⟩
    have hlt : i * k + j < m * k := Nat.lt_of_lt_of_le (show i * k + j < (i + 1) * k by rw [Nat.succ_mul]; omega) (Nat.mul_le_mul_right k hi)
    rw [hx'.cellAt _ (by omega)]
    exact nof_at hx (by omega)
theorem ncs_ints (n : Nat) (l : List Lat.Pt) : ∀ u ∈ ncs n l, ∃ z, u = .int .i64 z := fun u hu => by
  obtain ⟨p, -, hp⟩ := List.mem_flatMap.1 hu
  simp only [nc, List.mem_cons, List.not_mem_nil, or_false] at hp
  rcases hp with rfl | rfl | rfl | rfl <;> exact ⟨_, rfl⟩
theorem tcs_ints (l : List Lat.Tr) : ∀ u ∈ tcs l, ∃ z, u = .int .i64 z := fun u hu => by
  obtain ⟨p, -, hp⟩ := List.mem_flatMap.1 hu
  simp only [tc, List.mem_cons, List.not_mem_nil, or_false] at hp
  rcases hp with rfl | rfl | rfl <;> exact ⟨_, rfl⟩
theorem ecs_ints (l : List (Nat × Nat)) : ∀ u ∈ ecs l, ∃ z, u = .int .i64 z := fun u hu => by
  obtain ⟨p, -, hp⟩ := List.mem_flatMap.1 hu
  simp only [ecl, List.mem_cons, List.not_mem_nil, or_false] at hp
  rcases hp with rfl | rfl <;> exact ⟨_, rfl⟩
theorem zc_ints (l : List Nat) : ∀ u ∈ zc l, ∃ z, u = .int .i64 z := fun u hu => by
  obtain ⟨x, -, rfl⟩ := List.mem_map.1 hu
  exact ⟨_, rfl⟩
theorem ls_tr {w : World} {g cap : Nat} {L : List Lat.Tr} (h : TrIn w g L) (h1 : L.length ≤ cap) (h2 : cap ≤ 9223372036854775807) : Ls w (.slice (some ⟨g, 0, none⟩) L.length cap) L.length 3 (nof (tcs L)) :=
  ⟨_, cap, rfl, h1, h2, fun i hi => ⟨g, rfl, h.1, fun j hj => by
    have hn := nof_at (tcs_ints L) (j := i * 3 + j) (by rw [tcs_len]; omega)
    obtain ⟨c0, c1, c2⟩ := h.2 i hi
    obtain ⟨d0, d1, d2⟩ := tcs_at L i hi
    rcases (show j = 0 ∨ j = 1 ∨ j = 2 by omega) with rfl | rfl | rfl
    · rw [← hn]; exact c0.trans d0.symm
    · rw [← hn]; exact c1.trans d1.symm
    · rw [← hn]; exact c2.trans d2.symm⟩⟩
theorem ecs_len (L : List (Nat × Nat)) : (ecs L).length = L.length * 2 := by
  induction L with
  | nil => rfl
  | cons x r ih =>
    show (ecl x ++ ecs r).length = _
    rw [List.length_append, ih, List.length_cons]
    show 2 + _ = _
    omega
theorem ls_ed {w : World} {g cap : Nat} {L : List (Nat × Nat)} (h : EdIn w g L) (h1 : L.length ≤ cap) (h2 : cap ≤ 9223372036854775807) : Ls w (.slice (some ⟨g, 0, none⟩) L.length cap) L.length 2 (nof (ecs L)) :=
  ⟨_, cap, rfl, h1, h2, fun i hi => ⟨g, rfl, h.lt, fun j hj => by
    have hl := ecs_len L
    have hn := nof_at (ecs_ints L) (j := i * 2 + j) (by omega)
    obtain ⟨c0, c1⟩ := h.at_ i hi
    obtain ⟨d0, d1⟩ := ecs_at L i hi
    rcases (show j = 0 ∨ j = 1 by omega) with rfl | rfl
    · rw [← hn]; exact c0.trans d0.symm
    · rw [← hn]; exact c1.trans d1.symm⟩⟩
theorem ls_nm {w : World} {v : Value} {l : List Nat} (h : NmL w v l) : Ls w v l.length 1 (nof (zc l)) := by
  obtain ⟨b, cap, h1, h2, h3, h4⟩ := h
  refine ⟨_, cap, h1, h2, h3, fun i hi => ⟨b, rfl, h4.lt, fun j hj => ?_⟩⟩
  obtain rfl : j = 0 := by omega
  rw [Nat.mul_one, Nat.add_zero, h4.at_ i hi, ← nof_at (zc_ints l) (by rw [zc_len]; exact hi), zc_at l i hi]
/-- What a function leaves that answers a list and an error. -/
def LsR (u : Int) (m k : Nat) (F : Nat → Int) (W : World) (e : Ending) (w : World) : Prop := ∃ v, e = .returned (.tuple #[v, .int .i64 u]) ∧ Below W.heap.size W w ∧ Ls w v m k F
end Go.Proofs.YtehehhehilgnkaaGreat

namespace Go.Proofs.YtehehhehilgnkaaGreat
open Go.RowKit Go.Maps Go.Shelf

theorem refNodes_no (n : Int) (w : World) (hn : ¬ (1 ≤ n ∧ n ≤ 8)) : Calls Tryz.prog 6 #[.int .i64 n] w fun e w' => e = .returned (.tuple #[.slice none 0 0, .int .i64 1]) ∧ w = w' := by
  have HN := Lib.hid hn; clear hn
  go_enter Tryz.func6, Tryz.ntmps6
  go_wp2_with fail
  refine (refCount_no _ _ HN.out).mono ?_
  rintro e w1 ⟨rfl, rfl⟩
  go_wp2_with fail
  go_ret2
  exact ⟨rfl, rfl⟩
theorem refCells_no (n : Int) (w : World) (hn : ¬ (1 ≤ n ∧ n ≤ 8)) : Calls Tryz.prog 8 #[.int .i64 n] w fun e w' => e = .returned (.tuple #[.slice none 0 0, .int .i64 1]) ∧ w = w' := by
  have HN := Lib.hid hn; clear hn
  go_enter Tryz.func8, Tryz.ntmps8
  go_wp2_with fail
  refine (refNodes_no _ _ HN.out).mono ?_
  rintro e w1 ⟨rfl, rfl⟩
  go_wp2_with fail
  go_ret2
  exact ⟨rfl, rfl⟩
theorem refEdges_no (n : Int) (w : World) (hn : ¬ (1 ≤ n ∧ n ≤ 8)) : Calls Tryz.prog 10 #[.int .i64 n] w fun e w' => e = .returned (.tuple #[.slice none 0 0, .int .i64 1]) ∧ w = w' := by
  have HN := Lib.hid hn; clear hn
  go_enter Tryz.func10, Tryz.ntmps10
  go_wp2_with fail
  refine (refCount_no _ _ HN.out).mono ?_
  rintro e w1 ⟨rfl, rfl⟩
  go_wp2_with fail
  go_ret2
  exact ⟨rfl, rfl⟩
set_option maxRecDepth 100000 in
theorem refNei_yes (n a : Nat) (w : World) (hn : Lat.frq n) (ha : a < cn n) : Calls Tryz.prog 13 #[.int .i64 (n : Int), .int .i64 (a : Int)] w (NeiR w n a) := by
  have a0 : ¬ ((a : Int) < 0) := by omega
  have a0' : (0 : Int) ≤ (a : Int) := by omega
  have a1 : ¬ ((cn n : Int) ≤ (a : Int)) := by omega
  have a2 : ¬ (cn n ≤ a) := by omega
  have a3 : (a : Int) < (cn n : Int) := by omega
  have HN := Lib.hid hn; clear hn
  have HA := Lib.hid ha; clear ha
  go_enter Tryz.func13, Tryz.ntmps13
  go_upto_region 3 with ((go_at_call 11; refine (refCount_yes _ _ HN.out).mono ?_; rintro e w1 ⟨rfl, rfl⟩))
  go_wp2_with fail
  refine (around_any n _ HN.out).mono ?_
  rintro e w1 ⟨g, cap, rfl, h1, h2, hb, hnb⟩
  obtain ⟨v, c0, hv⟩ := hnb.at_ a HA.out
  have HB := Lib.hid hb; clear hb hnb
  have HV := Lib.hid hv; clear hv
  go_wp2_with fail
  go_ret2
  exact ⟨v, rfl, HB.out, HV.out⟩
set_option maxRecDepth 100000 in
theorem refNei_no (n x : Int) (w : World) (h : okB n x = false) : Calls Tryz.prog 13 #[.int .i64 n, .int .i64 x] w fun e w' => e = .returned (.tuple #[.slice none 0 0, .int .i64 1]) ∧ w = w' := by
  obtain ⟨m, hm, hx⟩ := count_some n
  have h' : x < 0 ∨ m ≤ x := hx x h
  have HM := Lib.hid hm; clear hm hx h
  by_cases a0 : x < 0
  · clear h'
    go_enter Tryz.func13, Tryz.ntmps13
    go_wp2_with fail
    go_ret2
    exact ⟨rfl, rfl⟩
  · have a1 : m ≤ x := by omega
    clear h'
    go_enter Tryz.func13, Tryz.ntmps13
    go_wp2_with ((go_at_call 11; refine (HM.out _).mono ?_; rintro e w1 ⟨rfl, rfl⟩))
    go_ret2
    exact ⟨rfl, rfl⟩
set_option maxRecDepth 100000 in
set_option maxHeartbeats 8000000 in
theorem refEdges_yes (n : Nat) (w : World) (hn : Lat.frq n) : Calls Tryz.prog 10 #[.int .i64 n] w (EdgR w n) := by
  have hc := cn_le hn
  have hn8 : n ≤ 8 := hn.2
  obtain ⟨i0, hi, hz0, hz1, hz2⟩ := info_parts infoEdge
  have hm : 30 * n * n ≤ 1920 := by
    rw [Nat.mul_assoc]
    exact Nat.mul_le_mul (Nat.le_refl 30) (Nat.mul_le_mul hn8 hn8)
  have hm1 : 30 * (n : Int) * (n : Int) ≤ 1920 := by
    have : ((30 * n * n : Nat) : Int) ≤ 1920 := by omega
    exact this
  have hm0 : 0 ≤ 30 * (n : Int) * (n : Int) := by
    have : (0 : Int) ≤ ((30 * n * n : Nat) : Int) := by omega
    exact this
  have hn0 : 1 ≤ (n : Int) ∧ (n : Int) ≤ 8 := by unfold Lat.frq at hn; omega
  obtain ⟨hn1, hn2⟩ := hn0
  have HN := Lib.hid hn; clear hn
  go_enter Tryz.func10, Tryz.ntmps10
  have HC0 := Lib.hid (show ¬ ((cn n : Int) = 0) by unfold cn; omega)
  clear hm hm0 hm1
  have c0 := HC0.out
  have c0n : ¬ (cn n = 0) := by omega
  go_wp2_with ((go_at_call 11; refine (refCount_yes _ _ HN.out).mono ?_; rintro e w1 ⟨rfl, rfl⟩))
  refine (around_any n _ HN.out).mono ?_
  rintro e wl ⟨g, cg, rfl, h1, h2, hb, hnb⟩
  have hE : Eg w wl n g [] (.slice none 0 0) wl := by
    refine ⟨hb, by simpa [ecs] using World.ownsRow_nil wl w.heap.size 39 2, fun i hi => ?_, hnb.lt, by simp [Value.ownBlock]⟩
    obtain ⟨v, v1, b, c, rfl, v3, v4, v5⟩ := hnb.at_ i hi
    exact ⟨b, c, v1, v5, v3, v4, by simp [Value.ownBlock]⟩
  have HE := Lib.hid hE
  clear hE hb hnb c0 c0n
  go_wp2_with fail
  go_loopw [4, 6] (fun v t wr => ∃ i : Nat, i ≤ cn n ∧ t = .int .i64 i ∧ Eg w wl n g (Lat.eds n i) v wr) (fun _ t _ => cn n - (intOf t).toNat)
  case atStart => exact ⟨0, by omega, rfl, by simpa [Lat.eds] using HE.out⟩
  case round =>
    clear HE
    obtain ⟨i, hi', rfl, M⟩ := hrel
    by_cases hlt : i < cn n
    · have k0 : (0 : Int) ≤ (i : Int) := by omega
      have k1 : (i : Int) < (cn n : Int) := by omega
      obtain ⟨b, c, q0, q1, q2, q3, q4⟩ := M.nb i hlt
      have HI := Lib.hid hlt
      have hl6 := Lat.nbs_len HN.out hlt
      have HES := Lib.hid (Lat.eds_succ n i)
      have HY := Lib.hid (fun k (hk : k < (Lat.nbs n i).length) => Lat.erow_yes (a := i) hk)
      have HZ := Lib.hid (fun k (hk : k < (Lat.nbs n i).length) => Lat.erow_no (a := i) hk)
      have HLE := Lib.hid (fun k => Lat.eds_le (n := n) (i := i) (k := k) HN.out (Nat.le_of_lt hlt))
      have HM : Hid (Eg w wl n g (Lat.eds n i ++ Lat.erow n i 0) «u4» wr ∧ Cs wr b (Lat.nbs n i) ∧ «u4».ownBlock ≠ some b) := Lib.hid ⟨by simpa [Lat.erow] using M, q1, q4⟩
      clear M q1 q4
      have HIN := Lib.hid (fun x (h : x ∈ Lat.nbs n i) => (Lat.nbs_in HN.out HI.out h).1)
      generalize hL : Lat.nbs n i = L at *
      have HL := Lib.hid hL; clear hL
      go_wp2_with fail
      clear q0
      go_loopw [4, 25] (fun v t wr => ∃ j : Nat, j ≤ L.length ∧ t = .int .i64 j ∧ Eg w wl n g (Lat.eds n i ++ Lat.erow n i j) v wr ∧ Cs wr b L ∧ v.ownBlock ≠ some b) (fun _ t _ => L.length - (intOf t).toNat)
      case atStart => exact ⟨0, by omega, rfl, HM.out⟩
      case round =>
        clear HM
        obtain ⟨j, hj, rfl, M, hcs, hne⟩ := hrel
        by_cases hlj : j < L.length
        · have j0 : (0 : Int) ≤ (j : Int) := by omega
          have j1 : (j : Int) < (L.length : Int) := by omega
          have p1 := hcs.at_ j hlj
          have hxin := HIN.out _ (List.getElem_mem hlj)
          have HYJ := Lib.hid (HY.out j hlj)
          have HZJ := Lib.hid (HZ.out j hlj)
          generalize L[j] = x at *
          have HLJ := Lib.hid (HLE.out j)
          have HC := Lib.hid hcs
          have HX := Lib.hid hxin; clear hxin hcs
          have HNE := Lib.hid hne; clear hne
          by_cases hix : i < x
          · have x1 : (i : Int) < (x : Int) := by omega
            have HT := Lib.hid (show Lat.eds n i ++ Lat.erow n i (j + 1) = (Lat.eds n i ++ Lat.erow n i j) ++ [(i, x)] by rw [HYJ.out hix, List.append_assoc])
            generalize Lat.eds n i ++ Lat.erow n i j = E at *
            clear HYJ HZJ
            have HM := Lib.hid M; clear M
            have HO := Lib.hid (HM.out.own.alloc (.cells #[.int .i64 (i : Int), .int .i64 (x : Int)] 39))
            go_wp2_with (at_builtin; refine wpList_append_lies _ rfl (.tmp 32) (.tmp 36) 35 rfl w.heap.size 39 i0 _ 2 16 Tryz.underlying35 hi hz0 hz1 hz2 rfl (by decide) «u4» E.length (ecs E) rfl HO.out ⟨wr.heap.size, 0, none⟩ 1 1 (ecl (i, x)) rfl rfl (World.news_of_block (cs := #[.int .i64 (i : Int), .int .i64 (x : Int)]) (t := 39) (fr := (0, 0)) (heap_alloc_new wr _)) (ecl_one _) (by omega) (by have := HLJ.out; unfold maxLen; omega) (by have := HLJ.out; omega) (by have := HM.out.below.size; simp; omega) _ rfl ?_; intro g' cap' w6 hown6 hgrow6 hat6 hlt6; have H6 := Lib.hid (HM.out.more (t := (i, x)) hown6 hgrow6 hat6); have HC6 := Lib.hid ((HC.out.under ((Below.refl _ _).alloc (Nat.le_refl _) _)).grown hgrow6 (fun e => HNE.out e.symm)); have HN6 := Lib.hid (own_apart (n := E.length + 1) (cap := cap') HC.out.lt HNE.out hat6 (by simp)); clear hown6 hgrow6 hat6 hlt6 HO HM HC HNE p1)
            go_wp2_with fail
            go_roundw
            case rel => exact ⟨j + 1, by omega, by go_num, by rw [HT.out]; exact H6.out, HC6.out, HN6.out⟩
            case measure => simp [intOf]; omega
          · have x1 : ¬ (i : Int) < (x : Int) := by omega
            have HT := Lib.hid (HZJ.out hix)
            have HM := Lib.hid M; clear M
            go_wp2_with fail
            go_roundw
            case rel => exact ⟨j + 1, by omega, by go_num, by rw [HT.out]; exact HM.out, HC.out, HNE.out⟩
            case measure => simp [intOf]; omega
        · have j1 : ¬ ((j : Int) < (L.length : Int)) := by omega
          have hje : j = L.length := by omega
          have HJE := Lib.hid hje; clear hje
          have HM := Lib.hid M; clear M hcs hne
          go_wp2_with fail
          go_roundw
          case rel => exact ⟨i + 1, by omega, by go_num, by have := HM.out; rw [HJE.out] at this; rw [HES.out]; exact this⟩
          case measure => simp [intOf]; omega
    · have k1 : ¬ ((i : Int) < (cn n : Int)) := by omega
      have hie : i = cn n := by omega
      rw [hie] at M
      clear hie hlt hi'
      rcases M.own.2 with ⟨_, h0⟩ | ⟨g', cap', cur, hv, hge, hh, hle, hmax, hsz, htk⟩
      · have := Lat.edg_len HN.out
        unfold Lat.edg at this
        unfold cn at h0
        rw [h0, Nat.mul_assoc] at this
        have := HN.out.1
        have := Nat.mul_le_mul this this
        omega
      · subst hv
        have HR := Lib.hid (And.intro M.below (And.intro (ed_of_own M.own rfl) (And.intro hle (And.intro hmax hge))))
        clear M hh hle hmax hge hsz htk
        go_wp2_with fail
        go_ret2
        exact ⟨g', cap', rfl, HR.out.2.2.1, by have := HR.out.2.2.2.1; unfold maxLen at this; omega, HR.out.1, HR.out.2.2.2.2, HR.out.2.1⟩
end Go.Proofs.YtehehhehilgnkaaGreat

namespace Go.Proofs.YtehehhehilgnkaaGreat
open Go.RowKit Go.Maps Go.Shelf

theorem Ls.form {w : World} {v : Value} {m k : Nat} {F : Nat → Int} (h : Ls w v m k F) : ∃ A cap, v = .slice A m cap := by
  obtain ⟨A, cap, h1, -⟩ := h
  exact ⟨A, cap, h1⟩
theorem Ls.at_ {w : World} {A : Option Addr} {m k cap : Nat} {F : Nat → Int} (h : Ls w (.slice A m cap) m k F) {i : Nat} (hi : i < m) : ∃ g, A = some ⟨g, 0, none⟩ ∧ ∀ j, j < k → w.cell? ⟨g, i * k + j, none⟩ = some (.int .i64 (F (i * k + j))) := by
  obtain ⟨A', cap', e, -, -, h4⟩ := h
  injection e with e
  subst e
  obtain ⟨g, e1, -, e3⟩ := h4 i hi
  exact ⟨g, e1, e3⟩
theorem lsr_no {u : Int} {k : Nat} {F : Nat → Int} {w w' : World} {e : Ending} (h : e = .returned (.tuple #[.slice none 0 0, .int .i64 u]) ∧ w = w') : LsR u 0 k F w e w' := by
  obtain ⟨rfl, rfl⟩ := h
  exact ⟨_, rfl, Below.refl _ _, Ls.nil _ _ _⟩
theorem frq_or (x : Int) : (∃ n : Nat, x = n ∧ Lat.frq n) ∨ ¬ (1 ≤ x ∧ x ≤ 8) := by
  by_cases h : 1 ≤ x ∧ x ≤ 8
  · obtain ⟨n, rfl⟩ := Int.eq_ofNat_of_zero_le (show 0 ≤ x by omega)
    exact .inl ⟨n, rfl, by unfold Lat.frq; omega⟩
  · exact .inr h
theorem lsr_nodes {n : Nat} {w w' : World} {e : Ending} (h : NodesR w n e w') : LsR 0 (cn n) 4 (nof (ncs n (Lat.nodes n))) w e w' := by
  obtain ⟨g, cap, h1, h2, h3⟩ := h
  exact ⟨_, h1, h2, ls_own h3 (ncs_ints _ _)⟩
theorem nodes_both (x : Int) : ∃ (u : Int) (m : Nat) (F : Nat → Int), m ≤ 1000000 ∧ (∀ w, Calls Tryz.prog 5 #[.int .i64 x] w (LsR u m 4 F w)) ∧ ∀ w, Calls Tryz.prog 6 #[.int .i64 x] w (LsR u m 4 F w) := by
  rcases frq_or x with ⟨n, rfl, hn⟩ | hn
  · exact ⟨0, cn n, nof (ncs n (Lat.nodes n)), by have := cn_le hn; omega, fun w => (nodes_yes n w hn).mono fun e w' h => lsr_nodes h, fun w => (refNodes_yes n w hn).mono fun e w' h => lsr_nodes h⟩
  · exact ⟨1, 0, fun _ => 0, by omega, fun w => (nodes_no x w hn).mono fun e w' h => lsr_no h, fun w => (refNodes_no x w hn).mono fun e w' h => lsr_no h⟩
theorem cells_both (x : Int) : ∃ (u : Int) (m : Nat) (F : Nat → Int), m ≤ 1000000 ∧ (∀ w, Calls Tryz.prog 7 #[.int .i64 x] w (LsR u m 3 F w)) ∧ ∀ w, Calls Tryz.prog 8 #[.int .i64 x] w (LsR u m 3 F w) := by
  rcases frq_or x with ⟨n, rfl, hn⟩ | hn
  · by_cases hL : ∃ L, Lat.IsCels (Lat.cls n 20) L
    · obtain ⟨L, hL⟩ := hL
      refine ⟨0, L.length, nof (tcs L), ?_, fun w => (cells_yes n w hn).mono ?_, fun w => (refCells_yes n w hn).mono ?_⟩
      · have h8 := hn.2
        have := Nat.mul_le_mul (Nat.le_refl 20) (Nat.mul_le_mul h8 h8)
        rw [Lat.cels_len hL, Lat.cls_len]
        omega
      · rintro e w' ⟨g, cap, L', h1, h2, h3, h4, -, h6, h7⟩
        obtain rfl := Lat.cels_one h7 hL
        exact ⟨_, h1, h4, ls_tr h6 h2 h3⟩
      · rintro e w' ⟨v, L', h1, h2, h3, h4⟩
        obtain rfl := Lat.cels_one h3 hL
        exact ⟨_, h1, h2, ls_own h4 (tcs_ints _)⟩
    · refine ⟨0, 0, fun _ => 0, by omega, fun w => (cells_yes n w hn).mono ?_, fun w => (refCells_yes n w hn).mono ?_⟩
      · rintro e w' ⟨g, cap, L', -, -, -, -, -, -, h7⟩
        exact absurd ⟨L', h7⟩ hL
      · rintro e w' ⟨v, L', -, -, h3, -⟩
        exact absurd ⟨L', h3⟩ hL
  · exact ⟨1, 0, fun _ => 0, by omega, fun w => (cells_no x w hn).mono fun e w' h => lsr_no h, fun w => (refCells_no x w hn).mono fun e w' h => lsr_no h⟩
theorem lsr_edges {n : Nat} {w w' : World} {e : Ending} (h : EdgR w n e w') : LsR 0 (Lat.edg n).length 2 (nof (ecs (Lat.edg n))) w e w' := by
  obtain ⟨g, cap, h1, h2, h3, h4, -, h6⟩ := h
  exact ⟨_, h1, h4, ls_ed h6 h2 h3⟩
theorem edges_both (x : Int) : ∃ (u : Int) (m : Nat) (F : Nat → Int), m ≤ 1000000 ∧ (∀ w, Calls Tryz.prog 9 #[.int .i64 x] w (LsR u m 2 F w)) ∧ ∀ w, Calls Tryz.prog 10 #[.int .i64 x] w (LsR u m 2 F w) := by
  rcases frq_or x with ⟨n, rfl, hn⟩ | hn
  · refine ⟨0, (Lat.edg n).length, nof (ecs (Lat.edg n)), ?_, fun w => (edges_yes n w hn).mono fun e w' h => lsr_edges h, fun w => (refEdges_yes n w hn).mono fun e w' h => lsr_edges h⟩
    have h8 := hn.2
    have := Nat.mul_le_mul (Nat.le_refl 30) (Nat.mul_le_mul h8 h8)
    rw [Lat.edg_len hn, Nat.mul_assoc]
    omega
  · exact ⟨1, 0, fun _ => 0, by omega, fun w => (edges_no x w hn).mono fun e w' h => lsr_no h, fun w => (refEdges_no x w hn).mono fun e w' h => lsr_no h⟩
theorem lsr_nei {n a : Nat} {w w' : World} {e : Ending} (h : NeiR w n a e w') : LsR 0 (Lat.nbs n a).length 1 (nof (zc (Lat.nbs n a))) w e w' := by
  obtain ⟨v, h1, h2, h3⟩ := h
  exact ⟨v, h1, h2, ls_nm h3⟩
theorem nei_both (x y : Int) : ∃ (u : Int) (m : Nat) (F : Nat → Int), m ≤ 1000000 ∧ (∀ w, Calls Tryz.prog 12 #[.int .i64 x, .int .i64 y] w (LsR u m 1 F w)) ∧ ∀ w, Calls Tryz.prog 13 #[.int .i64 x, .int .i64 y] w (LsR u m 1 F w) := by
  by_cases h : okB x y = true
  · obtain ⟨n, a, rfl, rfl, hn, ha⟩ := okB_nat h
    exact ⟨0, (Lat.nbs n a).length, nof (zc (Lat.nbs n a)), by have := Lat.nbs_len hn ha; omega, fun w => (neighbours_yes n a w hn ha).mono fun e w' h => lsr_nei h, fun w => (refNei_yes n a w hn ha).mono fun e w' h => lsr_nei h⟩
  · have h' : okB x y = false := by cases hh : okB x y <;> simp_all
    exact ⟨1, 0, fun _ => 0, by omega, fun w => (neighbours_no x y w h').mono fun e w' h => lsr_no h, fun w => (refNei_no x y w h').mono fun e w' h => lsr_no h⟩
set_option maxRecDepth 100000 in
theorem ints_same (va vb : Value) (m : Nat) (F : Nat → Int) (w : World) (ha : Ls w va m 1 F) (hb : Ls w vb m 1 F) (hm : m ≤ 1000000) : Calls Tryz.prog 14 #[va, vb] w fun e w' => e = .returned (.bool true) ∧ Below w.heap.size w w' := by
  obtain ⟨A, cA, rfl⟩ := ha.form
  obtain ⟨B, cB, rfl⟩ := hb.form
  have HA := Lib.hid ha; clear ha
  have HB := Lib.hid hb; clear hb
  go_enter Tryz.func14, Tryz.ntmps14
  go_wp2_with fail
  go_loopw [5] (fun t wr => ∃ k : Nat, k ≤ m ∧ t = .int .i64 k ∧ ∃ q, wr = w.drewN q) (fun t _ => m - (intOf t).toNat)
  case atStart => exact ⟨0, by omega, rfl, 0, rfl⟩
  case round =>
    obtain ⟨k, hk, rfl, q, rfl⟩ := hrel
    by_cases hlt : k < m
    · obtain ⟨g, rfl, c⟩ := HA.out.at_ hlt
      obtain ⟨g', rfl, d⟩ := HB.out.at_ hlt
      have k0 : (0 : Int) ≤ (k : Int) := by omega
      have k1 : (k : Int) < (m : Int) := by omega
      have c0 := c 0 (by omega)
      have d0 := d 0 (by omega)
      rw [Nat.mul_one, Nat.add_zero] at c0 d0
      clear c d
      generalize F k = z at *
      go_wp2_with fail
      go_quiet (fail)
      go_wp2_with fail
      go_roundw
      case rel => exact ⟨k + 1, by omega, by go_num, _, rfl⟩
      case measure => simp [intOf]; omega
    · have k1 : ¬ ((k : Int) < (m : Int)) := by omega
      go_wp2_with fail
      go_ret
      exact ⟨rfl, bel_drewN _ _⟩
theorem eq_place4 (a b c d : Int) (w : World) :
    (Op.equalIn 10000 32 (.agg #[.int .i64 a, .int .i64 b, .int .i64 c, .int .i64 d]) (.agg #[.int .i64 a, .int .i64 b, .int .i64 c, .int .i64 d])).run Tryz.prog w = .ok true w := by
  have u3 := Tryz.underlying3
  have a3 := Tryz.isAgg3
  have z3 := Tryz.sizeOf3
  have hS : Tryz.prog.underlying 32 = some (.struct (Tryz.prog.fieldsOf 32)) := by kernel_rfl
  rw [show (10000 : Nat) = 9999 + 1 from rfl, run_equalIn_agg w 9999 32 _ _ hS (by kernel_rfl)]
  simp only [Program.fieldsOf, Tryz.underlying32]
  go_simp
theorem eq_cell3 (a b c : Int) (w : World) :
    (Op.equalIn 10000 34 (.agg #[.int .i64 a, .int .i64 b, .int .i64 c]) (.agg #[.int .i64 a, .int .i64 b, .int .i64 c])).run Tryz.prog w = .ok true w := by
  have u3 := Tryz.underlying3
  have a3 := Tryz.isAgg3
  have z3 := Tryz.sizeOf3
  have hS : Tryz.prog.underlying 34 = some (.struct (Tryz.prog.fieldsOf 34)) := by kernel_rfl
  rw [show (10000 : Nat) = 9999 + 1 from rfl, run_equalIn_agg w 9999 34 _ _ hS (by kernel_rfl)]
  simp only [Program.fieldsOf, Tryz.underlying34]
  go_simp
theorem eq_edge2 (a b : Int) (w : World) :
    (Op.equalIn 10000 39 (.agg #[.int .i64 a, .int .i64 b]) (.agg #[.int .i64 a, .int .i64 b])).run Tryz.prog w = .ok true w := by
  have u3 := Tryz.underlying3
  have a3 := Tryz.isAgg3
  have z3 := Tryz.sizeOf3
  have hS : Tryz.prog.underlying 39 = some (.struct (Tryz.prog.fieldsOf 39)) := by kernel_rfl
  rw [show (10000 : Nat) = 9999 + 1 from rfl, run_equalIn_agg w 9999 39 _ _ hS (by kernel_rfl)]
  simp only [Program.fieldsOf, Tryz.underlying39]
  go_simp
end Go.Proofs.YtehehhehilgnkaaGreat
