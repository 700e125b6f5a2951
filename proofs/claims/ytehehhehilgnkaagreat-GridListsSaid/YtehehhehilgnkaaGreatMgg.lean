/- The edges of a grid, in plain numbers. -/
import Derived.Test.YtehehhehilgnkaaGreatLkM
import Derived.Test.YtehehhehilgnkaaGreatHop
namespace Go.Proofs.YtehehhehilgnkaaGreat.Lat

/-- The edges as numbers. -/
def ec (p : Nat × Nat) : Nat := p.1 * 1024 + p.2
/-- All edges of a grid. -/
def edg (n : Nat) : List (Nat × Nat) := eds n (10 * n * n + 2)
def edW (ad k : Nat) : List Nat := (List.range k).flatMap fun a => ((nbw ad a).filter (fun b => Nat.blt a b)).map fun b => a * 1024 + b
theorem edW_eq (n : Nat) : (edg n).map ec = edW (AD n) (10 * n * n + 2) := by
  unfold edg eds edW
  rw [List.map_flatMap]
  congr 1
  funext a
  unfold erow
  rw [List.take_length, List.map_map]
  rfl
def ascl : List Nat → Bool
  | a :: b :: r => Nat.blt a b && ascl (b :: r)
  | _ => true
theorem ascl_pw : ∀ {l : List Nat}, ascl l = true → l.Pairwise (· < ·)
  | [], _ => List.Pairwise.nil
  | [_], _ => by simp
  | a :: b :: r, h => by
    unfold ascl at h
    rw [Bool.and_eq_true] at h
    have ih := ascl_pw h.2
    refine List.pairwise_cons.2 ⟨fun z hz => ?_, ih⟩
    have hab : a < b := by simpa using h.1
    rcases List.mem_cons.1 hz with rfl | hz
    · exact hab
    · exact Nat.lt_trans hab ((List.pairwise_cons.1 ih).1 z hz)
def chkE (n : Nat) (l : List Nat) : Bool := ascl l && Nat.beq l.length (30 * n * n)
theorem ee1 : chkE 1 (edW (AD 1) 12) = true := by decide +kernel
theorem ee2 : chkE 2 (edW (AD 2) 42) = true := by decide +kernel
theorem ee3 : chkE 3 (edW (AD 3) 92) = true := by decide +kernel
theorem ee4 : chkE 4 (edW (AD 4) 162) = true := by decide +kernel
theorem ee5 : chkE 5 (edW (AD 5) 252) = true := by decide +kernel
theorem ee6 : chkE 6 (edW (AD 6) 362) = true := by decide +kernel
theorem ee7 : chkE 7 (edW (AD 7) 492) = true := by decide +kernel
theorem ee8 : chkE 8 (edW (AD 8) 642) = true := by decide +kernel
theorem ee_all {n : Nat} (h : frq n) : chkE n (edW (AD n) (10 * n * n + 2)) = true := by
  rcases eight h with rfl | rfl | rfl | rfl | rfl | rfl | rfl | rfl
  · exact ee1
  · exact ee2
  · exact ee3
  · exact ee4
  · exact ee5
  · exact ee6
  · exact ee7
  · exact ee8
theorem edg_len {n : Nat} (h : frq n) : (edg n).length = 30 * n * n := by
  have := ee_all h
  rw [← edW_eq] at this
  simp only [chkE, Bool.and_eq_true, List.length_map] at this
  exact Nat.eq_of_beq_eq_true this.2
theorem edg_pw {n : Nat} (h : frq n) : (edg n).Pairwise (fun p q => ec p < ec q) := by
  have := ee_all h
  rw [← edW_eq] at this
  simp only [chkE, Bool.and_eq_true] at this
  exact List.pairwise_map.1 (ascl_pw this.1)
theorem edg_mem {n a b : Nat} : (a, b) ∈ edg n ↔ a < 10 * n * n + 2 ∧ b ∈ nbs n a ∧ a < b := by
  unfold edg eds erow
  simp only [List.mem_flatMap, List.mem_range, List.take_length, List.mem_map, List.mem_filter, Prod.mk.injEq]
  constructor
  · rintro ⟨x, hx, y, ⟨hy, hl⟩, rfl, rfl⟩
    exact ⟨hx, hy, by simpa using hl⟩
  · rintro ⟨h1, h2, h3⟩
    exact ⟨a, h1, b, ⟨h2, by simpa using h3⟩, rfl, rfl⟩
theorem eds_len_le {n : Nat} (h : frq n) : ∀ k, k ≤ 10 * n * n + 2 → (eds n k).length ≤ 6 * k
  | 0, _ => by simp [eds]
  | k + 1, hk => by
    rw [eds_succ, List.length_append]
    have h1 := eds_len_le h k (by omega)
    have h2 : (erow n k (nbs n k).length).length ≤ (nbs n k).length := by
      unfold erow
      rw [List.length_map, List.take_length]
      exact List.length_filter_le _ _
    have h3 := nbs_len h (show k < 10 * n * n + 2 by omega)
    omega
theorem eds_le {n i k : Nat} (h : frq n) (hi : i ≤ 10 * n * n + 2) : (eds n i ++ erow n i k).length ≤ 6 * i + k := by
  rw [List.length_append]
  have h1 := eds_len_le h i hi
  have h2 : (erow n i k).length ≤ k := by
    unfold erow
    rw [List.length_map]
    exact Nat.le_trans (List.length_filter_le _ _) (List.length_take_le _ _)
  omega
end Go.Proofs.YtehehhehilgnkaaGreat.Lat


namespace Go.Proofs.YtehehhehilgnkaaGreat
open Go.RowKit Go.Maps Go.Shelf

/-- The cells of edges. -/
def ecl (p : Nat × Nat) : List Value := [.int .i64 (p.1 : Int), .int .i64 (p.2 : Int)]
def ecs (L : List (Nat × Nat)) : List Value := L.flatMap ecl
theorem ecs_snoc (L : List (Nat × Nat)) (t : Nat × Nat) : ecs (L ++ [t]) = ecs L ++ ecl t := by simp [ecs]
theorem ecl_one (t : Nat × Nat) : ∀ u ∈ ecl t, u.oneCell' = true := by
  intro u hu
  simp only [ecl, List.mem_cons, List.not_mem_nil, or_false] at hu
  rcases hu with rfl | rfl <;> rfl
theorem ecs_at : ∀ (L : List (Nat × Nat)) (k : Nat) (h : k < L.length), (ecs L)[k * 2]? = some (.int .i64 ((L[k]).1 : Int)) ∧ (ecs L)[k * 2 + 1]? = some (.int .i64 ((L[k]).2 : Int))
  | p :: r, 0, _ => ⟨rfl, rfl⟩
  | p :: r, k + 1, h => by
    have := ecs_at r k (by simpa using h)
    have e : ecs (p :: r) = .int .i64 (p.1 : Int) :: .int .i64 (p.2 : Int) :: ecs r := rfl
    rw [e, show (k + 1) * 2 = k * 2 + 1 + 1 by omega]
    simpa using this
theorem infoEdge : (Tryz.prog.info? 39).map (fun i => (i.zero, i.size, i.bytes)) = some (some (.agg #[.int .i64 0, .int .i64 0]), 2, 16) := by kernel_rfl
/-- Edges in memory. -/
structure EdIn (w : World) (g : Nat) (L : List (Nat × Nat)) : Prop where
  lt : g < w.heap.size
  at_ : ∀ k (h : k < L.length), w.cell? ⟨g, k * 2, none⟩ = some (.int .i64 ((L[k]).1 : Int)) ∧ w.cell? ⟨g, k * 2 + 1, none⟩ = some (.int .i64 ((L[k]).2 : Int))
theorem EdIn.under {w w' : World} {g : Nat} {L : List (Nat × Nat)} (h : EdIn w g L) (hb : Below w.heap.size w w') : EdIn w' g L :=
  ⟨Nat.lt_of_lt_of_le h.lt hb.size, fun k hk => ⟨(hb.cell (p := ⟨g, k * 2, none⟩) h.lt).trans (h.at_ k hk).1, (hb.cell (p := ⟨g, k * 2 + 1, none⟩) h.lt).trans (h.at_ k hk).2⟩⟩
theorem EdIn.grown {w w' : World} {g : Nat} {r : Option Nat} {L : List (Nat × Nat)} (h : EdIn w g L) (hb : w.grownBy w' r) (hr : some g ≠ r) : EdIn w' g L :=
  ⟨Nat.lt_of_lt_of_le h.lt hb.size, fun k hk => ⟨(hb.cell_far ⟨g, k * 2, none⟩ h.lt hr).trans (h.at_ k hk).1, (hb.cell_far ⟨g, k * 2 + 1, none⟩ h.lt hr).trans (h.at_ k hk).2⟩⟩
theorem ed_of_own {w : World} {base n g cap : Nat} {e : TypeId} {L : List (Nat × Nat)} (h : w.ownsRow base e 2 (.slice (some ⟨g, 0, none⟩) n cap) n (ecs L)) (hn : n = L.length) : EdIn w g L :=
  ⟨(own_heap h).2.1, fun k hk => by
    subst hn
    rw [h.cellAt (k * 2) (by omega), h.cellAt (k * 2 + 1) (by omega)]
    exact ecs_at L k hk⟩
/-- What Edges leaves. -/
def EdgR (W : World) (n : Nat) (e : Ending) (w : World) : Prop := ∃ g cap, e = .returned (.tuple #[.slice (some ⟨g, 0, none⟩) (Lat.edg n).length cap, .int .i64 0]) ∧ (Lat.edg n).length ≤ cap ∧ cap ≤ 9223372036854775807 ∧ Below W.heap.size W w ∧ W.heap.size ≤ g ∧ EdIn w g (Lat.edg n)
theorem edges_no (n : Int) (w : World) (hn : ¬ (1 ≤ n ∧ n ≤ 8)) : Calls Tryz.prog 9 #[.int .i64 n] w fun e w' => e = .returned (.tuple #[.slice none 0 0, .int .i64 1]) ∧ w = w' := by
  have HN := Lib.hid hn; clear hn
  go_enter Tryz.func9, Tryz.ntmps9
  go_wp2_with fail
  refine (isFrequency_no _ _ HN.out).mono ?_
  rintro e w1 ⟨rfl, rfl⟩
  go_wp2_with fail
  go_ret2
  exact ⟨rfl, rfl⟩
/-- What is known while the nodes are gone through: w was the world, wl that behind links; the list lies apart from the neighbours. -/
structure Eg (w wl : World) (n g : Nat) (L : List (Nat × Nat)) (v : Value) (w' : World) : Prop where
  below : Below w.heap.size w w'
  own : w'.ownsRow w.heap.size 39 2 v L.length (ecs L)
  nb : ∀ i, i < cn n → ∃ b c, w'.cell? ⟨g, i, none⟩ = some (.slice (some ⟨b, 0, none⟩) (Lat.nbs n i).length c) ∧ Cs w' b (Lat.nbs n i) ∧ (Lat.nbs n i).length ≤ c ∧ c ≤ 9223372036854775807 ∧ v.ownBlock ≠ some b
  gl : g < w'.heap.size ∧ v.ownBlock ≠ some g
theorem Eg.more {w wl w1 w' : World} {n g : Nat} {L : List (Nat × Nat)} {v : Value} {t : Nat × Nat} {g' cap' : Nat} (h : Eg w wl n g L v w1) (ho : w'.ownsRow w.heap.size 39 2 (.slice (some ⟨g', 0, none⟩) (L.length + 1) cap') (L.length + 1) (ecs L ++ ecl t)) (hg : (w1.alloc (.cells #[.int .i64 (t.1 : Int), .int .i64 (t.2 : Int)] 39)).grownBy w' v.ownBlock) (hat : v.ownBlock = some g' ∨ g' = (w1.alloc (.cells #[.int .i64 (t.1 : Int), .int .i64 (t.2 : Int)] 39)).heap.size) : Eg w wl n g (L ++ [t]) (.slice (some ⟨g', 0, none⟩) (L.length + 1) cap') w' := by
  have hx : Below w1.heap.size w1 (w1.alloc (.cells #[.int .i64 (t.1 : Int), .int .i64 (t.2 : Int)] 39)) := (Below.refl _ _).alloc (Nat.le_refl _) _
  have hs := hx.size
  have ne : ∀ b, b < w1.heap.size → v.ownBlock ≠ some b → (Value.slice (some ⟨g', 0, none⟩) (L.length + 1) cap').ownBlock ≠ some b := fun b hb hne e => by
    have e2 : g' = b := by simpa [Value.ownBlock] using e
    rcases hat with h1 | h1
    · exact hne (h1.trans (by rw [e2]))
    · omega
  refine ⟨below_own (h.below.trans (hx.mono h.below.size)) (Nat.le_trans h.below.size hs) (h.own.alloc _) hg, by rw [ecs_snoc, List.length_append]; exact ho, fun i hi => ?_, Nat.lt_of_lt_of_le (Nat.lt_of_lt_of_le h.gl.1 hs) hg.size, ne g h.gl.1 h.gl.2⟩
  obtain ⟨b, c, h1, h2, h3, h4, h5⟩ := h.nb i hi
  exact ⟨b, c, (hg.cell_far ⟨g, i, none⟩ (Nat.lt_of_lt_of_le h.gl.1 hs) (fun e => h.gl.2 e.symm)).trans ((hx.cell (p := ⟨g, i, none⟩) h.gl.1).trans h1), (h2.under hx).grown hg (fun e => h5 e.symm), h3, h4, ne b h2.lt h5⟩
theorem own_apart {v : Value} {b B H g' n cap : Nat} (hb : b < B) (hne : v.ownBlock ≠ some b) (hat : v.ownBlock = some g' ∨ g' = H) (hH : B ≤ H) : (Value.slice (some ⟨g', 0, none⟩) n cap).ownBlock ≠ some b := fun e => by
  have e2 : g' = b := by simpa [Value.ownBlock] using e
  rcases hat with h1 | h1
  · exact hne (h1.trans (by rw [e2]))
  · omega
set_option maxRecDepth 100000 in
set_option maxHeartbeats 8000000 in
theorem edges_yes (n : Nat) (w : World) (hn : Lat.frq n) : Calls Tryz.prog 9 #[.int .i64 n] w (EdgR w n) := by
  have hc := cn_le hn
  have hn8 : n ≤ 8 := hn.2
  obtain ⟨i0, hi, hz0, hz1, hz2⟩ := info_parts infoEdge
  have hm : 30 * n * n ≤ 1920 := by
    rw [Nat.mul_assoc]
    exact Nat.mul_le_mul (Nat.le_refl 30) (Nat.mul_le_mul hn8 hn8)
  have hm1 : 30 * (n : Int) * (n : Int) ≤ 1920 := by
    have : ((30 * n * n : Nat) : Int) ≤ 1920 := by omega
    exact this
  have hm0 : 0 ≤ 30 * (n : Int) * (n : Int) := by
    have : (0 : Int) ≤ ((30 * n * n : Nat) : Int) := by omega
    exact this
  have hn0 : 1 ≤ (n : Int) ∧ (n : Int) ≤ 8 := by unfold Lat.frq at hn; omega
  obtain ⟨hn1, hn2⟩ := hn0
  have HN := Lib.hid hn; clear hn
  go_enter Tryz.func9, Tryz.ntmps9
  go_wp2_with fail
  refine (isFrequency_yes _ _ HN.out).mono ?_
  rintro e w1 ⟨rfl, rfl⟩
  go_upto_region 4 with (at_make; refine wpList_make_own _ rfl _ _ 35 rfl w.heap.size 39 i0 _ 2 Tryz.underlying35 hi hz0 hz1 .i64 .i64 _ (30 * n * n) rfl rfl rfl (by rw [hz2]; omega) (by unfold maxLen; omega) (Nat.le_refl _) ?_; intro w2 hown2 hgrow2)
  have b2 := below_new0 hgrow2
  have hsz := (own_heap hown2).2.1
  have HO := Lib.hid (And.intro hown2 (And.intro b2 hsz)); clear hown2 b2 hsz hgrow2 hm hm0 hm1
  go_wp2_with fail
  refine (links_any _ _ HN.out).mono ?_
  rintro e wl ⟨g, cg, rfl, h1, h2, hb, hg, hnb, hlo⟩
  have hE : Eg w wl n g [] (.slice (some ⟨w.heap.size, 0, none⟩) 0 (30 * n * n)) wl := by
    refine ⟨HO.out.2.1.trans (hb.mono HO.out.2.1.size), by simpa [ecs] using own_under HO.out.1 hb, fun i hi => ?_, hnb.lt, ?_⟩
    · obtain ⟨v, v1, v2⟩ := hnb.at_ i hi
      obtain ⟨b, c, q1, q2⟩ := hlo i hi
      rw [q1] at v1
      injection v1 with v1
      subst v1
      obtain ⟨b', c', e1, e2, e3, e4⟩ := v2
      injection e1 with e1 _ e5
      injection e1 with e1
      injection e1 with e1
      subst e1 e5
      exact ⟨b, c, q1, e4, e2, e3, by have := HO.out.2.2; simp [Value.ownBlock]; omega⟩
    · have := HO.out.2.2
      simp [Value.ownBlock]; omega
  have HE := Lib.hid hE
  clear hE hb hg hnb hlo HO
  go_wp2_with fail
  go_loopw [4, 20] (fun v t wr => ∃ i : Nat, i ≤ cn n ∧ t = .int .i64 i ∧ Eg w wl n g (Lat.eds n i) v wr) (fun _ t _ => cn n - (intOf t).toNat)
  case atStart => exact ⟨0, by omega, rfl, by simpa [Lat.eds] using HE.out⟩
  case round =>
    clear HE
    obtain ⟨i, hi', rfl, M⟩ := hrel
    by_cases hlt : i < cn n
    · have k0 : (0 : Int) ≤ (i : Int) := by omega
      have k1 : (i : Int) < (cn n : Int) := by omega
      obtain ⟨b, c, q0, q1, q2, q3, q4⟩ := M.nb i hlt
      have HI := Lib.hid hlt
      have hl6 := Lat.nbs_len HN.out hlt
      have HES := Lib.hid (Lat.eds_succ n i)
      have HY := Lib.hid (fun k (hk : k < (Lat.nbs n i).length) => Lat.erow_yes (a := i) hk)
      have HZ := Lib.hid (fun k (hk : k < (Lat.nbs n i).length) => Lat.erow_no (a := i) hk)
      have HLE := Lib.hid (fun k => Lat.eds_le (n := n) (i := i) (k := k) HN.out (Nat.le_of_lt hlt))
      have HM : Hid (Eg w wl n g (Lat.eds n i ++ Lat.erow n i 0) «u4» wr ∧ Cs wr b (Lat.nbs n i) ∧ «u4».ownBlock ≠ some b) := Lib.hid ⟨by simpa [Lat.erow] using M, q1, q4⟩
      clear M q1 q4
      have HIN := Lib.hid (fun x (h : x ∈ Lat.nbs n i) => (Lat.nbs_in HN.out HI.out h).1)
      generalize hL : Lat.nbs n i = L at *
      have HL := Lib.hid hL; clear hL
      go_wp2_with fail
      clear q0
      go_loopw [4, 27] (fun v t wr => ∃ j : Nat, j ≤ L.length ∧ t = .int .i64 j ∧ Eg w wl n g (Lat.eds n i ++ Lat.erow n i j) v wr ∧ Cs wr b L ∧ v.ownBlock ≠ some b) (fun _ t _ => L.length - (intOf t).toNat)
      case atStart => exact ⟨0, by omega, rfl, HM.out⟩
      case round =>
        clear HM
        obtain ⟨j, hj, rfl, M, hcs, hne⟩ := hrel
        by_cases hlj : j < L.length
        · have j0 : (0 : Int) ≤ (j : Int) := by omega
          have j1 : (j : Int) < (L.length : Int) := by omega
          have p1 := hcs.at_ j hlj
          have hxin := HIN.out _ (List.getElem_mem hlj)
          have HYJ := Lib.hid (HY.out j hlj)
          have HZJ := Lib.hid (HZ.out j hlj)
          generalize L[j] = x at *
          have HLJ := Lib.hid (HLE.out j)
          have HC := Lib.hid hcs
          have HX := Lib.hid hxin; clear hxin hcs
          have HNE := Lib.hid hne; clear hne
          by_cases hix : i < x
          · have x1 : (i : Int) < (x : Int) := by omega
            have HT := Lib.hid (show Lat.eds n i ++ Lat.erow n i (j + 1) = (Lat.eds n i ++ Lat.erow n i j) ++ [(i, x)] by rw [HYJ.out hix, List.append_assoc])
            generalize Lat.eds n i ++ Lat.erow n i j = E at *
            clear HYJ HZJ
            have HM := Lib.hid M; clear M
            have HO := Lib.hid (HM.out.own.alloc (.cells #[.int .i64 (i : Int), .int .i64 (x : Int)] 39))
            go_wp2_with (at_builtin; refine wpList_append_lies _ rfl (.tmp 34) (.tmp 38) 35 rfl w.heap.size 39 i0 _ 2 16 Tryz.underlying35 hi hz0 hz1 hz2 rfl (by decide) «u4» E.length (ecs E) rfl HO.out ⟨wr.heap.size, 0, none⟩ 1 1 (ecl (i, x)) rfl rfl (World.news_of_block (cs := #[.int .i64 (i : Int), .int .i64 (x : Int)]) (t := 39) (fr := (0, 0)) (heap_alloc_new wr _)) (ecl_one _) (by omega) (by have := HLJ.out; unfold maxLen; omega) (by have := HLJ.out; omega) (by have := HM.out.below.size; simp; omega) _ rfl ?_; intro g' cap' w6 hown6 hgrow6 hat6 hlt6; have H6 := Lib.hid (HM.out.more (t := (i, x)) hown6 hgrow6 hat6); have HC6 := Lib.hid ((HC.out.under ((Below.refl _ _).alloc (Nat.le_refl _) _)).grown hgrow6 (fun e => HNE.out e.symm)); have HN6 := Lib.hid (own_apart (n := E.length + 1) (cap := cap') HC.out.lt HNE.out hat6 (by simp)); clear hown6 hgrow6 hat6 hlt6 HO HM HC HNE p1)
            go_wp2_with fail
            go_roundw
            case rel => exact ⟨j + 1, by omega, by go_num, by rw [HT.out]; exact H6.out, HC6.out, HN6.out⟩
            case measure => simp [intOf]; omega
          · have x1 : ¬ (i : Int) < (x : Int) := by omega
            have HT := Lib.hid (HZJ.out hix)
            have HM := Lib.hid M; clear M
            go_wp2_with fail
            go_roundw
            case rel => exact ⟨j + 1, by omega, by go_num, by rw [HT.out]; exact HM.out, HC.out, HNE.out⟩
            case measure => simp [intOf]; omega
        · have j1 : ¬ ((j : Int) < (L.length : Int)) := by omega
          have hje : j = L.length := by omega
          have HJE := Lib.hid hje; clear hje
          have HM := Lib.hid M; clear M hcs hne
          go_wp2_with fail
          go_roundw
          case rel => exact ⟨i + 1, by omega, by go_num, by have := HM.out; rw [HJE.out] at this; rw [HES.out]; exact this⟩
          case measure => simp [intOf]; omega
    · have k1 : ¬ ((i : Int) < (cn n : Int)) := by omega
      have hie : i = cn n := by omega
      rw [hie] at M
      clear hie hlt hi'
      rcases M.own.2 with ⟨_, h0⟩ | ⟨g', cap', cur, hv, hge, hh, hle, hmax, hsz, htk⟩
      · have := Lat.edg_len HN.out
        unfold Lat.edg at this
        unfold cn at h0
        rw [h0, Nat.mul_assoc] at this
        have := HN.out.1
        have := Nat.mul_le_mul this this
        omega
      · subst hv
        have HR := Lib.hid (And.intro M.below (And.intro (ed_of_own M.own rfl) (And.intro hle (And.intro hmax hge))))
        clear M hh hle hmax hge hsz htk
        go_wp2_with fail
        go_ret2
        exact ⟨g', cap', rfl, HR.out.2.2.1, by have := HR.out.2.2.2.1; unfold maxLen at this; omega, HR.out.1, HR.out.2.2.2.2, HR.out.2.1⟩
end Go.Proofs.YtehehhehilgnkaaGreat

