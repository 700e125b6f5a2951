/- The walk of TrackOrder: for every list the law returns true, and what lay in memory is as it was. -/
import Derived.Test.YtejoabaanclcbaaGreatTkPb
namespace Go.Proofs.YtejoabaanclcbaaGreat.Tk
open Go.RowKit

theorem order_nat {P : List Int} {n : Nat} (h : P.Perm (upto n)) : ∃ Q : List Nat, Q.Perm (List.range n) ∧ nmc P = ic Q ∧ Q.length = n ∧ P.length = n := by
  have hl : P.length = n := by rw [h.length_eq, upto_len]
  refine ⟨P.map Int.toNat, ?_, ?_, by rw [List.length_map, hl], hl⟩
  · have h2 := h.map Int.toNat
    have e : (upto n).map Int.toNat = List.range n := by
      unfold upto
      rw [List.map_map]
      conv => rhs; rw [← List.map_id (List.range n)]
      exact List.map_congr_left fun x _ => by simp
    rwa [e] at h2
  · unfold nmc ic
    rw [List.map_map]
    refine List.map_congr_left fun x hx => ?_
    have hx2 := h.mem_iff.1 hx
    unfold upto at hx2
    obtain ⟨y, -, rfl⟩ := List.mem_map.1 hx2
    simp
theorem Lw.own2 {w Y : World} {R : List Rq} {u : Value} (h : Lw w R u Y) : ∃ base, (w.heap.size + 1 ≤ base ∧ base ≤ Y.heap.size) ∧ Y.ownsRow base 35 8 u R.length (rqc R) := by
  obtain ⟨base, h1, h2⟩ := h.own
  have hs := src_at h.src
  rcases h2.2 with ⟨e, h0⟩ | ⟨g, cap, cur, e, hb, hg, hr⟩
  · exact ⟨w.heap.size + 1, ⟨Nat.le_refl _, hs⟩, h2.1, .inl ⟨e, h0⟩⟩
  · have := (Array.getElem?_eq_some_iff.1 hg).1
    exact ⟨base, ⟨h1, by omega⟩, h2⟩
theorem own_addr {w : World} {base size n m c : Nat} {e : TypeId} {A : Option Addr} {xs : List Value} (h : w.ownsRow base e size (.slice A m c) n xs) (hn : 0 < n) : ∃ g, A = some ⟨g, 0, none⟩ := by
  rcases h.2 with ⟨-, h0⟩ | ⟨g, cap, cur, e, -⟩
  · omega
  · injection e with e
    exact ⟨g, e⟩
theorem own_at8 {W : World} {base g n c : Nat} {R : List Rq} (h : W.ownsRow base 35 8 (.slice (some ⟨g, 0, none⟩) n c) R.length (rqc R)) (i : Nat) (hi : i < R.length) : At8 W g (i * 8) R[i] := by
  obtain ⟨A0, c0, e0, -, -, h8⟩ := RqIn.own h
  injection e0 with e0 e1 e2
  subst e0
  obtain ⟨g', off', e', hg, h8b⟩ := h8 i hi
  injection e' with e'
  have h3 : W.ownsRow base 35 8 (.slice (some ⟨g, 0, none⟩) n c) R.length (rqc R) := h
  injection e' with e' e''
  subst e' e''
  rw [Nat.zero_add] at h8b
  exact h8b
theorem in_yes (u : Value) (a : List Nat) (x : Nat) (w : World) (ha : IlIn w u a) (hl : a.length ≤ 100000) (hx : x ∈ a) :
    Calls Tryz.prog 24 #[u, .int .i64 (x : Int)] w fun e w' => e = .returned (.bool true) ∧ w = w' :=
  (in_any u a x w ha hl).mono fun e w' ⟨h1, h2⟩ => ⟨by rw [h1, decide_eq_true (List.mem_map.2 ⟨x, hx, rfl⟩)], h2⟩
theorem Lw.putP {w Y : World} {R : List Rq} {g n cap : Nat} (h : Lw w R (.slice (Option.some ⟨g, 0, none⟩) n cap) Y) (hn : n = R.length) (i : Nat) (hi : i < R.length) (f a b c : Int) : Lw w (R.set i { R[i] with F := f, A := a, B := b, C := c }) (.slice (Option.some ⟨g, 0, none⟩) n cap) ((((Y.setCell ⟨g, i * 8 + 3, none⟩ (.int .i64 f)).setCell ⟨g, i * 8 + 4, none⟩ (.int .i64 a)).setCell ⟨g, i * 8 + 5, none⟩ (.int .i64 b)).setCell ⟨g, i * 8 + 6, none⟩ (.int .i64 c)) := by
  subst hn
  obtain ⟨base, h1, h2⟩ := h.own
  obtain ⟨k1, -⟩ := h2.stored (i * 8 + 3) (.int .i64 f)
  obtain ⟨k2, -⟩ := k1.stored (i * 8 + 4) (.int .i64 a)
  obtain ⟨k3, -⟩ := k2.stored (i * 8 + 5) (.int .i64 b)
  obtain ⟨k4, -⟩ := k3.stored (i * 8 + 6) (.int .i64 c)
  have hb : base ≤ g := (own_lt h2 rfl).1
  have e : ((((rqc R).set (i * 8 + 3) (.int .i64 f)).set (i * 8 + 4) (.int .i64 a)).set (i * 8 + 5) (.int .i64 b)).set (i * 8 + 6) (.int .i64 c) = rqc (R.set i { R[i] with F := f, A := a, B := b, C := c }) := by
    rw [rqc_set R i hi 3 _ { R[i] with F := f } rfl (by omega)]
    have l1 : i < (R.set i { R[i] with F := f }).length := by rw [List.length_set]; exact hi
    have g1 : (R.set i { R[i] with F := f })[i] = { R[i] with F := f } := by simp
    rw [rqc_set _ i l1 4 _ { R[i] with F := f, A := a } (by rw [g1]; rfl) (by omega), List.set_set]
    have l2 : i < (R.set i { R[i] with F := f, A := a }).length := by rw [List.length_set]; exact hi
    have g2 : (R.set i { R[i] with F := f, A := a })[i] = { R[i] with F := f, A := a } := by simp
    rw [rqc_set _ i l2 5 _ { R[i] with F := f, A := a, B := b } (by rw [g2]; rfl) (by omega), List.set_set]
    have l3 : i < (R.set i { R[i] with F := f, A := a, B := b }).length := by rw [List.length_set]; exact hi
    have g3 : (R.set i { R[i] with F := f, A := a, B := b })[i] = { R[i] with F := f, A := a, B := b } := by simp
    rw [rqc_set _ i l3 6 _ { R[i] with F := f, A := a, B := b, C := c } (by rw [g3]; rfl) (by omega), List.set_set]
  rw [e] at k4
  refine ⟨src_set (src_set (src_set (src_set h.src g _ _ (by omega) (by omega)) g _ _ (by omega) (by omega)) g _ _ (by omega) (by omega)) g _ _ (by omega) (by omega), base, h1, ?_⟩
  rw [List.length_set]
  exact k4
/-- The list, the order, the list in this order. -/
structure To (w : World) (B : Nat) (X : List Rq) (P : List Nat) (u o y : Value) (V : World) : Prop where
  a : Lw w X u V
  o : IlIn V o P
  y : V.ownsRow B 35 8 y (pm X P).length (rqc (pm X P))
  hB : w.heap.size + 1 ≤ B
section
variable {w V V' : World} {B : Nat} {X : List Rq} {P : List Nat} {u o y : Value}
theorem To.under (h : To w B X P u o y V) (hb : Below V.heap.size V V') : To w B X P u o y V' := ⟨h.a.under hb, h.o.under hb, own_under h.y hb, h.hB⟩
theorem To.step (h : To w B X P u o y V) (hs : Src w w.heap.size V') (hg : V.grownBy V' (some w.heap.size)) : To w B X P u o y V' :=
  ⟨h.a.step hs hg, il_step h.o h.a.src hg, own_keep h.y fun i hi => hg.block i (own_lt h.y hi).2 (fun e => by injection e with e; have := (own_lt h.y hi).1; have := h.hB; omega), h.hB⟩
theorem To.yq (h : To w B X P u o y V) : RqIn V y (pm X P) := RqIn.own h.y
end
theorem Lw.put0 {w Y : World} {R : List Rq} {g n cap : Nat} (h : Lw w R (.slice (Option.some ⟨g, 0, none⟩) n cap) Y) (hn : n = R.length) (i : Nat) (hi : i < R.length) (k : Int) : Lw w (R.set i { R[i] with k := k }) (.slice (Option.some ⟨g, 0, none⟩) n cap) (Y.setCell ⟨g, i * 8, none⟩ (.int .i64 k)) := by
  subst hn
  exact (h.put i hi 0 (.int .i64 k) { R[i] with k := k } rfl (by omega)).1
theorem Lw.put1 {w Y : World} {R : List Rq} {g n cap : Nat} (h : Lw w R (.slice (Option.some ⟨g, 0, none⟩) n cap) Y) (hn : n = R.length) (i : Nat) (hi : i < R.length) (nm : ByteArray) : Lw w (R.set i { R[i] with nm := nm }) (.slice (Option.some ⟨g, 0, none⟩) n cap) (Y.setCell ⟨g, i * 8 + 1, none⟩ (.string nm)) := by
  subst hn
  exact (h.put i hi 1 (.string nm) { R[i] with nm := nm } rfl (by omega)).1
set_option maxRecDepth 100000 in
set_option maxHeartbeats 8000000 in
theorem trackOrder_any (v : Value) (w : World) (hl : ListIn w v) :
    Calls Tryz.prog 5 #[v] w fun e w' => e = .returned (.bool true) ∧ Below w.heap.size w w' := by
  obtain ⟨j0, hj, hj0, hj1, hj2⟩ := info_parts infoRep
  go_enter Tryz.func5, Tryz.ntmps5
  go_wp2_with fail
  refine (new_any _ _ hl).mono ?_
  rintro e w1 ⟨rfl, s1, -⟩
  go_wp2_with fail
  refine (reports_any _ _ _ 6 true s1 (by omega)).mono ?_
  intro e w2 hr
  obtain ⟨R, u, m, ⟨hRF, hm⟩, hR6, rfl, l2, -⟩ := Lw.start s1 hr
  have L2 := Lib.hid l2
  have HD := Lib.hid (rf_dr hRF)
  have HM : Hid (m ≤ 52595999) := Lib.hid (by omega)
  clear l2 hr s1 hl hRF hm
  obtain ⟨Aa, ca, rfl⟩ : ∃ Aa ca, u = .slice Aa R.length ca := by
    obtain ⟨base, h1, h2⟩ := L2.out.own
    exact own_form h2
  have HR6 := Lib.hid hR6
  have HRL : Hid (R.length = R.length) := Lib.hid rfl
  obtain ⟨n0, hn0⟩ : ∃ n, R.length = n := ⟨_, rfl⟩
  rw [hn0] at L2 hR6 HR6
  rw [hn0]
  have HN0 := Lib.hid hn0
  clear hn0 HRL
  go_upto_region 3 with fail
  go_wp2_with fail
  go_loopw [26] (fun t wr => ∃ (i : Nat) (X : List Rq), i ≤ n0 ∧ t = .int .i64 i ∧ n0 = X.length ∧ DR m X ∧ Lw w X (.slice Aa n0 ca) wr) (fun t _ => n0 - (intOf t).toNat)
  case atStart => exact ⟨0, R, by omega, rfl, HN0.out.symm, HD.out, L2.out⟩
  case round =>
    clear L2 HD
    obtain ⟨i, X, hi, rfl, hX, hD, hL⟩ := hrel
    have HX := Lib.hid hX; have HD := Lib.hid hD; have HL := Lib.hid hL
    clear hX hD hL
    by_cases hlt : i < n0
    · have k0 : (i : Int) < (n0 : Int) := by omega
      have k1 : (0 : Int) ≤ (i : Int) := by omega
      have HI : Hid (i < X.length) := Lib.hid (by have := HX.out; omega)
      obtain ⟨g, rfl⟩ := HL.out.some (by have := HI.out; omega)
      go_wp2_with fail
      refine (range_any _ _ _ _ _ HL.out.src (by omega) (by omega) (by omega) (by omega)).mono ?_
      rintro e w3 ⟨kk, ⟨kk1, kk2⟩, rfl, s3, g3⟩
      have L3 := Lib.hid (HL.out.step s3 g3)
      clear HL s3 g3
      obtain ⟨p0, -⟩ := L3.out.at2 HX.out i HI.out
      have z0 := L3.out.thaw (i * 8)
      have L4 := Lib.hid (L3.out.put0 HX.out i HI.out kk)
      have HD4 := Lib.hid (HD.out.set (i := i) HI.out (r := { X[i]'HI.out with k := kk }) rfl (HD.out.2 _ (List.getElem_mem HI.out)).2.2.1 (by show sea kk = true; unfold sea; rw [decide_eq_true_iff]; omega) (HD.out.2 _ (List.getElem_mem HI.out)).2.2.2.2)
      have HX4 : Hid (n0 = (X.set i { X[i]'HI.out with k := kk }).length) := Lib.hid (by rw [List.length_set]; exact HX.out)
      clear L3 HD
      go_upto_region 7 with fail
      clear p0 z0
      generalize w3.setCell ⟨g, i * 8, none⟩ (.int .i64 kk) = Y4 at *
      have HI4 : Hid (i < (X.set i { X[i]'HI.out with k := kk }).length) := Lib.hid (by rw [← HX4.out]; exact hlt)
      generalize X.set i { X[i]'HI.out with k := kk } = X4 at *
      clear HX HI kk1 kk2
      have ba := (Below.refl Y4.heap.size Y4).alloc (Nat.le_refl _) (.cells #[.string dl, .string e7] 9)
      have hrs := Row.new Y4 #[.string dl, .string e7] 9
      have hne : Y4.heap.size ≠ w.heap.size := Nat.ne_of_gt (src_at L4.out.src)
      have L5 := Lib.hid (L4.out.under ba)
      obtain ⟨c0, c1⟩ := row_s hrs
      have hltw := hrs.lt
      clear L4 hrs ba
      go_wp2_with fail
      refine (text_any (fun x => x.size ≤ 5) _ _ _ _ _ _ L5.out.src (by omega) (by omega) hne hltw (fun i hi => by
        rcases (by omega : i = 0 ∨ i = 1) with rfl | rfl
        · exact ⟨_, c0, Nat.le_refl 5⟩
        · exact ⟨_, c1, Nat.le_refl 5⟩)).mono ?_
      clear c0 c1 hltw hne
      rintro e w6 ⟨nm, hnm, rfl, s6, g6⟩
      have L6 := Lib.hid (L5.out.step s6 g6)
      clear L5 s6 g6
      obtain ⟨-, p1, -⟩ := L6.out.at2 HX4.out i HI4.out
      have z1 := L6.out.thaw (i * 8 + 1)
      have L7 := Lib.hid (L6.out.put1 HX4.out i HI4.out nm)
      have HD7 := Lib.hid (HD4.out.set (i := i) HI4.out (r := { X4[i]'HI4.out with nm := nm }) rfl hnm (HD4.out.2 _ (List.getElem_mem HI4.out)).2.2.2.1 (HD4.out.2 _ (List.getElem_mem HI4.out)).2.2.2.2)
      have HX7 : Hid (n0 = (X4.set i { X4[i]'HI4.out with nm := nm }).length) := Lib.hid (by rw [List.length_set]; exact HX4.out)
      clear L6 HD4 hnm
      go_wp2_with fail
      go_roundw
      case rel => exact ⟨i + 1, _, by omega, by go_num, HX7.out, HD7.out, L7.out⟩
      case measure => simp [intOf]; omega
    · have k0 : ¬ (i : Int) < (n0 : Int) := by omega
      clear hlt hi
      go_upto_region 9 with fail
      have BL : Hid (Below wr.heap.size wr (wr.alloc (.cells #[.int .i64 1, .string dl, .int .i64 5, .int .i64 0, .int .i64 0, .int .i64 0, .int .i64 0, .slice none 0 0] 35))) := Lib.hid ((Below.refl _ _).alloc (Nat.le_refl _) _)
      have OL : Hid ((wr.alloc (.cells #[.int .i64 1, .string dl, .int .i64 5, .int .i64 0, .int .i64 0, .int .i64 0, .int .i64 0, .slice none 0 0] 35)).ownsRow wr.heap.size 35 8 (.slice (some ⟨wr.heap.size, 0, none⟩) 1 1) 1 (rqCells rl)) := Lib.hid (World.ownsRow_lit wr #[.int .i64 1, .string dl, .int .i64 5, .int .i64 0, .int .i64 0, .int .i64 0, .int .i64 0, .slice none 0 0] 1 (Nat.le_refl _) (by decide) rfl)
      have LB := Lib.hid (HL.out.under BL.out)
      obtain ⟨bs, hbs, ho⟩ := LB.out.own2
      have HO : Hid ((wr.alloc (.cells #[.int .i64 1, .string dl, .int .i64 5, .int .i64 0, .int .i64 0, .int .i64 0, .int .i64 0, .slice none 0 0] 35)).ownsRow bs 35 8 (.slice Aa n0 ca) n0 (rqc X)) := Lib.hid (by rw [HX.out]; rw [HX.out] at ho; exact ho)
      have HBS := Lib.hid hbs
      clear ho hbs HL
      go_wp2_with (at_builtin; go_loud (refine wpList_append_any rfl (.tmp 43) (.tmp 45) 22 rfl bs 35 j0 _ 8 88 Tryz.underlying22 hj hj0 hj1 hj2 rfl (by decide) (.slice Aa n0 ca) n0 (rqc X) rfl HO.out 1 (rqCells rl) (.slice (some ⟨wr.heap.size, 0, none⟩) 1 1) wr.heap.size rfl OL.out (rqc_one [rl] |> fun h u hu => h u (by simpa [rqc] using hu)) (by unfold maxLen; omega) (by omega) HBS.out.2 ?_; intro v10 w10 hown10 hgr10; have L10 := Lib.hid (LB.out.app HBS.out.1 (by have h := HO.out; rw [HX.out]; rw [HX.out] at h; exact h) (by rw [← HX.out]; exact hown10) hgr10 : Lw w (X ++ [rl]) v10 w10); clear hown10 hgr10))
      clear BL OL LB HO HBS
      obtain ⟨A1, c1, rfl⟩ : ∃ A1 c1, v10 = .slice A1 (X ++ [rl]).length c1 := by
        obtain ⟨base, h1, h2⟩ := L10.out.own
        exact own_form h2
      obtain ⟨g1, rfl⟩ := L10.out.some (by rw [List.length_append, List.length_singleton]; omega)
      obtain ⟨n, hn⟩ : ∃ n, (X ++ [rl]).length = n := ⟨_, rfl⟩
      have HN := Lib.hid hn
      have HNX : Hid (n = X.length + 1) := Lib.hid (by rw [← hn, List.length_append, List.length_singleton])
      have hn8 : n ≤ 8 := by have := HNX.out; have := HX.out; omega
      have hn1 : 1 ≤ n := by have := HNX.out; omega
      have HT := Lib.hid (HD.out.tne)
      have HK := Lib.hid (HD.out.oks HM.out)
      have HNM := Lib.hid HD.out.nm
      rw [hn] at L10 ⊢
      clear hn
      obtain ⟨X1, hX1⟩ : ∃ X1, X ++ [rl] = X1 := ⟨_, rfl⟩
      have HX1 := Lib.hid hX1
      rw [hX1] at L10 HT HK HNM HN
      clear hX1
      have hnn : (n : Int) ≤ 8 := by omega
      have hnp : (0 : Int) ≤ (n : Int) := by omega
      go_upto_region 10 with fail
      go_wp2
      go_simp
      go_wp2_with fail
      refine (order_any _ _ _ n L10.out.src (by omega)).mono ?_
      rintro e w12 ⟨uo, PI, rfl, hPI, hO⟩
      obtain ⟨P, hP, ePI, hPl, hPIl⟩ := order_nat hPI
      have LO := Lib.hid (L10.out.step hO.src hO.gro)
      have OO : Hid (IlIn w12 uo P) := Lib.hid (by
        obtain ⟨base, h1, h2⟩ := hO.own
        rw [ePI, hPIl, ← hPl] at h2
        exact own_base0 h2)
      have HP := Lib.hid hP
      have HPL := Lib.hid hPl
      have HPX : Hid (∀ x ∈ P, x < X1.length) := Lib.hid (fun x hx => by rw [HN.out]; exact List.mem_range.1 (hP.mem_iff.1 hx))
      clear L10 hO hPI ePI hPl hPIl hP
      obtain ⟨ao, co, hao⟩ := il_form OO.out
      subst hao
      have HB12 : Hid (w.heap.size + 1 ≤ w12.heap.size) := Lib.hid (src_at LO.out.src)
      go_upto_region 12 with fail
      go_wp2
      (try go_simp)
      go_wp2_with fail
      go_loopw [7, 53] (fun uy t wr => ∃ j : Nat, j ≤ P.length ∧ t = .int .i64 j ∧ wr.ownsRow w12.heap.size 35 8 uy j (rqc ((pm X1 P).take j)) ∧ Below w12.heap.size w12 wr) (fun _ t _ => P.length - (intOf t).toNat)
      case atStart => exact ⟨0, Nat.zero_le _, rfl, ⟨rfl, .inl ⟨rfl, rfl⟩⟩, Below.refl _ _⟩
      case round =>
        obtain ⟨j, hjP, rfl, hy, hb⟩ := hrel
        have HY := Lib.hid hy; have HB := Lib.hid hb
        clear hy hb
        by_cases hlt : j < P.length
        · have k1 : (j : Int) < (P.length : Int) := by omega
          have k2 : (0 : Int) ≤ (j : Int) := by omega
          have hpn : P.length ≤ 8 := by rw [HPL.out]; exact hn8
          have LW := Lib.hid (LO.out.under HB.out)
          obtain ⟨g, cg, e0, hc1, hc2, hcell⟩ := il_at (OO.out.under HB.out) hlt
          injection e0 with e0 e1 e2
          subst e0
          clear e1 e2 hc1 hc2
          have HPJ := Lib.hid (HPX.out _ (List.getElem_mem hlt))
          have HTK : Hid (rqc ((pm X1 P).take (j + 1)) = rqc ((pm X1 P).take j) ++ rqCells (X1[P[j]]'HPJ.out)) := Lib.hid (by
            rw [List.take_succ_eq_append_getElem (by rw [pm_len]; exact hlt), pm_at hlt HPJ.out]
            simp [rqc])
          generalize rqc ((pm X1 P).take j) = cs1 at *
          generalize P[j] = x at *
          have h8 := LW.out.at2 HN.out.symm x HPJ.out
          have hxn : x < n := by have := HPJ.out; have := HN.out; omega
          have hx1 : (0 : Int) ≤ (x : Int) := by omega
          have hx2 : (x : Int) < (n : Int) := by omega
          generalize X1[x]'HPJ.out = r at *
          obtain ⟨rk, rn, rt, rF, rA, rB, rC, ra, ru, rc⟩ := r
          obtain ⟨p0, p1, p2, p3, p4, p5, p6, p7⟩ := h8
          simp only at p0 p1 p2 p3 p4 p5 p6 p7
          have BX : Hid (Below wr.heap.size wr (wr.alloc (.cells (rqC rk rn rt rF rA rB rC ra ru rc) 35))) := Lib.hid ((Below.refl _ _).alloc (Nat.le_refl _) _)
          have OX : Hid ((wr.alloc (.cells (rqC rk rn rt rF rA rB rC ra ru rc) 35)).ownsRow wr.heap.size 35 8 (.slice (some ⟨wr.heap.size, 0, none⟩) 1 1) 1 (rqCells ⟨rk, rn, rt, rF, rA, rB, rC, ra, ru, rc⟩)) := Lib.hid (World.ownsRow_lit wr (rqC rk rn rt rF rA rB rC ra ru rc) 1 (Nat.le_refl _) (by decide) rfl)
          have OY := Lib.hid (own_under HY.out BX.out)
          have BY := Lib.hid (HB.out.trans (BX.out.mono HB.out.size))
          clear HY HB
          go_wp2_with (at_builtin; go_loud (refine wpList_append_any rfl (.tmp 57) (.tmp 62) 22 rfl w12.heap.size 35 j0 _ 8 88 Tryz.underlying22 hj hj0 hj1 hj2 rfl (by decide) «u7» j cs1 rfl OY.out 1 (rqCells ⟨rk, rn, rt, rF, rA, rB, rC, ra, ru, rc⟩) (.slice (some ⟨wr.heap.size, 0, none⟩) 1 1) wr.heap.size rfl OX.out (rqc_one [⟨rk, rn, rt, rF, rA, rB, rC, ra, ru, rc⟩] |> fun h u hu => h u (by simpa [rqc] using hu)) (by unfold maxLen; omega) (by omega) BY.out.size ?_; intro v13 w13 hown13 hgr13; have B13 := Lib.hid (below_own BY.out BY.out.size OY.out hgr13); have O13 : Hid (w13.ownsRow w12.heap.size 35 8 v13 (j + 1) (rqc ((pm X1 P).take (j + 1)))) := Lib.hid (by rw [HTK.out]; exact hown13); clear hown13 hgr13))
          go_roundw
          case rel => exact ⟨j + 1, by omega, by go_num, O13.out, B13.out⟩
          case measure => simp [intOf]; omega
        · have k1 : ¬ (j : Int) < (P.length : Int) := by omega
          obtain rfl : j = P.length := by omega
          have LW := Lib.hid (LO.out.under HB.out)
          have OW := Lib.hid (OO.out.under HB.out)
          have YW : Hid (wr.ownsRow w12.heap.size 35 8 «u7» n (rqc (pm X1 P))) := Lib.hid (by have h := HY.out; rw [List.take_of_length_le (by rw [pm_len]; exact Nat.le_refl _), HPL.out] at h; exact h)
          clear hlt LO OO HY HB
          go_upto_region 17 with fail
          have T0 := Lib.hid (show To w w12.heap.size X1 P (.slice (some ⟨g1, 0, none⟩) n c1) (.slice ao P.length co) «u7» wr from ⟨LW.out, OW.out, by rw [pm_len, HPL.out]; exact YW.out, HB12.out⟩)
          have HPP : Hid (P.Perm (List.range X1.length)) := Lib.hid (by rw [HN.out]; exact HP.out)
          have HYL : Hid ((pm X1 P).length = n) := Lib.hid (by rw [pm_len]; exact HPL.out)
          clear LW OW YW
          obtain ⟨ay, cy, hay⟩ := own_form T0.out.y
          rw [HYL.out] at hay
          subst hay
          have ba := (Below.refl wr.heap.size wr).alloc (Nat.le_refl _) (.cells #[.int .i64 0, .int .i64 4, .int .i64 24] 3)
          have hrow := Row.new wr #[.int .i64 0, .int .i64 4, .int .i64 24] 3
          have hne : wr.heap.size ≠ w.heap.size := Nat.ne_of_gt (src_at T0.out.a.src)
          have T1 := Lib.hid (T0.out.under ba)
          obtain ⟨c0, c1', c2⟩ := row3 hrow
          have hltw := hrow.lt
          clear hrow ba T0
          go_wp2_with fail
          refine (pick_any (fun x => 0 ≤ x ∧ x ≤ 24) _ _ _ _ _ _ T1.out.a.src (by omega) (by omega) hne hltw (fun i hi => by
            rcases (by omega : i = 0 ∨ i = 1 ∨ i = 2) with rfl | rfl | rfl
            · exact ⟨_, c0, by omega, by omega⟩
            · exact ⟨_, c1', by omega, by omega⟩
            · exact ⟨_, c2, by omega, by omega⟩)).mono ?_
          rintro e w14 ⟨k, ⟨kk1, kk2⟩, rfl, s14, g14⟩
          have T2 := Lib.hid (T1.out.step s14 g14)
          clear T1 s14 g14 c0 c1' c2 hltw hne
          go_wp2_with fail
          refine (suspectsP_any _ X1 k _ T2.out.a.rq (by rw [HN.out]; omega) (fun r hr => by have := HNM.out r hr; unfold maxLen; omega)).mono ?_
          rintro e w15 ⟨la, cla, va, hta, rfl, hia, b15⟩
          obtain ⟨rfl, hsa⟩ := sus_ok hta (by omega) HK.out (tne_pw HT.out sea 0)
          have HSA := Lib.hid hsa; have IA := Lib.hid hia
          have T3 := Lib.hid (T2.out.under b15)
          clear T2 b15 hta hsa hia
          have HPM := Lib.hid (pm_perm HPP.out)
          go_wp2_with fail
          refine (suspectsP_any _ (pm X1 P) k _ T3.out.yq (by rw [HYL.out]; omega) (fun r hr => by have := HNM.out r (HPM.out.mem_iff.1 hr); unfold maxLen; omega)).mono ?_
          rintro e w16 ⟨lb, clb, vb', htb, rfl, hib, b16⟩
          obtain ⟨rfl, hsb⟩ := sus_ok htb (by omega) (fun r hr => HK.out r (HPM.out.mem_iff.1 hr)) (tne_pw (HPM.out.symm.pairwise HT.out (fun {_ _} h => Ne.symm h)) sea 0)
          have HSB := Lib.hid hsb; have IB := Lib.hid hib
          have T4 := Lib.hid (T3.out.under b16)
          have IA4 := Lib.hid (IA.out.under b16)
          have HPB := Lib.hid (sus_pm HPP.out HSA.out HSB.out)
          have HLE : Hid (la.length = lb.length) := Lib.hid (by have h := HPB.out.length_eq; rw [List.length_map] at h; exact h.symm)
          clear T3 b16 htb hsb hib IA
          obtain ⟨aa, cca, hva⟩ := il_form IA4.out
          subst hva
          obtain ⟨ab, ccb, hvb⟩ := il_form IB.out
          subst hvb
          obtain ⟨gy, hgy⟩ := own_addr T4.out.y (by rw [HYL.out]; omega)
          subst hgy
          have hne1 : ((la.length : Int) != (lb.length : Int)) = false := by rw [HLE.out]; simp
          have hne2 : ¬ ((la.length : Int) ≠ (lb.length : Int)) := by rw [HLE.out]; simp
          go_upto_region 22 with fail
          clear hne1 hne2
          go_wp2
          (try go_simp)
          go_wp2_with fail
          have hlb8 : lb.length ≤ 8 := by
            have h := (susL_len HSB.out).1
            rw [HYL.out] at h
            omega
          go_loopw [95] (fun t wr => ∃ j : Nat, j ≤ lb.length ∧ t = .int .i64 j ∧ Below w16.heap.size w16 wr) (fun t _ => lb.length - (intOf t).toNat)
          case atStart => exact ⟨0, Nat.zero_le _, rfl, Below.refl _ _⟩
          case round =>
            obtain ⟨j, hjb, rfl, hb⟩ := hrel
            have HB := Lib.hid hb
            clear hb
            by_cases hlt : j < lb.length
            · have q1 : (j : Int) < (lb.length : Int) := by omega
              have q2 : (0 : Int) ≤ (j : Int) := by omega
              obtain ⟨g, cg, e0, hc1, hc2, hcell⟩ := il_at (IB.out.under HB.out) hlt
              injection e0 with e0 e1 e2
              subst e0
              clear e1 e2 hc1 hc2
              obtain ⟨hx, hsea⟩ := susL_sea HSB.out _ (List.getElem_mem hlt)
              have hxP : lb[j] < P.length := by rw [pm_len] at hx; exact hx
              have HIN : Hid (P[lb[j]]'hxP ∈ la) := Lib.hid (HPB.out.mem_iff.1 (List.mem_map.2 ⟨lb[j], List.getElem_mem hlt, by rw [List.getElem?_eq_getElem hxP]; rfl⟩))
              have h8 := own_at8 (own_under T4.out.y HB.out) _ hx
              have HK1 : Hid (((pm X1 P)[lb[j]]'hx).k ≠ 1) := Lib.hid (fun e => by rw [e] at hsea; cases hsea)
              generalize lb[j] = x at *
              obtain ⟨g', cg', e0, hc1, hc2, hcell2⟩ := il_at (T4.out.o.under HB.out) hxP
              injection e0 with e0 e1 e2
              subst e0
              clear e1 e2 hc1 hc2
              have hxn : x < n := by rw [HYL.out] at hx; exact hx
              have x0 : ¬ (x : Int) < 0 := by omega
              have x1 : (0 : Int) ≤ (x : Int) := by omega
              have x2 : (x : Int) < (P.length : Int) := by omega
              have x3 : ¬ (P.length : Int) ≤ (x : Int) := by omega
              have x4 : ¬ P.length ≤ x := by omega
              have x5 : (x : Int) < (n : Int) := by omega
              obtain ⟨p0, -⟩ := h8
              have hk1 : (((pm X1 P)[x]'hx).k == 1) = false := beq_eq_false_iff_ne.2 HK1.out
              clear HK1 hsea
              generalize ((pm X1 P)[x]'hx).k = kx at *
              generalize P[x]'hxP = y at *
              go_wp2_with fail
              refine (in_yes _ la y _ (IA4.out.under HB.out) (by rw [HLE.out]; omega) HIN.out).mono ?_
              rintro e w17 ⟨rfl, rfl⟩
              go_wp2_with fail
              go_roundw
              case rel => exact ⟨j + 1, by omega, by go_num, HB.out⟩
              case measure => simp [intOf]; omega
            · have q1 : ¬ (j : Int) < (lb.length : Int) := by omega
              have T5 := Lib.hid (T4.out.a.under HB.out)
              clear hlt hjb HB T4 IA4 IB
              go_upto_region 28 with fail
              go_wp2
              (try go_simp)
              go_wp2_with fail
              go_loopw [127] (fun t wr => ∃ (i : Nat) (Z : List Rq), i ≤ n ∧ t = .int .i64 i ∧ ZR i X1 Z ∧ Lw w Z (.slice (some ⟨g1, 0, none⟩) n c1) wr) (fun t _ => n - (intOf t).toNat)
              case atStart => exact ⟨0, X1, Nat.zero_le _, rfl, zr_zero X1, T5.out⟩
              case round =>
                clear T5
                obtain ⟨i2, Z, hi2, rfl, hZ, hLZ⟩ := hrel
                have HZ := Lib.hid hZ; have HLZ := Lib.hid hLZ
                clear hZ hLZ
                have HNZ : Hid (n = Z.length) := Lib.hid (by rw [HZ.out.1, HN.out])
                by_cases hlt : i2 < n
                · have r1 : (i2 : Int) < (n : Int) := by omega
                  have r2 : (0 : Int) ≤ (i2 : Int) := by omega
                  have r3 : (0 : Int) < (n : Int) := by omega
                  have HIZ : Hid (i2 < Z.length) := Lib.hid (by rw [← HNZ.out]; exact hlt)
                  have H0Z : Hid (0 < Z.length) := Lib.hid (by rw [← HNZ.out]; exact hn1)
                  obtain ⟨-, -, -, a3, a4, a5, a6, -⟩ := HLZ.out.at2 HNZ.out 0 H0Z.out
                  simp only [Nat.zero_mul, Nat.zero_add] at a3 a4 a5 a6
                  obtain ⟨-, -, -, b3, b4, b5, b6, -⟩ := HLZ.out.at2 HNZ.out i2 HIZ.out
                  have z3 := HLZ.out.thaw (i2 * 8 + 3)
                  have z4 := HLZ.out.thaw (i2 * 8 + 4)
                  have z5 := HLZ.out.thaw (i2 * 8 + 5)
                  have z6 := HLZ.out.thaw (i2 * 8 + 6)
                  have HP4 := Lib.hid (HLZ.out.putP HNZ.out i2 HIZ.out (Z[0]'H0Z.out).F (Z[0]'H0Z.out).A (Z[0]'H0Z.out).B (Z[0]'H0Z.out).C)
                  have HS4 := Lib.hid (zr_set HZ.out HIZ.out)
                  clear HLZ HZ
                  go_wp2_with fail
                  go_roundw
                  case rel => exact ⟨i2 + 1, _, by omega, by go_num, HS4.out, HP4.out⟩
                  case measure => simp [intOf]; omega
                · have r1 : ¬ (i2 : Int) < (n : Int) := by omega
                  obtain rfl : i2 = n := by omega
                  have HZE : Hid (ZR (X ++ [rl]).length (X ++ [rl]) Z) := Lib.hid (by rw [HX1.out, HN.out]; exact HZ.out)
                  obtain ⟨q, hq⟩ : ∃ q, X.length = q := ⟨_, rfl⟩
                  have hqn : i2 = q + 1 := by rw [← hq]; exact HNX.out
                  have HTQ : Hid (RqIn wr (.slice (some ⟨g1, 0, none⟩) q c1) (Z.take q)) := Lib.hid (HLZ.out.rq.take (by rw [← HNZ.out]; omega))
                  have hcap : q + 1 ≤ c1 ∧ c1 ≤ 9223372036854775807 := by
                    obtain ⟨A0, c0, e0, h2, h3, -⟩ := HLZ.out.rq
                    injection e0 with e0 e1 e2
                    subst e2
                    rw [← HNZ.out] at h2
                    omega
                  obtain ⟨hc1, hc2⟩ := hcap
                  have HQ := Lib.hid hq
                  have HLS := Lib.hid HLZ.out.src.below
                  clear hq hi2 hlt HLZ
                  subst hqn
                  clear r1
                  have rq1 : ((q + 1 : Nat) : Int) - 1 = (q : Int) := by omega
                  have rq2 : (q : Int) ≤ (c1 : Int) := by omega
                  have rq3 : (0 : Int) ≤ (q : Int) := by omega
                  go_wp2_with fail
                  refine (suspectsP_any _ (Z.take q) k _ HTQ.out (by rw [List.length_take]; omega) (fun r hr => by have := zr_nm HZE.out HD.out r (by rw [HQ.out]; exact hr); unfold maxLen; omega)).mono ?_
                  rintro e w18 ⟨lc, clc, vc, htc, rfl, hic, b18⟩
                  obtain ⟨rfl, hsc⟩ := sus_ok htc (by omega) (by have h := zr_oks HZE.out HD.out HM.out; rw [HQ.out] at h; exact h) (tne_pw (by have h := zr_tne HZE.out HD.out; rw [HQ.out] at h; exact h) sea 0)
                  obtain rfl := zr_none HZE.out HD.out kk1 (by rw [HQ.out]; exact hsc)
                  have BZ := Lib.hid (HLS.out.trans (b18.mono HLS.out.size))
                  obtain ⟨ac, cc, hvc⟩ := il_form hic
                  rw [List.length_nil] at hvc
                  subst hvc
                  clear htc hsc hic b18
                  go_wp2_with fail
                  refine (awake_any _).mono ?_
                  rintro e wz ⟨rfl, bz⟩
                  go_wp2_with fail
                  go_ret
                  exact ⟨rfl, BZ.out.trans (bz.mono BZ.out.size)⟩
end Go.Proofs.YtejoabaanclcbaaGreat.Tk

