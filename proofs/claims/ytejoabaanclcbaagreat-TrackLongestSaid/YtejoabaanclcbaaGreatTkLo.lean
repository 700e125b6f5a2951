/- The walk of TrackLongest: for every list the law returns true, and what lay in memory is as it was. -/
import Derived.Test.YtejoabaanclcbaaGreatTkLa
import Derived.Test.YtejoabaanclcbaaGreatTkNa
namespace Go.Proofs.YtejoabaanclcbaaGreat.Tk
open Go.RowKit

theorem row5' {w : World} {b : Nat} {t : TypeId} {x0 x1 x2 x3 x4 : Value} (h : Row w b t #[x0, x1, x2, x3, x4]) : w.cell? ⟨b, 0, none⟩ = some x0 ∧ w.cell? ⟨b, 1, none⟩ = some x1 ∧ w.cell? ⟨b, 2, none⟩ = some x2 ∧ w.cell? ⟨b, 3, none⟩ = some x3 ∧ w.cell? ⟨b, 4, none⟩ = some x4 :=
  ⟨(h.cell 0).trans rfl, (h.cell 1).trans rfl, (h.cell 2).trans rfl, (h.cell 3).trans rfl, (h.cell 4).trans rfl⟩
theorem plB_pR {k : Int} {R : List Rq} (hk : 0 ≤ k ∧ k ≤ 1000) (ho : oks (fun _ => true) R) {i j : Nat} (hi : i < R.length) (hj : j < R.length) : plB k R[i] R[j] = pR k R i j := by
  rw [pR_at hi hj]
  unfold plB
  rw [ho _ (List.getElem_mem hi) rfl, ho _ (List.getElem_mem hj) rfl, decide_eq_true hk]
  rfl
set_option maxRecDepth 100000 in
set_option maxHeartbeats 8000000 in
theorem trackLongest_any (v : Value) (w : World) (hl : ListIn w v) :
    Calls Tryz.prog 4 #[v] w fun e w' => e = .returned (.bool true) ∧ Below w.heap.size w w' := by
  go_enter Tryz.func4, Tryz.ntmps4
  go_wp2_with fail
  refine (new_any _ _ hl).mono ?_
  rintro e w1 ⟨rfl, s1, -⟩
  go_wp2_with fail
  refine (reports_any _ _ _ 6 true s1 (by omega)).mono ?_
  intro e w2 hr
  obtain ⟨R, u, m, ⟨hRF, hm⟩, hR6, rfl, l2, -⟩ := Lw.start s1 hr
  have HOK := Lib.hid (rf_ok (p := fun _ => true) hRF (by omega))
  have HAS := Lib.hid (rf_asc hRF)
  obtain ⟨Aa, ca, rfl⟩ : ∃ Aa ca, u = .slice Aa R.length ca := by
    obtain ⟨base, h1, h2⟩ := l2.own
    exact own_form h2
  have ba := (Below.refl w2.heap.size w2).alloc (Nat.le_refl _) (.cells #[.int .i64 0, .int .i64 1, .int .i64 4, .int .i64 12, .int .i64 24] 3)
  have hrow := Row.new w2 #[.int .i64 0, .int .i64 1, .int .i64 4, .int .i64 12, .int .i64 24] 3
  have hne : w2.heap.size ≠ w.heap.size := Nat.ne_of_gt (src_at l2.src)
  have L2 := Lib.hid (l2.under ba)
  obtain ⟨c0, c1, c2, c3, c4⟩ := row5' hrow
  have hltw := hrow.lt
  clear l2 hr s1 hl hRF hm hrow ba
  go_wp2_with fail
  refine (pick_any (fun x => 0 ≤ x ∧ x ≤ 24) _ _ _ _ _ _ L2.out.src (by omega) (by omega) hne hltw (fun i hi => by
    rcases (by omega : i = 0 ∨ i = 1 ∨ i = 2 ∨ i = 3 ∨ i = 4) with rfl | rfl | rfl | rfl | rfl
    · exact ⟨_, c0, by omega, by omega⟩
    · exact ⟨_, c1, by omega, by omega⟩
    · exact ⟨_, c2, by omega, by omega⟩
    · exact ⟨_, c3, by omega, by omega⟩
    · exact ⟨_, c4, by omega, by omega⟩)).mono ?_
  rintro e w3 ⟨k, ⟨kk1, kk2⟩, rfl, s3, g3⟩
  have L3 := Lib.hid (L2.out.step s3 g3)
  clear L2 s3 g3 c0 c1 c2 c3 c4 hltw hne
  go_wp2_with fail
  refine (chainP_any _ R k _ L3.out.rq (by omega)).mono ?_
  rintro e w4 ⟨l, cl, vl, htl, rfl, hil, b4⟩
  obtain ⟨rfl, hbl⟩ := ctag_ok htl (by omega) (by omega) HOK.out HAS.out
  have HBL := Lib.hid hbl
  have IL := Lib.hid hil
  have L4 := Lib.hid (L3.out.under b4)
  clear L3 b4 htl hbl hil
  obtain ⟨al, cpl, rfl⟩ := il_form IL.out
  obtain ⟨n, hn⟩ : ∃ n, R.length = n := ⟨_, rfl⟩
  have HNN := Lib.hid hn
  rw [hn] at L4 hR6 ⊢
  clear hn
  have hm2 := run_make_row' (P := Tryz.prog) 43 44 (.slice none 0 0) 24 Tryz.underlying43 infoBools rfl .i64 .i64 n (by omega) (by omega)
  have hm3 := run_make_row' (P := Tryz.prog) 44 4 (.bool false) 1 Tryz.underlying44 infoBoolT rfl .i64 .i64 n (by omega) (by omega)
  have HRC := Lib.hid (Nr.made w4 n (pR k R) (fun _ => 0) (fun j x => j < x))
  have HM3 := Lib.hid hm3
  clear hm3
  go_upto_region 8 with fail
  refine forget (fun Y => Hid (Nr w4 w4.heap.size n (pR k R) (fun _ => 0) (fun j x => j < x) 0 (madeCells #[.slice none 0 0] n) Y)) HRC ?_
  clear HRC hm2
  intro Y HRC
  go_wp2_with fail
  go_loopw [38] (fun t wr => ∃ (i : Nat) (bs : Nat → Nat) (cs : Array Value), t = .int .i64 i ∧ i ≤ n ∧ Hid (Nr w4 w4.heap.size n (pR k R) bs (fun j x => j < x) i cs wr)) (fun t _ => n - (intOf t).toNat)
  case atStart => exact ⟨0, _, _, rfl, Nat.zero_le _, HRC⟩
  case round =>
    clear HRC
    obtain ⟨i, bs, cs, rfl, hin, HC⟩ := hrel
    by_cases hi : i < n
    · have i0 : (0 : Int) ≤ (i : Int) := by omega
      have i1 : (i : Int) < (n : Int) := by omega
      have hm3 := HM3.out
      have HR2 := Lib.hid (HC.out.row hi (c := madeCells #[.bool false] n) (size_madeCells _ _))
      have hlt := HC.out.rw.lt
      rw [World.setCell_alloc_past _ _ _ _ hlt] at HR2
      have cz := HC.out.rw.cell i
      have fz := HC.out.rw.thaw i
      obtain ⟨uz, huz⟩ : ∃ u, cs[i]? = some u := ⟨_, Array.getElem?_eq_getElem (by rw [HC.out.sz]; exact hi)⟩
      rw [huz] at cz
      clear HC
      go_upto_region 12 with fail
      refine forget (fun Y => ∃ bs cs, Hid (Nr w4 w4.heap.size n (pR k R) bs (fun j x => j ≠ i ∧ j < x) (i + 1) cs Y)) ⟨_, _, HR2⟩ ?_
      clear HR2 hlt cz fz huz hm3
      rintro Y ⟨bs, cs, HC⟩
      go_wp2_with fail
      go_loopw [10] (fun t wr => ∃ q : Nat, t = .int .i64 q ∧ i < q ∧ q ≤ n ∧ Hid (Nr w4 w4.heap.size n (pR k R) bs (fun j x => j < x ∧ (j = i → x < q)) (i + 1) cs wr)) (fun t _ => n - (intOf t).toNat)
      case atStart => exact ⟨i + 1, by go_num, by omega, by omega, Lib.hid (HC.out.known (fun j z a b d => ⟨fun e => by have := d.2 e; omega, d.1⟩))⟩
      case round =>
        clear HC
        obtain ⟨q, rfl, hq1, hq2, HC⟩ := hrel
        by_cases hqn : q < n
        · have q0 : (0 : Int) ≤ (q : Int) := by omega
          have q1 : (q : Int) < (n : Int) := by omega
          have wq : IntKind.i64.wrap ((q : Int) + 1) = (q : Int) + 1 := IntWalk.i64_in _ (by omega)
          obtain ⟨g, rfl⟩ := L4.out.some (by have := HNN.out; omega)
          have hiR : i < R.length := by have := HNN.out; omega
          have hqR : q < R.length := by have := HNN.out; omega
          have HPP := Lib.hid (plB_pR ⟨kk1, by omega⟩ HOK.out hiR hqR)
          have hai := (L4.out.under HC.out.b1).at2 HNN.out.symm i hiR
          have haq := (L4.out.under HC.out.b1).at2 HNN.out.symm q hqR
          generalize R[i] = ri at hai HPP
          generalize R[q] = rq at haq HPP
          obtain ⟨xk, xn, xt, xF, xA, xB, xC, xa, xu, xc⟩ := ri
          obtain ⟨yk, yn, yt, yF, yA, yB, yC, ya, yu, yc⟩ := rq
          have hAi := Lib.hid hai
          have hAq := Lib.hid haq
          have HGL : Hid (g < w4.heap.size) := Lib.hid ((L4.out.lt rfl).2)
          clear hai haq hiR hqR
          go_upto_region 15 with fail
          have hS0 := Lib.hid (show wr.cell? ⟨w4.heap.size, i, none⟩ = some (.slice (some ⟨bs i, 0, none⟩) n n) ∧ (wr.cell? ⟨g, i * 8, none⟩ = some (.int .i64 xk) ∧ wr.cell? ⟨g, i * 8 + 1, none⟩ = some (.string xn) ∧ wr.cell? ⟨g, i * 8 + 2, none⟩ = some (.int .i64 xt) ∧ wr.cell? ⟨g, i * 8 + 3, none⟩ = some (.int .i64 xF) ∧ wr.cell? ⟨g, i * 8 + 4, none⟩ = some (.int .i64 xA) ∧ wr.cell? ⟨g, i * 8 + 5, none⟩ = some (.int .i64 xB) ∧ wr.cell? ⟨g, i * 8 + 6, none⟩ = some (.int .i64 xC) ∧ wr.cell? ⟨g, i * 8 + 7, none⟩ = some (.slice xa xu xc)) ∧ (wr.cell? ⟨g, q * 8, none⟩ = some (.int .i64 yk) ∧ wr.cell? ⟨g, q * 8 + 1, none⟩ = some (.string yn) ∧ wr.cell? ⟨g, q * 8 + 2, none⟩ = some (.int .i64 yt) ∧ wr.cell? ⟨g, q * 8 + 3, none⟩ = some (.int .i64 yF) ∧ wr.cell? ⟨g, q * 8 + 4, none⟩ = some (.int .i64 yA) ∧ wr.cell? ⟨g, q * 8 + 5, none⟩ = some (.int .i64 yB) ∧ wr.cell? ⟨g, q * 8 + 6, none⟩ = some (.int .i64 yC) ∧ wr.cell? ⟨g, q * 8 + 7, none⟩ = some (.slice ya yu yc)) from ⟨(HC.out.rw.cell i).trans (HC.out.cl i (by omega)), hAi.out, hAq.out⟩)
          refine wp_region_held_drew (S := fun w' : World => w'.cell? ⟨w4.heap.size, i, none⟩ = some (.slice (some ⟨bs i, 0, none⟩) n n) ∧ (w'.cell? ⟨g, i * 8, none⟩ = some (.int .i64 xk) ∧ w'.cell? ⟨g, i * 8 + 1, none⟩ = some (.string xn) ∧ w'.cell? ⟨g, i * 8 + 2, none⟩ = some (.int .i64 xt) ∧ w'.cell? ⟨g, i * 8 + 3, none⟩ = some (.int .i64 xF) ∧ w'.cell? ⟨g, i * 8 + 4, none⟩ = some (.int .i64 xA) ∧ w'.cell? ⟨g, i * 8 + 5, none⟩ = some (.int .i64 xB) ∧ w'.cell? ⟨g, i * 8 + 6, none⟩ = some (.int .i64 xC) ∧ w'.cell? ⟨g, i * 8 + 7, none⟩ = some (.slice xa xu xc)) ∧ (w'.cell? ⟨g, q * 8, none⟩ = some (.int .i64 yk) ∧ w'.cell? ⟨g, q * 8 + 1, none⟩ = some (.string yn) ∧ w'.cell? ⟨g, q * 8 + 2, none⟩ = some (.int .i64 yt) ∧ w'.cell? ⟨g, q * 8 + 3, none⟩ = some (.int .i64 yF) ∧ w'.cell? ⟨g, q * 8 + 4, none⟩ = some (.int .i64 yA) ∧ w'.cell? ⟨g, q * 8 + 5, none⟩ = some (.int .i64 yB) ∧ w'.cell? ⟨g, q * 8 + 6, none⟩ = some (.int .i64 yC) ∧ w'.cell? ⟨g, q * 8 + 7, none⟩ = some (.slice ya yu yc))) (by kernel_rfl) hS0.out (fun hHeld => ?_)
          refine wpAnyH_take (i := 0) (oi := ⟨some 55, _, _, _, _, none⟩) (v := ?_) rfl (by kernel_rfl) (by kernel_rfl) (by kernel_rfl) (fun _ _ _ h => h) (Or.inl ⟨by rfl, ?_⟩) (by assumption) ?_
          case refine_2 => (intro wx hSx; (try dsimp only at hSx); go_simp; first | done | with_reducible rfl)
          ((try simp only [Act.put]); (try simp only [List.setIfInBounds_toArray]); (try simp only [List.set_cons_succ]); (try simp only [List.set_cons_zero]))
          refine wpAnyH_take (i := 1) (oi := ⟨some 56, _, _, _, _, none⟩) (v := ?_) rfl (by kernel_rfl) (by kernel_rfl) (by kernel_rfl) (fun _ _ _ h => h) (Or.inl ⟨by rfl, ?_⟩) (by assumption) ?_
          case refine_2 => (intro wx hSx; (try dsimp only at hSx); go_simp; first | done | with_reducible rfl)
          ((try simp only [Act.put]); (try simp only [List.setIfInBounds_toArray]); (try simp only [List.set_cons_succ]); (try simp only [List.set_cons_zero]))
          refine wpAnyH_take (i := 2) (oi := ⟨some 57, _, _, _, _, none⟩) (v := ?_) rfl (by kernel_rfl) (by kernel_rfl) (by kernel_rfl) (fun _ _ _ h => h) (Or.inl ⟨by rfl, ?_⟩) (by assumption) ?_
          case refine_2 => (intro wx hSx; (try dsimp only at hSx); go_simp; first | done | with_reducible rfl)
          ((try simp only [Act.put]); (try simp only [List.setIfInBounds_toArray]); (try simp only [List.set_cons_succ]); (try simp only [List.set_cons_zero]))
          refine wpAnyH_take (i := 3) (oi := ⟨some 58, _, _, _, _, none⟩) (v := ?_) rfl (by kernel_rfl) (by kernel_rfl) (by kernel_rfl) (fun _ _ _ h => h) (Or.inl ⟨by rfl, ?_⟩) (by assumption) ?_
          case refine_2 => (intro wx hSx; (try dsimp only at hSx); go_simp; first | done | with_reducible rfl)
          ((try simp only [Act.put]); (try simp only [List.setIfInBounds_toArray]); (try simp only [List.set_cons_succ]); (try simp only [List.set_cons_zero]))
          refine wpAnyH_take (i := 4) (oi := ⟨some 59, _, _, _, _, none⟩) (v := ?_) rfl (by kernel_rfl) (by kernel_rfl) (by kernel_rfl) (fun _ _ _ h => h) (Or.inl ⟨by rfl, ?_⟩) (by assumption) ?_
          case refine_2 => (intro wx hSx; (try dsimp only at hSx); go_simp; first | done | with_reducible rfl)
          ((try simp only [Act.put]); (try simp only [List.setIfInBounds_toArray]); (try simp only [List.set_cons_succ]); (try simp only [List.set_cons_zero]))
          refine wpAnyH_take (i := 5) (oi := ⟨some 60, _, _, _, _, none⟩) (v := ?_) rfl (by kernel_rfl) (by kernel_rfl) (by kernel_rfl) (fun _ _ _ h => h) (Or.inl ⟨by rfl, ?_⟩) (by assumption) ?_
          case refine_2 => (intro wx hSx; (try dsimp only at hSx); go_simp; first | done | with_reducible rfl)
          ((try simp only [Act.put]); (try simp only [List.setIfInBounds_toArray]); (try simp only [List.set_cons_succ]); (try simp only [List.set_cons_zero]))
          refine wpAnyH_take (i := 6) (oi := ⟨some 61, _, _, _, _, none⟩) (v := ?_) rfl (by kernel_rfl) (by kernel_rfl) (by kernel_rfl) (fun _ _ _ h => h) (Or.inl ⟨by rfl, ?_⟩) (by assumption) ?_
          case refine_2 => (intro wx hSx; (try dsimp only at hSx); go_simp; first | done | with_reducible rfl)
          ((try simp only [Act.put]); (try simp only [List.setIfInBounds_toArray]); (try simp only [List.set_cons_succ]); (try simp only [List.set_cons_zero]))
          refine wpAnyH_take (i := 7) (oi := ⟨some 62, _, _, _, _, none⟩) (v := ?_) rfl (by kernel_rfl) (by kernel_rfl) (by kernel_rfl) (fun _ _ _ h => h) (Or.inl ⟨by rfl, ?_⟩) (by assumption) ?_
          case refine_2 => (intro wx hSx; (try dsimp only at hSx); go_simp; first | done | with_reducible rfl)
          ((try simp only [Act.put]); (try simp only [List.setIfInBounds_toArray]); (try simp only [List.set_cons_succ]); (try simp only [List.set_cons_zero]))
          refine wpAnyH_take (i := 8) (oi := ⟨some 63, _, _, _, _, none⟩) (v := ?_) rfl (by kernel_rfl) (by kernel_rfl) (by kernel_rfl) (fun _ _ _ h => h) (Or.inl ⟨by rfl, ?_⟩) (by assumption) ?_
          case refine_2 => (intro wx hSx; (try dsimp only at hSx); go_simp; first | done | with_reducible rfl)
          ((try simp only [Act.put]); (try simp only [List.setIfInBounds_toArray]); (try simp only [List.set_cons_succ]); (try simp only [List.set_cons_zero]))
          refine wpAnyH_take (i := 9) (oi := ⟨some 64, _, _, _, _, none⟩) (v := ?_) rfl (by kernel_rfl) (by kernel_rfl) (by kernel_rfl) (fun _ _ _ h => h) (Or.inl ⟨by rfl, ?_⟩) (by assumption) ?_
          case refine_2 => (intro wx hSx; (try dsimp only at hSx); go_simp; first | done | with_reducible rfl)
          ((try simp only [Act.put]); (try simp only [List.setIfInBounds_toArray]); (try simp only [List.set_cons_succ]); (try simp only [List.set_cons_zero]))
          refine wpAnyH_take (i := 10) (oi := ⟨some 65, _, _, _, _, none⟩) (v := ?_) rfl (by kernel_rfl) (by kernel_rfl) (by kernel_rfl) (fun _ _ _ h => h) (Or.inl ⟨by rfl, ?_⟩) (by assumption) ?_
          case refine_2 => (intro wx hSx; (try dsimp only at hSx); go_simp; first | done | with_reducible rfl)
          ((try simp only [Act.put]); (try simp only [List.setIfInBounds_toArray]); (try simp only [List.set_cons_succ]); (try simp only [List.set_cons_zero]))
          refine wpAnyH_take (i := 11) (oi := ⟨some 66, _, _, _, _, none⟩) (v := ?_) rfl (by kernel_rfl) (by kernel_rfl) (by kernel_rfl) (fun _ _ _ h => h) (Or.inl ⟨by rfl, ?_⟩) (by assumption) ?_
          case refine_2 => (intro wx hSx; (try dsimp only at hSx); go_simp; first | done | with_reducible rfl)
          ((try simp only [Act.put]); (try simp only [List.setIfInBounds_toArray]); (try simp only [List.set_cons_succ]); (try simp only [List.set_cons_zero]))
          refine wpAnyH_take (i := 12) (oi := ⟨some 67, _, _, _, _, none⟩) (v := ?_) rfl (by kernel_rfl) (by kernel_rfl) (by kernel_rfl) (fun _ _ _ h => h) (Or.inl ⟨by rfl, ?_⟩) (by assumption) ?_
          case refine_2 => (intro wx hSx; (try dsimp only at hSx); go_simp; first | done | with_reducible rfl)
          ((try simp only [Act.put]); (try simp only [List.setIfInBounds_toArray]); (try simp only [List.set_cons_succ]); (try simp only [List.set_cons_zero]))
          refine wpAnyH_take (i := 13) (oi := ⟨some 68, _, _, _, _, none⟩) (v := ?_) rfl (by kernel_rfl) (by kernel_rfl) (by kernel_rfl) (fun _ _ _ h => h) (Or.inl ⟨by rfl, ?_⟩) (by assumption) ?_
          case refine_2 => (intro wx hSx; (try dsimp only at hSx); go_simp; first | done | with_reducible rfl)
          ((try simp only [Act.put]); (try simp only [List.setIfInBounds_toArray]); (try simp only [List.set_cons_succ]); (try simp only [List.set_cons_zero]))
          refine wpAnyH_ready (rs := [14]) (by kernel_rfl) (by simp) ?_
          refine AllReadyH.cons (o := ⟨some 69, _, _, _, _, none⟩) rfl (fun K hK => ?_) AllReadyH.nil
          have hd : Below wr.heap.size wr wr.drew := ⟨rfl, rfl, rfl, Nat.le_refl _, fun _ _ => rfl⟩
          have HC1 := Lib.hid (HC.out.under hd)
          go_simp
          refine (plausibleR_any xk xn xt xF xA xB xC xa xu xc yk yn yt yF yA yB yC ya yu yc k _).mono ?_
          rintro e w5 ⟨rfl, hb5⟩
          have HC2 := Lib.hid (HC1.out.under hb5)
          have hA2 := Lib.hid (hAi.out.under (Nat.lt_of_lt_of_le HGL.out HC.out.b1.size) (hd.trans (hb5.mono hd.size)))
          have hA3 := Lib.hid (hAq.out.under (Nat.lt_of_lt_of_le HGL.out HC.out.b1.size) (hd.trans (hb5.mono hd.size)))
          clear hd hb5 HC HC1 hHeld hS0 hAi hAq
          rw [HPP.out]
          go_wp2_with fail
          have hS1 := Lib.hid (show w5.cell? ⟨w4.heap.size, i, none⟩ = some (.slice (some ⟨bs i, 0, none⟩) n n) ∧ (w5.cell? ⟨g, i * 8, none⟩ = some (.int .i64 xk) ∧ w5.cell? ⟨g, i * 8 + 1, none⟩ = some (.string xn) ∧ w5.cell? ⟨g, i * 8 + 2, none⟩ = some (.int .i64 xt) ∧ w5.cell? ⟨g, i * 8 + 3, none⟩ = some (.int .i64 xF) ∧ w5.cell? ⟨g, i * 8 + 4, none⟩ = some (.int .i64 xA) ∧ w5.cell? ⟨g, i * 8 + 5, none⟩ = some (.int .i64 xB) ∧ w5.cell? ⟨g, i * 8 + 6, none⟩ = some (.int .i64 xC) ∧ w5.cell? ⟨g, i * 8 + 7, none⟩ = some (.slice xa xu xc)) ∧ (w5.cell? ⟨g, q * 8, none⟩ = some (.int .i64 yk) ∧ w5.cell? ⟨g, q * 8 + 1, none⟩ = some (.string yn) ∧ w5.cell? ⟨g, q * 8 + 2, none⟩ = some (.int .i64 yt) ∧ w5.cell? ⟨g, q * 8 + 3, none⟩ = some (.int .i64 yF) ∧ w5.cell? ⟨g, q * 8 + 4, none⟩ = some (.int .i64 yA) ∧ w5.cell? ⟨g, q * 8 + 5, none⟩ = some (.int .i64 yB) ∧ w5.cell? ⟨g, q * 8 + 6, none⟩ = some (.int .i64 yC) ∧ w5.cell? ⟨g, q * 8 + 7, none⟩ = some (.slice ya yu yc)) from ⟨(HC2.out.rw.cell i).trans (HC2.out.cl i (by omega)), hA2.out, hA3.out⟩)
          refine hK.out _ _ hS1.out (fun hHeld => ?_)
          clear hK K
          try simp only [Act.put, List.setIfInBounds_toArray, List.set_cons_zero, List.set_cons_succ]
          refine wpAnyH_take (i := 15) (oi := ⟨some 70, _, _, _, _, none⟩) (v := ?_) rfl (by kernel_rfl) (by kernel_rfl) (by kernel_rfl) (fun _ _ _ h => h) (Or.inl ⟨by rfl, ?_⟩) (by assumption) ?_
          case refine_2 => (intro wx hSx; (try dsimp only at hSx); go_simp; first | done | with_reducible rfl)
          ((try simp only [Act.put]); (try simp only [List.setIfInBounds_toArray]); (try simp only [List.set_cons_succ]); (try simp only [List.set_cons_zero]))
          refine wpAnyH_ready (rs := [16]) (by kernel_rfl) (by simp) ?_
          refine AllReadyH.cons (o := ⟨none, _, _, _, _, none⟩) rfl (fun K hK => ?_) AllReadyH.nil
          obtain ⟨cb, hcb, hcbs, -⟩ := HC2.out.rows i (by omega)
          have fz := hcb.thaw q
          obtain ⟨uz, huz⟩ : ∃ u, cb[q]? = some u := ⟨_, Array.getElem?_eq_getElem (by rw [hcbs]; exact hqn)⟩
          have cz := (hcb.cell q).trans huz
          have HC3 := Lib.hid (HC2.out.bit (i := i) (by omega) hqn)
          have hbs := HC2.out.lo i (by omega)
          have hgb : g ≠ bs i := by have := HGL.out; omega
          have hgw : w4.heap.size ≠ bs i := by omega
          clear hcb huz hS1
          go_simp
          have hS2 := Lib.hid (show (w5.setCell ⟨bs i, q, none⟩ (.bool (pR k R i q))).cell? ⟨w4.heap.size, i, none⟩ = some (.slice (some ⟨bs i, 0, none⟩) n n) ∧ ((w5.setCell ⟨bs i, q, none⟩ (.bool (pR k R i q))).cell? ⟨g, i * 8, none⟩ = some (.int .i64 xk) ∧ (w5.setCell ⟨bs i, q, none⟩ (.bool (pR k R i q))).cell? ⟨g, i * 8 + 1, none⟩ = some (.string xn) ∧ (w5.setCell ⟨bs i, q, none⟩ (.bool (pR k R i q))).cell? ⟨g, i * 8 + 2, none⟩ = some (.int .i64 xt) ∧ (w5.setCell ⟨bs i, q, none⟩ (.bool (pR k R i q))).cell? ⟨g, i * 8 + 3, none⟩ = some (.int .i64 xF) ∧ (w5.setCell ⟨bs i, q, none⟩ (.bool (pR k R i q))).cell? ⟨g, i * 8 + 4, none⟩ = some (.int .i64 xA) ∧ (w5.setCell ⟨bs i, q, none⟩ (.bool (pR k R i q))).cell? ⟨g, i * 8 + 5, none⟩ = some (.int .i64 xB) ∧ (w5.setCell ⟨bs i, q, none⟩ (.bool (pR k R i q))).cell? ⟨g, i * 8 + 6, none⟩ = some (.int .i64 xC) ∧ (w5.setCell ⟨bs i, q, none⟩ (.bool (pR k R i q))).cell? ⟨g, i * 8 + 7, none⟩ = some (.slice xa xu xc)) ∧ ((w5.setCell ⟨bs i, q, none⟩ (.bool (pR k R i q))).cell? ⟨g, q * 8, none⟩ = some (.int .i64 yk) ∧ (w5.setCell ⟨bs i, q, none⟩ (.bool (pR k R i q))).cell? ⟨g, q * 8 + 1, none⟩ = some (.string yn) ∧ (w5.setCell ⟨bs i, q, none⟩ (.bool (pR k R i q))).cell? ⟨g, q * 8 + 2, none⟩ = some (.int .i64 yt) ∧ (w5.setCell ⟨bs i, q, none⟩ (.bool (pR k R i q))).cell? ⟨g, q * 8 + 3, none⟩ = some (.int .i64 yF) ∧ (w5.setCell ⟨bs i, q, none⟩ (.bool (pR k R i q))).cell? ⟨g, q * 8 + 4, none⟩ = some (.int .i64 yA) ∧ (w5.setCell ⟨bs i, q, none⟩ (.bool (pR k R i q))).cell? ⟨g, q * 8 + 5, none⟩ = some (.int .i64 yB) ∧ (w5.setCell ⟨bs i, q, none⟩ (.bool (pR k R i q))).cell? ⟨g, q * 8 + 6, none⟩ = some (.int .i64 yC) ∧ (w5.setCell ⟨bs i, q, none⟩ (.bool (pR k R i q))).cell? ⟨g, q * 8 + 7, none⟩ = some (.slice ya yu yc)) from ⟨(HC3.out.rw.cell i).trans (HC3.out.cl i (by omega)), at8_far hA2.out (Ne.symm hgb) _, at8_far hA3.out (Ne.symm hgb) _⟩)
          refine hK.out _ _ hS2.out (fun hHeld2 => ?_)
          clear hK K hHeld hHeld2 hS2 fz cz hA2 hA3
          try simp only [Act.put, List.setIfInBounds_toArray, List.set_cons_zero, List.set_cons_succ]
          refine wpAnyH_done (by kernel_rfl) ?_ _
          generalize w5.setCell ⟨bs i, q, none⟩ (.bool (pR k R i q)) = w6 at *
          have HC4 := Lib.hid (HC3.out.known (D' := fun j x => j < x ∧ (j = i → x < q + 1)) (fun j z a b d => by
            by_cases hz : z = q
            · by_cases hj : j = i
              · exact .inr ⟨hj, hz⟩
              · exact .inl ⟨d.1, fun e => absurd e hj⟩
            · exact .inl ⟨d.1, fun e => by have := d.2 e; omega⟩))
          clear HC3 HC2 hbs hgb hgw HPP
          go_wp2_with fail
          go_roundw
          case rel => exact ⟨q + 1, by go_num, by omega, by omega, HC4⟩
          case measure => simp [intOf]; omega
        · have q1 : ¬ (q : Int) < (n : Int) := by omega
          obtain rfl : q = n := by omega
          have HC5 := Lib.hid (HC.out.known (D' := fun j x => j < x) (fun j z a b d => ⟨d, fun _ => b⟩))
          clear HC
          go_wp2_with fail
          go_roundw
          case rel => exact ⟨i + 1, bs, cs, by go_num, by omega, HC5⟩
          case measure => simp [intOf]; omega
    · have i1 : ¬ (i : Int) < (n : Int) := by omega
      obtain rfl : i = n := by omega
      go_upto_region 17 with fail
      rcases Nat.eq_zero_or_pos i with h0 | hp
      · subst h0
        have hl0 : l.length = 0 := by
          rcases (best_len HBL.out).2 with ⟨-, e⟩ | ⟨s, hs, -⟩
          · exact e
          · rw [HNN.out] at hs; omega
        have hl1 : ((l.length : Int) == 0) = true := by rw [beq_iff_eq]; omega
        have hl2 : (l.length == 0) = true := by rw [beq_iff_eq]; exact hl0
        have HLS := Lib.hid (L4.out.src.below.trans (HC.out.b1.mono L4.out.src.below.size))
        clear hl0
        go_upto_region 19 with fail
        clear hl1 hl2
        go_wp2
        generalize hWL : wr = WL at *
        clear hWL
        go_loopw [11, 12] (fun f b wr => f = .bool true ∧ b = .int .i64 1 ∧ wr = WL) (fun _ b _ => 1)
        case atStart => exact ⟨rfl, rfl, rfl⟩
        case round =>
          obtain ⟨rfl, rfl, rfl⟩ := hrel
          have hw : wrap64 ((2 : Int) ^ 0) = 1 := by decide +kernel
          go_upto_region 44 with fail
          go_wp2_with fail
          refine (awake_any _).mono ?_
          rintro e wz ⟨rfl, bz⟩
          have HZZ := Lib.hid (HLS.out.trans (bz.mono HLS.out.size))
          clear bz
          go_wp2_with fail
          go_ret
          exact ⟨rfl, HZZ.out⟩
      · have n0 : ((i : Int) == 0) = false := by rw [beq_eq_false_iff_ne]; omega
        have n1 : (1 : Int) ≤ (i : Int) := by omega
        have hll := okC_le HBL.out (best_ok HBL.out)
        obtain ⟨code, hc1, hc2, hc3⟩ := sb_of (n := i) (okC_pw (best_ok HBL.out)) (by have h := best_lt HBL.out; rw [HNN.out] at h; exact h)
        have hc4 : 1 ≤ code := hc3 (fun e => by
          have h1 := (best_len HBL.out).1 0 (by have := HNN.out; omega)
          have h2 := ln_pos (P := pR k R) (show 0 < R.length by have := HNN.out; omega)
          rw [e, List.length_nil] at h1
          omega)
        have HCO := Lib.hid (And.intro hc1 (And.intro hc2 hc4))
        clear hc1 hc2 hc3 hc4 hll
        generalize hWL : wr = WL at *
        clear hWL
        go_upto_region 19 with fail
        clear n0
        go_wp2
        obtain ⟨hw2, hw64⟩ := w2_64 hR6
        obtain ⟨pw, hpw⟩ : ∃ p, 2 ^ i = p := ⟨_, rfl⟩
        have HPW := Lib.hid hpw
        rw [hpw] at hw2 hw64 HCO
        have hpw1 : 1 ≤ pw := by rw [← hpw]; exact Nat.one_le_two_pow
        clear hpw
        have HW2 := Lib.hid hw2
        clear hw2
        go_loopw [11, 12] (fun f b wr => ∃ (bt : Nat) (fb : Bool), f = .bool fb ∧ b = .int .i64 bt ∧ 1 ≤ bt ∧ bt ≤ pw ∧ (fb = true ∨ bt ≤ code) ∧ Hid (Below WL.heap.size WL wr)) (fun _ b _ => pw - (intOf b).toNat)
        case atStart => exact ⟨1, false, rfl, rfl, Nat.le_refl _, hpw1, .inr HCO.out.2.2, Lib.hid (Below.refl _ _)⟩
        case round =>
          obtain ⟨bt, fb, rfl, rfl, hb1, hb2, hfb, HB⟩ := hrel
          have HFB := Lib.hid hfb
          clear hfb
          by_cases hbt : bt < pw
          · have b1 : (bt : Int) < (pw : Int) := by omega
            have b2 : (0 : Int) ≤ (bt : Int) := by omega
            have hw2 := HW2.out
            go_upto_region 21 with fail
            (try simp only [hw2])
            clear hw2
            go_wp2
            generalize hWB : wr = WB at *
            clear hWB
            go_loopw [13, 14, 90] (fun s o t wr => ∃ (m : Nat) (ob : Bool), t = .int .i64 m ∧ m ≤ i ∧ o = .bool ob ∧ Hid ((ob = true ↔ okC i (pR k R) (sb bt m)) ∧ wr.ownsRow WB.heap.size 3 1 s (sb bt m).length (ic (sb bt m)) ∧ Below WB.heap.size WB wr)) (fun _ _ t _ => i - (intOf t).toNat)
            case atStart => exact ⟨0, true, rfl, Nat.zero_le _, rfl, Lib.hid ⟨⟨fun _ => trivial, fun _ => rfl⟩, ⟨rfl, .inl ⟨rfl, rfl⟩⟩, Below.refl _ _⟩⟩
            case round =>
              obtain ⟨m, ob, rfl, hmi, rfl, HS⟩ := hrel
              by_cases hm : m < i
              · have m1 : (m : Int) < (i : Int) := by omega
                have m2 : (0 : Int) ≤ (m : Int) := by omega
                have hbit := bit_64 (b := bt) (m := m) (by omega) (by omega)
                have hsl := sb_len bt m
                cases htb : bt.testBit m
                · rw [htb] at hbit
                  have hbit2 : (bits BinOp.and IntKind.i64 ((bt : Int) / 2 ^ m) 1 == 0) = true := hbit
                  have HS2 : Hid ((ob = true ↔ okC i (pR k R) (sb bt (m + 1))) ∧ wr.ownsRow WB.heap.size 3 1 «u13» (sb bt (m + 1)).length (ic (sb bt (m + 1))) ∧ Below WB.heap.size WB wr) := Lib.hid (by rw [sb_succ, htb, if_neg (by simp)]; exact HS.out)
                  clear hbit HS htb hsl
                  go_wp2_with fail
                  go_roundw
                  case rel => exact ⟨m + 1, ob, by go_num, by omega, rfl, HS2⟩
                  case measure => simp [intOf]; omega
                · rw [htb] at hbit
                  have hbit2 : (bits BinOp.and IntKind.i64 ((bt : Int) / 2 ^ m) 1 == 0) = false := hbit
                  have hsb : sb bt (m + 1) = sb bt m ++ [m] := by rw [sb_succ, htb, if_pos rfl]
                  have HSB := Lib.hid hsb
                  clear hbit hsb htb
                  obtain ⟨asd, cs', hs13⟩ := own_form HS.out.2.1
                  subst hs13
                  have BX : Hid (Below wr.heap.size wr (wr.alloc (.cells #[.int .i64 (m : Int)] 3))) := Lib.hid ((Below.refl _ _).alloc (Nat.le_refl _) _)
                  have OX : Hid ((wr.alloc (.cells #[.int .i64 (m : Int)] 3)).ownsRow 0 3 1 (.slice (some ⟨wr.heap.size, 0, none⟩) 1 1) 1 (ic [m])) := Lib.hid (il_one (B := 0) wr m)
                  have HW := Lib.hid (HS.out.2.2.trans (BX.out.mono HS.out.2.2.size))
                  obtain ⟨ln, hln⟩ : ∃ q, (sb bt m).length = q := ⟨_, rfl⟩
                  have HLN := Lib.hid hln
                  have OS : Hid (wr.ownsRow WB.heap.size 3 1 (.slice asd ln cs') ln (ic (sb bt m))) := Lib.hid (by rw [← hln]; exact HS.out.2.1)
                  have OP := Lib.hid (own_under OS.out BX.out)
                  rw [hln] at hsl ⊢
                  clear hln
                  have HEND : Hid (∀ (ob' : Bool) (v' : Value) (W : World), (ob' = true ↔ okC i (pR k R) (sb bt m ++ [m])) → W.ownsRow WB.heap.size 3 1 v' (ln + 1) (ic (sb bt m) ++ ic [m]) → Below WB.heap.size WB W → Hid ((ob' = true ↔ okC i (pR k R) (sb bt (m + 1))) ∧ W.ownsRow WB.heap.size 3 1 v' (sb bt (m + 1)).length (ic (sb bt (m + 1))) ∧ Below WB.heap.size WB W)) := Lib.hid (fun ob' v' W h1 h2 h3 => Lib.hid ⟨by rw [HSB.out]; exact h1, by rw [HSB.out, List.length_append, HLN.out, show ic (sb bt m ++ [m]) = ic (sb bt m) ++ ic [m] from by simp [ic]]; exact h2, h3⟩)
                  obtain ⟨m0, hm0, hma, hmb, hmc⟩ := info_parts infoInt0
                  rcases Nat.eq_zero_or_pos ln with hl0 | hlp
                  · subst hl0
                    have HOB : Hid (ob = true ↔ okC i (pR k R) (sb bt m ++ [m])) := Lib.hid (by
                      have e : sb bt m = [] := List.eq_nil_of_length_eq_zero HLN.out
                      rw [e] at HS ⊢
                      exact ⟨fun _ => okC_one hm, fun _ => HS.out.1.2 trivial⟩)
                    clear HS
                    go_wp2_with (at_builtin; go_loud (refine wpList_append_any rfl (.tmp 117) (.tmp 119) 23 rfl WB.heap.size 3 m0 _ 1 8 Tryz.underlying23 hm0 hma hmb hmc rfl (by decide) (.slice asd 0 cs') 0 (ic (sb bt m)) rfl OP.out 1 (ic [m]) (.slice (some ⟨wr.heap.size, 0, none⟩) 1 1) 0 rfl OX.out (ic_one _) (by unfold maxLen; omega) (by omega) HW.out.size ?_; intro v12 w12 hown12 hgr12; have HS3 := HEND.out ob v12 w12 HOB.out hown12 (below_own HW.out HW.out.size OP.out hgr12); clear hown12 hgr12))
                    (try go_wp2_with fail)
                    go_roundw
                    case rel => exact ⟨m + 1, ob, by go_num, by omega, rfl, HS3⟩
                    case measure => simp [intOf]; omega
                  · obtain ⟨q, rfl⟩ : ∃ q, ln = q + 1 := ⟨ln - 1, by omega⟩
                    have q1 : (0 : Int) < ((q + 1 : Nat) : Int) := by omega
                    have q2 : ((q + 1 : Nat) : Int) - 1 = (q : Int) := by omega
                    have q3 : (0 : Int) ≤ (q : Int) := by omega
                    have q4 : (q : Int) < ((q + 1 : Nat) : Int) := by omega
                    have hql : q < (sb bt m).length := by rw [HLN.out]; omega
                    have HEQ := Lib.hid (okC_end (P := pR k R) hm sb_lt HLN.out)
                    have hxm : (sb bt m)[q] < m := sb_lt _ (List.getElem_mem hql)
                    obtain ⟨gs, hgs⟩ := own_addr2 OS.out (by omega)
                    subst hgs
                    have c1 := own_cell1 OS.out (j := q) (x := (sb bt m)[q]) (by rw [List.getElem?_eq_getElem hql])
                    have HT := Lib.hid ((HC.out.under HB.out).under HS.out.2.2)
                    have c2 := (HT.out.rw.cell ((sb bt m)[q])).trans (HT.out.cl _ (by omega))
                    have c3 := HT.out.cell (j := (sb bt m)[q]) (z := m) (by omega) hm hxm
                    have HOB0 := Lib.hid HS.out.1
                    clear HS HT
                    generalize (sb bt m)[q] = x at *
                    have x1 : (0 : Int) ≤ (x : Int) := by omega
                    have x2 : (x : Int) < (i : Int) := by omega
                    cases ob
                    · have HOB : Hid (false = true ↔ okC i (pR k R) (sb bt m ++ [m])) := Lib.hid ⟨fun h => (by cases h), fun h => HOB0.out.2 (HEQ.out.1 h).1⟩
                      clear c1 c2 c3
                      go_wp2_with (at_builtin; go_loud (refine wpList_append_any rfl (.tmp 117) (.tmp 119) 23 rfl WB.heap.size 3 m0 _ 1 8 Tryz.underlying23 hm0 hma hmb hmc rfl (by decide) (.slice (some ⟨gs, 0, none⟩) (q + 1) cs') (q + 1) (ic (sb bt m)) rfl OP.out 1 (ic [m]) (.slice (some ⟨wr.heap.size, 0, none⟩) 1 1) 0 rfl OX.out (ic_one _) (by unfold maxLen; omega) (by omega) HW.out.size ?_; intro v12 w12 hown12 hgr12; have HS3 := HEND.out false v12 w12 HOB.out hown12 (below_own HW.out HW.out.size OP.out hgr12); clear hown12 hgr12))
                      (try go_wp2_with fail)
                      go_roundw
                      case rel => exact ⟨m + 1, false, by go_num, by omega, rfl, HS3⟩
                      case measure => simp [intOf]; omega
                    · obtain ⟨pb, hpb⟩ : ∃ b, pR k R x m = b := ⟨_, rfl⟩
                      have HOB : Hid (pb = true ↔ okC i (pR k R) (sb bt m ++ [m])) := Lib.hid ⟨fun h => HEQ.out.2 ⟨HOB0.out.1 rfl, by rw [hpb]; exact h⟩, fun h => by rw [← hpb]; exact (HEQ.out.1 h).2⟩
                      rw [hpb] at c3
                      clear hpb
                      go_wp2_with (at_builtin; go_loud (refine wpList_append_any rfl (.tmp 117) (.tmp 119) 23 rfl WB.heap.size 3 m0 _ 1 8 Tryz.underlying23 hm0 hma hmb hmc rfl (by decide) (.slice (some ⟨gs, 0, none⟩) (q + 1) cs') (q + 1) (ic (sb bt m)) rfl OP.out 1 (ic [m]) (.slice (some ⟨wr.heap.size, 0, none⟩) 1 1) 0 rfl OX.out (ic_one _) (by unfold maxLen; omega) (by omega) HW.out.size ?_; intro v12 w12 hown12 hgr12; have HS3 := HEND.out pb v12 w12 HOB.out hown12 (below_own HW.out HW.out.size OP.out hgr12); clear hown12 hgr12))
                      (try go_wp2_with fail)
                      go_roundw
                      case rel => exact ⟨m + 1, pb, by go_num, by omega, rfl, HS3⟩
                      case measure => simp [intOf]; omega
              · have m1 : ¬ (m : Int) < (i : Int) := by omega
                obtain rfl : i = m := by omega
                obtain ⟨asd, cs', hs13⟩ := own_form HS.out.2.1
                subst hs13
                have IS0 : Hid (IlIn wr (.slice asd (sb bt i).length cs') (sb bt i)) := Lib.hid (own_base0 HS.out.2.1)
                have hsl := sb_len bt i
                obtain ⟨ls, hls⟩ : ∃ q, (sb bt i).length = q := ⟨_, rfl⟩
                have HLS := Lib.hid hls
                have HOB := Lib.hid HS.out.1
                have HWB0 := Lib.hid (HB.out.trans (HS.out.2.2.mono HB.out.size))
                have HBI : Hid (Best i (pR k R) l) := Lib.hid (by have h := HBL.out; rw [HNN.out] at h; exact h)
                clear HS
                rw [hls] at IS0 hsl ⊢
                clear hls
                generalize hW0 : wr = W0 at *
                clear hW0
                have IS := IS0
                clear IS0
                cases ob
                · have hbc : bt ≠ code := fun e => by
                    have h1 : okC i (pR k R) (sb bt i) := by rw [e, HCO.out.2.1]; exact best_ok HBI.out
                    have h2 := HOB.out.2 h1
                    cases h2
                  have HNX : Hid (fb = true ∨ bt + 1 ≤ code) := Lib.hid (HFB.out.imp_right (fun h => by omega))
                  clear hbc
                  go_wp2_with fail
                  go_roundw
                  case rel => exact ⟨bt + 1, fb, rfl, by go_num, by omega, by omega, HNX.out, HWB0⟩
                  case measure => simp [intOf]; omega
                · have HOC := Lib.hid (HOB.out.1 rfl)
                  have g2 : ¬ l.length < ls := by have h := okC_le HBI.out HOC.out; rw [HLS.out] at h; omega
                  have g1 : ¬ (l.length : Int) < (ls : Int) := by omega
                  have hll : l.length ≤ 6 := by
                    have h := okC_le HBI.out (best_ok HBI.out)
                    have h2 := nodup_le2 (okC_pw (best_ok HBI.out)) (best_lt HBI.out)
                    omega
                  by_cases hle : ls = l.length
                  · have HLX := Lib.hid (best_lex HBI.out HOC.out (by rw [HLS.out]; exact hle))
                    have HLE := Lib.hid hle
                    have e1 : ((ls : Int) == (l.length : Int)) = true := by rw [beq_iff_eq]; omega
                    have e2 : (ls == l.length) = true := by rw [beq_iff_eq]; exact hle
                    clear hle
                    go_upto_region 36 with fail
                    clear e1 e2 g1 g2
                    go_wp2
                    go_loopw [136] (fun t wr => ∃ j : Nat, j ≤ ls ∧ t = .int .i64 j ∧ Hid ((∀ q, ∀ h1 : q < l.length, ∀ h2 : q < (sb bt i).length, q < j → l[q] = (sb bt i)[q]) ∧ Below W0.heap.size W0 wr)) (fun t _ => ls - (intOf t).toNat)
                    case atStart => exact ⟨0, Nat.zero_le _, rfl, Lib.hid ⟨fun q _ _ h => by omega, Below.refl _ _⟩⟩
                    case round =>
                      obtain ⟨j, hj, rfl, HJ⟩ := hrel
                      by_cases hjl : j < ls
                      · have j1 : (j : Int) < (ls : Int) := by omega
                        have j2 : (0 : Int) ≤ (j : Int) := by omega
                        have j3 : (j : Int) < (l.length : Int) := by have := HLE.out; omega
                        have hjs : j < (sb bt i).length := by rw [HLS.out]; exact hjl
                        have hjc : j < l.length := by have := HLE.out; omega
                        have HIS := Lib.hid (IS.out.under HJ.out.2)
                        have HIL := Lib.hid (((IL.out.under HC.out.b1).under HWB0.out).under HJ.out.2)
                        obtain ⟨gs, hgs⟩ := own_addr2 HIS.out (by omega)
                        subst hgs
                        obtain ⟨gl, hgl⟩ := own_addr2 HIL.out (by omega)
                        subst hgl
                        have p1 := own_cell1 HIS.out (j := j) (x := (sb bt i)[j]) (by rw [List.getElem?_eq_getElem hjs])
                        have p2 := own_cell1 HIL.out (j := j) (x := l[j]) (by rw [List.getElem?_eq_getElem hjc])
                        have HLT := Lib.hid (HLX.out j hjc hjs (fun q hq => HJ.out.1 q (by omega) (by omega) hq))
                        have HST := Lib.hid (show l[j] = (sb bt i)[j] → ∀ q, ∀ h1 : q < l.length, ∀ h2 : q < (sb bt i).length, q < j + 1 → l[q] = (sb bt i)[q] from fun h q h1 h2 hq => by
                          rcases (by omega : q < j ∨ q = j) with hq' | rfl
                          · exact HJ.out.1 q h1 h2 hq'
                          · exact h)
                        have HBJ := Lib.hid HJ.out.2
                        clear HJ
                        generalize (sb bt i)[j] = x at *
                        generalize l[j] = y at *
                        clear hjs hjc
                        go_upto_region 39 with fail
                        refine wp_region_held_drew (S := fun w' : World => w'.cell? ⟨gs, j, none⟩ = some (.int .i64 (x : Int)) ∧ w'.cell? ⟨gl, j, none⟩ = some (.int .i64 (y : Int))) (by kernel_rfl) ⟨p1, p2⟩ (fun hHeld => ?_)
                        refine wpAnyH_take (i := 0) (oi := ⟨some 139, _, _, _, _, none⟩) (v := ?_) rfl (by kernel_rfl) (by kernel_rfl) (by kernel_rfl) (fun _ _ _ h => h) (Or.inl ⟨by rfl, ?_⟩) (by assumption) ?_
                        case refine_2 => (intro wx hSx; (try dsimp only at hSx); go_simp; first | done | with_reducible rfl)
                        ((try simp only [Act.put]); (try simp only [List.setIfInBounds_toArray]); (try simp only [List.set_cons_succ]); (try simp only [List.set_cons_zero]))
                        refine wpAnyH_take (i := 1) (oi := ⟨some 140, _, _, _, _, none⟩) (v := ?_) rfl (by kernel_rfl) (by kernel_rfl) (by kernel_rfl) (fun _ _ _ h => h) (Or.inl ⟨by rfl, ?_⟩) (by assumption) ?_
                        case refine_2 => (intro wx hSx; (try dsimp only at hSx); go_simp; first | done | with_reducible rfl)
                        ((try simp only [Act.put]); (try simp only [List.setIfInBounds_toArray]); (try simp only [List.set_cons_succ]); (try simp only [List.set_cons_zero]))
                        refine wpAnyH_take (i := 2) (oi := ⟨some 141, _, _, _, _, none⟩) (v := ?_) rfl (by kernel_rfl) (by kernel_rfl) (by kernel_rfl) (fun _ _ _ h => h) (Or.inl ⟨by rfl, ?_⟩) (by assumption) ?_
                        case refine_2 => (intro wx hSx; (try dsimp only at hSx); go_simp; first | done | with_reducible rfl)
                        ((try simp only [Act.put]); (try simp only [List.setIfInBounds_toArray]); (try simp only [List.set_cons_succ]); (try simp only [List.set_cons_zero]))
                        refine wpAnyH_take (i := 3) (oi := ⟨some 142, _, _, _, _, none⟩) (v := ?_) rfl (by kernel_rfl) (by kernel_rfl) (by kernel_rfl) (fun _ _ _ h => h) (Or.inl ⟨by rfl, ?_⟩) (by assumption) ?_
                        case refine_2 => (intro wx hSx; (try dsimp only at hSx); go_simp; first | done | with_reducible rfl)
                        ((try simp only [Act.put]); (try simp only [List.setIfInBounds_toArray]); (try simp only [List.set_cons_succ]); (try simp only [List.set_cons_zero]))
                        refine wpAnyH_take (i := 4) (oi := ⟨some 143, _, _, _, _, none⟩) (v := ?_) rfl (by kernel_rfl) (by kernel_rfl) (by kernel_rfl) (fun _ _ _ h => h) (Or.inl ⟨by rfl, ?_⟩) (by assumption) ?_
                        case refine_2 => (intro wx hSx; (try dsimp only at hSx); go_simp; first | done | with_reducible rfl)
                        ((try simp only [Act.put]); (try simp only [List.setIfInBounds_toArray]); (try simp only [List.set_cons_succ]); (try simp only [List.set_cons_zero]))
                        refine wpAnyH_take (i := 5) (oi := ⟨some 144, _, _, _, _, none⟩) (v := ?_) rfl (by kernel_rfl) (by kernel_rfl) (by kernel_rfl) (fun _ _ _ h => h) (Or.inl ⟨by rfl, ?_⟩) (by assumption) ?_
                        case refine_2 => (intro wx hSx; (try dsimp only at hSx); go_simp; first | done | with_reducible rfl)
                        ((try simp only [Act.put]); (try simp only [List.setIfInBounds_toArray]); (try simp only [List.set_cons_succ]); (try simp only [List.set_cons_zero]))
                        refine wpAnyH_take (i := 6) (oi := ⟨some 145, _, _, _, _, none⟩) (v := ?_) rfl (by kernel_rfl) (by kernel_rfl) (by kernel_rfl) (fun _ _ _ h => h) (Or.inl ⟨by rfl, ?_⟩) (by assumption) ?_
                        case refine_2 => (intro wx hSx; (try dsimp only at hSx); go_simp; first | done | with_reducible rfl)
                        ((try simp only [Act.put]); (try simp only [List.setIfInBounds_toArray]); (try simp only [List.set_cons_succ]); (try simp only [List.set_cons_zero]))
                        refine wpAnyH_take (i := 7) (oi := ⟨some 146, _, _, _, _, none⟩) (v := ?_) rfl (by kernel_rfl) (by kernel_rfl) (by kernel_rfl) (fun _ _ _ h => h) (Or.inl ⟨by rfl, ?_⟩) (by assumption) ?_
                        case refine_2 => (intro wx hSx; (try dsimp only at hSx); go_simp; first | done | with_reducible rfl)
                        ((try simp only [Act.put]); (try simp only [List.setIfInBounds_toArray]); (try simp only [List.set_cons_succ]); (try simp only [List.set_cons_zero]))
                        refine wpAnyH_take (i := 8) (oi := ⟨some 147, _, _, _, _, none⟩) (v := ?_) rfl (by kernel_rfl) (by kernel_rfl) (by kernel_rfl) (fun _ _ _ h => h) (Or.inl ⟨by rfl, ?_⟩) (by assumption) ?_
                        case refine_2 => (intro wx hSx; (try dsimp only at hSx); go_simp; first | done | with_reducible rfl)
                        ((try simp only [Act.put]); (try simp only [List.setIfInBounds_toArray]); (try simp only [List.set_cons_succ]); (try simp only [List.set_cons_zero]))
                        refine wpAnyH_done (by kernel_rfl) ?_ _
                        have hdd : Below wr.heap.size wr wr.drew := ⟨rfl, rfl, rfl, Nat.le_refl _, fun _ _ => rfl⟩
                        have HBK := Lib.hid (HBJ.out.trans (hdd.mono HBJ.out.size))
                        clear hHeld hdd HBJ
                        by_cases hxy : x = y
                        · have HS2 := Lib.hid (HST.out hxy.symm)
                          subst hxy
                          clear HST HLT p1 p2
                          go_wp2_with fail
                          go_roundw
                          case rel => exact ⟨j + 1, by omega, by go_num, Lib.hid ⟨HS2.out, HBK.out⟩⟩
                          case measure => simp [intOf]; omega
                        · have hc : ((x : Int) == (y : Int)) = false := by rw [beq_eq_false_iff_ne]; omega
                          have hlt2 : ¬ (x : Int) < (y : Int) := by have := HLT.out; omega
                          have hlt3 : ¬ x < y := by have := HLT.out; omega
                          have hxy2 : ¬ (x : Int) = (y : Int) := by omega
                          clear HST HLT
                          go_upto_region 40 with fail
                          clear hc hxy hxy2
                          refine wp_region_held_drew (S := fun w' : World => w'.cell? ⟨gs, j, none⟩ = some (.int .i64 (x : Int)) ∧ w'.cell? ⟨gl, j, none⟩ = some (.int .i64 (y : Int))) (by kernel_rfl) ⟨p1, p2⟩ (fun hHeld => ?_)
                          refine wpAnyH_take (i := 0) (oi := ⟨some 148, _, _, _, _, none⟩) (v := ?_) rfl (by kernel_rfl) (by kernel_rfl) (by kernel_rfl) (fun _ _ _ h => h) (Or.inl ⟨by rfl, ?_⟩) (by assumption) ?_
                          case refine_2 => (intro wx hSx; (try dsimp only at hSx); go_simp; first | done | with_reducible rfl)
                          ((try simp only [Act.put]); (try simp only [List.setIfInBounds_toArray]); (try simp only [List.set_cons_succ]); (try simp only [List.set_cons_zero]))
                          refine wpAnyH_take (i := 1) (oi := ⟨some 149, _, _, _, _, none⟩) (v := ?_) rfl (by kernel_rfl) (by kernel_rfl) (by kernel_rfl) (fun _ _ _ h => h) (Or.inl ⟨by rfl, ?_⟩) (by assumption) ?_
                          case refine_2 => (intro wx hSx; (try dsimp only at hSx); go_simp; first | done | with_reducible rfl)
                          ((try simp only [Act.put]); (try simp only [List.setIfInBounds_toArray]); (try simp only [List.set_cons_succ]); (try simp only [List.set_cons_zero]))
                          refine wpAnyH_take (i := 2) (oi := ⟨some 150, _, _, _, _, none⟩) (v := ?_) rfl (by kernel_rfl) (by kernel_rfl) (by kernel_rfl) (fun _ _ _ h => h) (Or.inl ⟨by rfl, ?_⟩) (by assumption) ?_
                          case refine_2 => (intro wx hSx; (try dsimp only at hSx); go_simp; first | done | with_reducible rfl)
                          ((try simp only [Act.put]); (try simp only [List.setIfInBounds_toArray]); (try simp only [List.set_cons_succ]); (try simp only [List.set_cons_zero]))
                          refine wpAnyH_take (i := 3) (oi := ⟨some 151, _, _, _, _, none⟩) (v := ?_) rfl (by kernel_rfl) (by kernel_rfl) (by kernel_rfl) (fun _ _ _ h => h) (Or.inl ⟨by rfl, ?_⟩) (by assumption) ?_
                          case refine_2 => (intro wx hSx; (try dsimp only at hSx); go_simp; first | done | with_reducible rfl)
                          ((try simp only [Act.put]); (try simp only [List.setIfInBounds_toArray]); (try simp only [List.set_cons_succ]); (try simp only [List.set_cons_zero]))
                          refine wpAnyH_take (i := 4) (oi := ⟨some 152, _, _, _, _, none⟩) (v := ?_) rfl (by kernel_rfl) (by kernel_rfl) (by kernel_rfl) (fun _ _ _ h => h) (Or.inl ⟨by rfl, ?_⟩) (by assumption) ?_
                          case refine_2 => (intro wx hSx; (try dsimp only at hSx); go_simp; first | done | with_reducible rfl)
                          ((try simp only [Act.put]); (try simp only [List.setIfInBounds_toArray]); (try simp only [List.set_cons_succ]); (try simp only [List.set_cons_zero]))
                          refine wpAnyH_take (i := 5) (oi := ⟨some 153, _, _, _, _, none⟩) (v := ?_) rfl (by kernel_rfl) (by kernel_rfl) (by kernel_rfl) (fun _ _ _ h => h) (Or.inl ⟨by rfl, ?_⟩) (by assumption) ?_
                          case refine_2 => (intro wx hSx; (try dsimp only at hSx); go_simp; first | done | with_reducible rfl)
                          ((try simp only [Act.put]); (try simp only [List.setIfInBounds_toArray]); (try simp only [List.set_cons_succ]); (try simp only [List.set_cons_zero]))
                          refine wpAnyH_take (i := 6) (oi := ⟨some 154, _, _, _, _, none⟩) (v := ?_) rfl (by kernel_rfl) (by kernel_rfl) (by kernel_rfl) (fun _ _ _ h => h) (Or.inl ⟨by rfl, ?_⟩) (by assumption) ?_
                          case refine_2 => (intro wx hSx; (try dsimp only at hSx); go_simp; first | done | with_reducible rfl)
                          ((try simp only [Act.put]); (try simp only [List.setIfInBounds_toArray]); (try simp only [List.set_cons_succ]); (try simp only [List.set_cons_zero]))
                          refine wpAnyH_take (i := 7) (oi := ⟨some 155, _, _, _, _, none⟩) (v := ?_) rfl (by kernel_rfl) (by kernel_rfl) (by kernel_rfl) (fun _ _ _ h => h) (Or.inl ⟨by rfl, ?_⟩) (by assumption) ?_
                          case refine_2 => (intro wx hSx; (try dsimp only at hSx); go_simp; first | done | with_reducible rfl)
                          ((try simp only [Act.put]); (try simp only [List.setIfInBounds_toArray]); (try simp only [List.set_cons_succ]); (try simp only [List.set_cons_zero]))
                          refine wpAnyH_take (i := 8) (oi := ⟨some 156, _, _, _, _, none⟩) (v := ?_) rfl (by kernel_rfl) (by kernel_rfl) (by kernel_rfl) (fun _ _ _ h => h) (Or.inl ⟨by rfl, ?_⟩) (by assumption) ?_
                          case refine_2 => (intro wx hSx; (try dsimp only at hSx); go_simp; first | done | with_reducible rfl)
                          ((try simp only [Act.put]); (try simp only [List.setIfInBounds_toArray]); (try simp only [List.set_cons_succ]); (try simp only [List.set_cons_zero]))
                          refine wpAnyH_done (by kernel_rfl) ?_ _
                          have hdd2 : Below W0.heap.size W0 wr.drew.drew := HBK.out.trans ⟨rfl, rfl, rfl, Nat.le_refl _, fun _ _ => rfl⟩
                          have HBQ := Lib.hid hdd2
                          clear hHeld hdd2 HBK p1 p2
                          go_upto_region 43 with fail
                          clear hlt2 hlt3
                          cases fb
                          · obtain ⟨z, hz⟩ : ∃ z, decide (sb bt i = l) = z := ⟨_, rfl⟩
                            have HZ := Lib.hid hz
                            have HNX : Hid (z = true ∨ bt + 1 ≤ code) := Lib.hid (by
                              by_cases hbc : bt = code
                              · left
                                rw [← hz, hbc, HCO.out.2.1]
                                exact decide_eq_true rfl
                              · right
                                rcases HFB.out with h | h
                                · cases h
                                · omega)
                            have I1 := Lib.hid (IS.out.under HBQ.out)
                            have I2 := Lib.hid (((IL.out.under HC.out.b1).under HWB0.out).under HBQ.out)
                            have HBZ := Lib.hid (HWB0.out.trans (HBQ.out.mono HWB0.out.size))
                            clear hz
                            go_wp2_with fail
                            refine (ints_any _ _ (sb bt i) l _ I1.out I2.out (by rw [HLS.out]; omega)).mono ?_
                            rintro e wy ⟨rfl, by1⟩
                            rw [HZ.out]
                            have HBY := Lib.hid (HBZ.out.trans (by1.mono HBZ.out.size))
                            clear by1
                            go_wp2_with fail
                            go_roundw
                            case rel => exact ⟨bt + 1, z, rfl, by go_num, by omega, by omega, HNX.out, HBY⟩
                            case measure => simp [intOf]; omega
                          · have HBZ := Lib.hid (HWB0.out.trans (HBQ.out.mono HWB0.out.size))
                            go_wp2_with fail
                            go_roundw
                            case rel => exact ⟨bt + 1, true, rfl, by go_num, by omega, by omega, .inl rfl, HBZ⟩
                            case measure => simp [intOf]; omega
                      · have j1 : ¬ (j : Int) < (ls : Int) := by omega
                        have HBQ := Lib.hid HJ.out.2
                        clear HJ
                        go_upto_region 43 with fail
                        cases fb
                        · obtain ⟨z, hz⟩ : ∃ z, decide (sb bt i = l) = z := ⟨_, rfl⟩
                          have HZ := Lib.hid hz
                          have HNX : Hid (z = true ∨ bt + 1 ≤ code) := Lib.hid (by
                            by_cases hbc : bt = code
                            · left
                              rw [← hz, hbc, HCO.out.2.1]
                              exact decide_eq_true rfl
                            · right
                              rcases HFB.out with h | h
                              · cases h
                              · omega)
                          have I1 := Lib.hid (IS.out.under HBQ.out)
                          have I2 := Lib.hid (((IL.out.under HC.out.b1).under HWB0.out).under HBQ.out)
                          have HBZ := Lib.hid (HWB0.out.trans (HBQ.out.mono HWB0.out.size))
                          clear hz
                          go_wp2_with fail
                          refine (ints_any _ _ (sb bt i) l _ I1.out I2.out (by rw [HLS.out]; omega)).mono ?_
                          rintro e wy ⟨rfl, by1⟩
                          rw [HZ.out]
                          have HBY := Lib.hid (HBZ.out.trans (by1.mono HBZ.out.size))
                          clear by1
                          go_wp2_with fail
                          go_roundw
                          case rel => exact ⟨bt + 1, z, rfl, by go_num, by omega, by omega, HNX.out, HBY⟩
                          case measure => simp [intOf]; omega
                        · have HBZ := Lib.hid (HWB0.out.trans (HBQ.out.mono HWB0.out.size))
                          go_wp2_with fail
                          go_roundw
                          case rel => exact ⟨bt + 1, true, rfl, by go_num, by omega, by omega, .inl rfl, HBZ⟩
                          case measure => simp [intOf]; omega
                  · have e1 : ((ls : Int) == (l.length : Int)) = false := by rw [beq_eq_false_iff_ne]; omega
                    have e2 : (ls == l.length) = false := by rw [beq_eq_false_iff_ne]; exact hle
                    have HBQ : Hid (Below W0.heap.size W0 W0) := Lib.hid (Below.refl _ _)
                    go_upto_region 43 with fail
                    clear e1 e2 g1 g2 hle
                    cases fb
                    · obtain ⟨z, hz⟩ : ∃ z, decide (sb bt i = l) = z := ⟨_, rfl⟩
                      have HZ := Lib.hid hz
                      have HNX : Hid (z = true ∨ bt + 1 ≤ code) := Lib.hid (by
                        by_cases hbc : bt = code
                        · left
                          rw [← hz, hbc, HCO.out.2.1]
                          exact decide_eq_true rfl
                        · right
                          rcases HFB.out with h | h
                          · cases h
                          · omega)
                      have I1 := Lib.hid (IS.out.under HBQ.out)
                      have I2 := Lib.hid (((IL.out.under HC.out.b1).under HWB0.out).under HBQ.out)
                      have HBZ := Lib.hid (HWB0.out.trans (HBQ.out.mono HWB0.out.size))
                      clear hz
                      go_wp2_with fail
                      refine (ints_any _ _ (sb bt i) l _ I1.out I2.out (by rw [HLS.out]; omega)).mono ?_
                      rintro e wy ⟨rfl, by1⟩
                      rw [HZ.out]
                      have HBY := Lib.hid (HBZ.out.trans (by1.mono HBZ.out.size))
                      clear by1
                      go_wp2_with fail
                      go_roundw
                      case rel => exact ⟨bt + 1, z, rfl, by go_num, by omega, by omega, HNX.out, HBY⟩
                      case measure => simp [intOf]; omega
                    · have HBZ := Lib.hid (HWB0.out.trans (HBQ.out.mono HWB0.out.size))
                      go_wp2_with fail
                      go_roundw
                      case rel => exact ⟨bt + 1, true, rfl, by go_num, by omega, by omega, .inl rfl, HBZ⟩
                      case measure => simp [intOf]; omega
          · have b1 : ¬ (bt : Int) < (pw : Int) := by omega
            have hw2 := HW2.out
            obtain rfl : fb = true := by
              rcases HFB.out with h | h
              · exact h
              · have := HCO.out.1; omega
            have HLS := Lib.hid (L4.out.src.below.trans (HC.out.b1.mono L4.out.src.below.size))
            have HL2 := Lib.hid (HLS.out.trans (HB.out.mono HLS.out.size))
            go_upto_region 44 with fail
            go_wp2_with fail
            refine (awake_any _).mono ?_
            rintro e wz ⟨rfl, bz⟩
            have HZZ := Lib.hid (HL2.out.trans (bz.mono HL2.out.size))
            clear bz
            go_wp2_with fail
            go_ret
            exact ⟨rfl, HZZ.out⟩
end Go.Proofs.YtejoabaanclcbaaGreat.Tk

