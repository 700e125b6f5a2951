/- The program's Check. -/
import Derived.Test.YtlakgkoohdfiaaaDoorQam
namespace Go.Proofs.YtlakgkoohdfiaaaDoor.Tm
open Go.RowKit Go.Maps Go.ChangeMaps

/-- What Check leaves. -/
def CkO (Q : List Rp) (S P : Int → Int) (w : World) (e : Ending) (w' : World) : Prop := ∃ v, e = .returned (.tuple #[v, .int .i64 (erT Q S P)]) ∧ Below w.heap.size w w' ∧ (erT Q S P ≠ 0 → v = .slice none 0 0) ∧ (erT Q S P = 0 → w'.ownsRow w.heap.size 77 3 v (flg Q S P).length (rc flE (flg Q S P)))
set_option maxRecDepth 100000 in
set_option maxHeartbeats 8000000 in
theorem check_any (v : Value) (Q : List Rp) (cs : Array Value) (S P : Int → Int) (w : World) (hv : RpsIn w v Q) (hk : Ct cs S P) (hE : El.Tab w) (hl : Q.length ≤ 1000) (hn : ∀ r ∈ Q, r.nm.size ≤ 40) :
    Calls Tryd.prog 41 #[v, .agg cs] w (CkO Q S P w) := by
  have HN := Lib.hid hn; clear hn
  have HE := Lib.hid hE; clear hE
  obtain ⟨A, cap, rfl, h1, h2, -⟩ := id hv
  have HV := Lib.hid hv; clear hv
  have I0 : Hid (Below w.heap.size w (w.alloc (.cells cs 67)) ∧ Row (w.alloc (.cells cs 67)) w.heap.size 67 cs) := Lib.hid ⟨(Below.refl w.heap.size w).alloc (Nat.le_refl _) _, Row.new _ _ _⟩
  have HK := Lib.hid hk; clear hk
  go_enter Tryd.func41, Tryd.ntmps41
  go_upto_region 1 with fail
  refine forget (fun Y => Hid (Below w.heap.size w Y ∧ Row Y w.heap.size 67 cs)) I0 ?_
  clear I0
  obtain ⟨gk, hgk⟩ : ∃ g, w.heap.size = g := ⟨_, rfl⟩
  have HGK := Lib.hid hgk
  rw [hgk]
  clear hgk
  rintro Y HY
  have hcs : (Tryd.prog.info? 67).map (·.size) = some cs.size := by rw [HK.out.size]; kernel_rfl
  have hbox : Y.heap[gk]? = some (.cells cs 67 (0, 0)) := HY.out.2
  go_wp2_with (refine wpList_load_row rfl 67 (.tmp 3) rfl gk rfl 67 cs (0, 0) _ hbox Tryd.underlying67 rfl hcs ?_)
  refine (validate_any _ Q cs S P Y (HV.out.under (HGK.out ▸ HY.out.1)) HK.out (HE.out.under (HGK.out ▸ HY.out.1)) (by omega) HN.out).mono ?_
  rintro e Y1 ⟨rfl, g1⟩
  have HY1 : Hid (Below w.heap.size w Y1 ∧ Row Y1 gk 67 cs) := Lib.hid ⟨by have h := HGK.out ▸ HY.out.1; exact h.trans (g1.mono h.size), HY.out.2.under g1⟩
  clear HY g1 hbox hcs
  by_cases her : erT Q S P = 0
  · have HO := Lib.hid (erT_ok her)
    have HER := Lib.hid her
    rw [her]
    clear her
    go_wp2_with fail
    refine (lines_any _ Q Y1 (HV.out.under HY1.out.1) hl HN.out HO.out.v HO.out.d).mono ?_
    rintro e Y2 ⟨b, f, n, rfl, hn5, hG⟩
    have HY2 : Hid (Below w.heap.size w Y2 ∧ Row Y2 gk 67 cs) := Lib.hid ⟨HY1.out.1.trans (hG.below.mono HY1.out.1.size), HY1.out.2.under hG.below⟩
    have HFI : Hid (∀ k v, f k = some v → ∀ i, v.ownBlock = some i → i < Y2.heap.size) := Lib.hid (fun k v e i hi => row_size (hG.rows k v e).1 hi)
    have HOK := Lib.hid hG.ok
    have HNil := Lib.hid hG.nil
    have hbl := hG.map.lt
    obtain ⟨D, hown, hD⟩ := hG.map
    have HD := Lib.hid hD
    have HG := Lib.hid hG
    clear hD hG HY1
    obtain ⟨i0, hi, hz0, hz1, hz2⟩ := info_parts infoF
    go_wp2_with (at_range; refine wpList_range_own _ rfl _ 129 rfl 132 133 Ow.law Tryd.underlying129 MsR b n D rfl hown ?_; intro w1 hrg hgr hsz)
    try go_frame
    have HN0 : Hid (G3 w Y1 n (fun k => lin Q k.1 k.2) b Y2.heap.size gk cs D f (Maps.has D) (Maps.size D) (.slice none 0 0) (([] : List Ke).flatMap (ffA Q S P)) w1 ∧ Kd f (Maps.has D) []) := Lib.hid ⟨⟨HY2.out.1.grown hgr HY2.out.1.size (by simp), HG.out.map.kept hgr (by simp), hrg, fun k v e => ⟨own_heap (HG.out.rows k v e).1 fun i hi => hgr.block i (row_size (HG.out.rows k v e).1 hi) (by simp), (HG.out.rows k v e).2⟩, HY2.out.2.grown hgr (by simp), ⟨rfl, .inl ⟨rfl, rfl⟩⟩, by omega⟩, Kd.none HD.out⟩
    have HWG : Hid (w.heap.size ≤ Y2.heap.size) := Lib.hid HY2.out.1.size
    have HKI : Hid (gk < Y2.heap.size) := Lib.hid HY2.out.2.lt
    clear hrg hgr hsz hown
    obtain ⟨gi, hgi⟩ : ∃ g, Y2.heap.size = g := ⟨_, rfl⟩
    rw [hgi] at HN0 HFI hbl HWG HKI ⊢
    clear hgi HG HY2
    go_loopw [7, 22] (fun o _ wr => ∃ (left : Lit → Bool) (cnt : Nat) (Ks : List Ke), Hid (G3 w Y1 n (fun k => lin Q k.1 k.2) b gi gk cs D f left cnt o (Ks.flatMap (ffA Q S P)) wr ∧ Kd f left Ks)) (fun _ _ wr => wr.rangeLeft b gi)
    case atStart => exact ⟨_, _, _, HN0⟩
    case round =>
      obtain ⟨left, cnt, Ks, HN3⟩ := hrel
      clear HN0
      have hrange := HN3.out.1.rng
      go_wp2_with (at_next; refine wpList_next_ranges _ rfl _ rfl 132 Ow.law MsR keV (fun v : Value => v) (fun key kl h => by obtain ⟨k, e, -⟩ := Ow.nk_inv h; exact ⟨k, e⟩) (fun v y _ => ⟨v, rfl⟩) b gi n D left cnt rfl hrange ?_ ?_)
      · intro _ hl0
        have HKK : Hid (∀ key, lin Q key.1 key.2 ≠ [] → key ∈ Ks) := Lib.hid (fun key hne => by
          cases hf : f key with
          | none => exact absurd (HNil.out key hf) hne
          | some v =>
            have hok := HOK.out key v hf
            exact (HN3.out.2.iff key hok).2 ⟨by rw [hf]; rfl, hl0 _⟩)
        clear hl0 hrange
        have HLn := Lib.hid (fl_len HO.out hl HN3.out.2.nd)
        have HFS := Lib.hid (fun F => fl_sorted (F := F) HO.out HN3.out.2.nd HKK.out)
        have HG3 := Lib.hid HN3.out.1
        clear HN3
        generalize Ks.flatMap (ffA Q S P) = F at *
        have HFl : Hid (F.length ≤ 12000) := Lib.hid HLn.out
        obtain ⟨Ao, co, hvo⟩ := row_form HG3.out.fl
        subst hvo
        have hst := Lib.hid (sortF_any (gi + 1) _ _ wr (by have := HLn.out; omega) HG3.out.fl)
        generalize F.length = m at *
        go_wp2_with fail
        refine hst.out.mono ?_
        rintro e w4 ⟨rfl, hg4, F4, hp4, hs4, ho4⟩
        have HE4 := Lib.hid (HFS.out F4 hp4 (hs4.imp fun {x y} h => by omega))
        have HB4 := Lib.hid (HG3.out.below.grown hg4 HG3.out.below.size (fun i e => by have := row_base HG3.out.fl e; have := HWG.out; omega))
        have HO4 := Lib.hid (own_base ho4 (show w.heap.size ≤ gi + 1 by have := HWG.out; omega))
        have HF : Hid (∀ u, u = Value.tuple #[.slice Ao m co, .int .i64 0] → CkO Q S P w (.returned u) w4) := Lib.hid (fun u hu => ⟨.slice Ao m co, by rw [hu, HER.out], HB4.out, fun h => absurd HER.out h, fun _ => by rw [← HE4.out]; exact HO4.out⟩)
        clear hg4 hp4 hs4 ho4 hst HE4 HB4 HO4 HG3
        go_wp2_with fail
        go_ret2
        exact HF.out _ rfl
      · intro x1 x2 c kl y1 y2 w2 cnt2 hkey hlx hy hat hrg1 hlt hg1 hs1 hen
        obtain ⟨hfx, rfl, hok⟩ := at_key HD.out hkey hy hat
        have HFx := Lib.hid hfx
        have HK2 := Lib.hid (HN3.out.2.snoc hok hfx hlx)
        have HRO := Lib.hid hrange
        have HLT := Lib.hid hlt
        have H3 := Lib.hid (HN3.out.1.next hg1 hrg1 HWG.out hbl HKI.out HFI.out)
        have hpos := (H3.out.rows _ _ hfx).2
        have hcode := lin_code HO.out (key := (x1, x2)) hpos
        obtain ⟨jc, hjc⟩ := Int.eq_ofNat_of_zero_le (show 0 ≤ x2 by have := hcode.1; exact Int.le_trans (by decide) this)
        subst hjc
        have hjc : jc < 12 := by have := hcode.2; dsimp only at this; omega
        have HSb := Lib.hid (HO.out.s jc hjc)
        have HPb := Lib.hid (HO.out.p jc hjc)
        have HLb : Hid ((lin Q x1 (jc : Int)).length ≤ 1000) := Lib.hid (Nat.le_trans (linK_len Q x1 _ _) hl)
        have HPo : Hid (0 < (lin Q x1 (jc : Int)).length) := Lib.hid hpos
        obtain ⟨Ac, cc, ec⟩ := row_form (H3.out.rows _ _ hfx).1
        dsimp only at ec
        subst ec
        have HIn : Hid (∀ o F Y, G3 w Y1 n (fun k => lin Q k.1 k.2) b gi gk cs D f (fun z => left z && !z.sameKey (Ow.nk (x1, (jc : Int)))) cnt2 o F Y → In3 ptE Y (.slice Ac (lin Q x1 (jc : Int)).length cc) (lin Q x1 (jc : Int))) := Lib.hid (fun o F Y h => In3.own ptE_len (h.rows _ _ HFx.out).1)
        clear hkey hlx hy hat hrg1 hg1 hs1 hrange hlt hfx hok HN3 hpos hcode
        unfold keV at hen
        dsimp only at hen
        obtain ⟨F0, hF0⟩ : ∃ F, Ks.flatMap (ffA Q S P) = F := ⟨_, rfl⟩
        have HF0 := Lib.hid hF0
        rw [hF0] at H3
        clear hF0
        have b3 := (Below.refl w2.heap.size w2).alloc (Nat.le_refl _) (.cells #[.string x1, .int .i64 (jc : Int)] 132)
        have H4 : Hid (G3 w Y1 n (fun k => lin Q k.1 k.2) b gi gk cs D f (fun z => left z && !z.sameKey (Ow.nk (x1, (jc : Int)))) cnt2 u7 F0 (w2.alloc (.cells #[.string x1, .int .i64 (jc : Int)] 132)) ∧ Row (w2.alloc (.cells #[.string x1, .int .i64 (jc : Int)] 132)) w2.heap.size 132 #[.string x1, .int .i64 (jc : Int)]) := Lib.hid ⟨H3.out.under b3, Row.new _ _ _⟩
        clear b3 H3
        go_upto_region 8 with fail
        refine forget (fun Y => Hid (G3 w Y1 n (fun k => lin Q k.1 k.2) b gi gk cs D f (fun z => left z && !z.sameKey (Ow.nk (x1, (jc : Int)))) cnt2 u7 F0 Y ∧ Row Y w2.heap.size 132 #[.string x1, .int .i64 (jc : Int)])) H4 ?_
        clear H4 hen
        generalize w2.heap.size = go at *
        rintro Y4 H4
        obtain ⟨o0, o1⟩ := row2 H4.out.2
        have j1 : (0 : Int) ≤ (jc : Int) := by omega
        have j2 : (jc : Int) < 12 := by omega
        have c0 := (H4.out.1.ct.cell (1 + jc)).trans (HK.out.s jc hjc)
        go_wp2_with fail
        refine (steps_any _ (lin Q x1 (jc : Int)) (S (jc : Int)) _ (HIn.out _ _ _ H4.out.1) HPo.out (by have := HLb.out; omega) (lin_srt HO.out.d _ _) (fun j hj => lin_pb HO.out (key := (x1, (jc : Int))) hj) HSb.out.1 HSb.out.2).mono ?_
        rintro e Y5 ⟨gB, rfl, hM⟩
        have H5 : Hid (G3 w Y1 n (fun k => lin Q k.1 k.2) b gi gk cs D f (fun z => left z && !z.sameKey (Ow.nk (x1, (jc : Int)))) cnt2 u7 (F0 ++ ff Q S P (x1, (jc : Int)) 0) Y5 ∧ Row Y5 go 132 #[.string x1, .int .i64 (jc : Int)] ∧ Mr gB (lin Q x1 (jc : Int)).length (fun j => decide (0 < S (jc : Int)) && rj (S (jc : Int)) (lin Q x1 (jc : Int)) j) Y5) := Lib.hid ⟨(H4.out.1.under hM.below).to (by simp [ff]), H4.out.2.under hM.below, hM.row⟩
        clear hM H4 o0 o1 c0
        have HPl : Hid (∀ j, j ≤ (lin Q x1 (jc : Int)).length → (F0 ++ ff Q S P (x1, (jc : Int)) j).length ≤ 12000) := Lib.hid (fun j hj => by rw [← HF0.out]; exact part_len HO.out hl HK2.out.nd (key := (x1, (jc : Int))) hj)
        have HSp : Hid (∀ j, j < (lin Q x1 (jc : Int)).length → ∀ Y, In3 ptE Y (.slice Ac (lin Q x1 (jc : Int)).length cc) (lin Q x1 (jc : Int)) → Calls Tryd.prog 81 #[.slice Ac (lin Q x1 (jc : Int)).length cc, .int .i64 (j : Int), .int .i64 (P (jc : Int))] Y fun e w' => e = .returned (.bool (spk (P (jc : Int)) (lin Q x1 (jc : Int)) j)) ∧ Below Y.heap.size Y w') := Lib.hid (fun j hj Y h => isSpike_any _ (lin Q x1 (jc : Int)) j (P (jc : Int)) Y h hj (by have := HLb.out; omega) (fun q hq => lin_pb HO.out (key := (x1, (jc : Int))) hq) HPb.out.1 HPb.out.2)
        have hlL : (lin Q x1 (jc : Int)).length ≤ 1000 := HLb.out
        go_wp2_with fail
        go_loopw [7, 36] (fun o t wr => ∃ j : Nat, j ≤ (lin Q x1 (jc : Int)).length ∧ t = .int .i64 (j : Int) ∧ Hid (G3 w Y1 n (fun k => lin Q k.1 k.2) b gi gk cs D f (fun z => left z && !z.sameKey (Ow.nk (x1, (jc : Int)))) cnt2 o (F0 ++ ff Q S P (x1, (jc : Int)) j) wr ∧ Row wr go 132 #[.string x1, .int .i64 (jc : Int)] ∧ Mr gB (lin Q x1 (jc : Int)).length (fun j => decide (0 < S (jc : Int)) && rj (S (jc : Int)) (lin Q x1 (jc : Int)) j) wr)) (fun _ t _ => (lin Q x1 (jc : Int)).length - (intOf t).toNat)
        case atStart => exact ⟨0, Nat.zero_le _, rfl, H5⟩
        case round =>
          clear H5
          obtain ⟨j, hj, rfl, H6⟩ := hrel
          by_cases hlj : j < (lin Q x1 (jc : Int)).length
          · have k1 : (j : Int) < ((lin Q x1 (jc : Int)).length : Int) := by omega
            have k2 : (0 : Int) ≤ (j : Int) := by omega
            obtain ⟨g, off, hA, hg, d0, d1, d2⟩ := (HIn.out _ _ _ H6.out.1).cells hlj
            subst hA
            have b6 := (Below.refl wr.heap.size wr).alloc (Nat.le_refl _) (.cells #[.int .i64 (pa (lin Q x1 (jc : Int)) j).v, .int .i64 (pa (lin Q x1 (jc : Int)) j).t, .int .i64 ((pa (lin Q x1 (jc : Int)) j).i : Int)] 137)
            have H7 : Hid (G3 w Y1 n (fun k => lin Q k.1 k.2) b gi gk cs D f (fun z => left z && !z.sameKey (Ow.nk (x1, (jc : Int)))) cnt2 u7 (F0 ++ ff Q S P (x1, (jc : Int)) j) (wr.alloc (.cells #[.int .i64 (pa (lin Q x1 (jc : Int)) j).v, .int .i64 (pa (lin Q x1 (jc : Int)) j).t, .int .i64 ((pa (lin Q x1 (jc : Int)) j).i : Int)] 137)) ∧ Row (wr.alloc (.cells #[.int .i64 (pa (lin Q x1 (jc : Int)) j).v, .int .i64 (pa (lin Q x1 (jc : Int)) j).t, .int .i64 ((pa (lin Q x1 (jc : Int)) j).i : Int)] 137)) go 132 #[.string x1, .int .i64 (jc : Int)] ∧ Mr gB (lin Q x1 (jc : Int)).length (fun j => decide (0 < S (jc : Int)) && rj (S (jc : Int)) (lin Q x1 (jc : Int)) j) (wr.alloc (.cells #[.int .i64 (pa (lin Q x1 (jc : Int)) j).v, .int .i64 (pa (lin Q x1 (jc : Int)) j).t, .int .i64 ((pa (lin Q x1 (jc : Int)) j).i : Int)] 137)) ∧ Row (wr.alloc (.cells #[.int .i64 (pa (lin Q x1 (jc : Int)) j).v, .int .i64 (pa (lin Q x1 (jc : Int)) j).t, .int .i64 ((pa (lin Q x1 (jc : Int)) j).i : Int)] 137)) wr.heap.size 137 #[.int .i64 (pa (lin Q x1 (jc : Int)) j).v, .int .i64 (pa (lin Q x1 (jc : Int)) j).t, .int .i64 ((pa (lin Q x1 (jc : Int)) j).i : Int)]) := Lib.hid ⟨H6.out.1.under b6, H6.out.2.1.under b6, H6.out.2.2.under b6, Row.new _ _ _⟩
            clear b6 H6 hg
            go_upto_region 12 with fail
            refine forget (fun Y => Hid (G3 w Y1 n (fun k => lin Q k.1 k.2) b gi gk cs D f (fun z => left z && !z.sameKey (Ow.nk (x1, (jc : Int)))) cnt2 u7 (F0 ++ ff Q S P (x1, (jc : Int)) j) Y ∧ Row Y go 132 #[.string x1, .int .i64 (jc : Int)] ∧ Mr gB (lin Q x1 (jc : Int)).length (fun j => decide (0 < S (jc : Int)) && rj (S (jc : Int)) (lin Q x1 (jc : Int)) j) Y ∧ Row Y wr.heap.size 137 #[.int .i64 (pa (lin Q x1 (jc : Int)) j).v, .int .i64 (pa (lin Q x1 (jc : Int)) j).t, .int .i64 ((pa (lin Q x1 (jc : Int)) j).i : Int)])) H7 ?_
            clear H7 d0 d1 d2
            generalize wr.heap.size = gp at *
            rintro Y7 H7
            have m0 := H7.out.2.2.1.cell hlj
            obtain ⟨z1, hz1⟩ : ∃ z, (decide (0 < S (jc : Int)) && rj (S (jc : Int)) (lin Q x1 (jc : Int)) j) = z := ⟨_, rfl⟩
            rw [hz1] at m0
            cases z1 with
            | true =>
              have HRJ : rjt (S (x1, (jc : Int)).2) (P (x1, (jc : Int)).2) (lin Q (x1, (jc : Int)).1 (x1, (jc : Int)).2) j = true := by unfold rjt; dsimp only; rw [hz1]; rfl
              clear hz1
              go_upto_region 13 with fail
              clear m0
              have HRy : Hid (rjt (S (x1, (jc : Int)).2) (P (x1, (jc : Int)).2) (lin Q (x1, (jc : Int)).1 (x1, (jc : Int)).2) j = true) := Lib.hid HRJ
              have HFy := Lib.hid (ff_yes (Q := Q) (S := S) (P := P) HRy.out)
              clear HRJ HRy
              obtain ⟨p0, p1, p2⟩ := row3 H7.out.2.2.2
              obtain ⟨o0, o1⟩ := row2 H7.out.2.1
              have b9 := (Below.refl Y7.heap.size Y7).alloc (Nat.le_refl _) (.cells #[.int .i64 ((pa (lin Q x1 (jc : Int)) j).i : Int), .int .i64 (jc : Int), .int .i64 4] 77)
              have HA : Hid ((G3 w Y1 n (fun k => lin Q k.1 k.2) b gi gk cs D f (fun z => left z && !z.sameKey (Ow.nk (x1, (jc : Int)))) cnt2 u7 (F0 ++ ff Q S P (x1, (jc : Int)) j) (Y7.alloc (.cells #[.int .i64 ((pa (lin Q x1 (jc : Int)) j).i : Int), .int .i64 (jc : Int), .int .i64 4] 77)) ∧ Row (Y7.alloc (.cells #[.int .i64 ((pa (lin Q x1 (jc : Int)) j).i : Int), .int .i64 (jc : Int), .int .i64 4] 77)) go 132 #[.string x1, .int .i64 (jc : Int)] ∧ Mr gB (lin Q x1 (jc : Int)).length (fun j => decide (0 < S (jc : Int)) && rj (S (jc : Int)) (lin Q x1 (jc : Int)) j) (Y7.alloc (.cells #[.int .i64 ((pa (lin Q x1 (jc : Int)) j).i : Int), .int .i64 (jc : Int), .int .i64 4] 77))) ∧ Row (Y7.alloc (.cells #[.int .i64 ((pa (lin Q x1 (jc : Int)) j).i : Int), .int .i64 (jc : Int), .int .i64 4] 77)) Y7.heap.size 77 #[.int .i64 ((pa (lin Q x1 (jc : Int)) j).i : Int), .int .i64 (jc : Int), .int .i64 4]) := Lib.hid ⟨⟨H7.out.1.under b9, H7.out.2.1.under b9, H7.out.2.2.1.under b9⟩, Row.new _ _ _⟩
              have hit := HA.out.1.1.it
              have HPj := HPl.out j (by omega)
              clear b9 H7
              obtain ⟨F, hF⟩ : ∃ F, F0 ++ ff Q S P (x1, (jc : Int)) j = F := ⟨_, rfl⟩
              have HFF := Lib.hid hF
              rw [hF] at HA HPj
              clear hF
              generalize hfl : F.length = fl at *
              have HFL := Lib.hid hfl
              clear hfl
              go_wp2_with (at_builtin; go_loud (refine wpList_append_own' rfl (.tmp 55) (.tmp 61) 70 rfl (gi + 1) 77 i0 (.agg #[.int .i64 0, .int .i64 0, .int .i64 0]) 3 24 Tryd.underlying70 hi hz0 hz1 hz2 rfl (by decide) u7 F.length (rc flE F) rfl HA.out.1.1.fl ⟨Y7.heap.size, 0, none⟩ 1 1 (flE ((pa (lin Q x1 (jc : Int)) j).i, (jc : Int))) rfl rfl (fun q v hv => by rw [Addr.add_lit, Nat.zero_add, HA.out.2.cell, ← hv]; simp [flE]) (fun v hv => by simp [flE] at hv; rcases hv with rfl | rfl | rfl <;> rfl) (by rw [HFL.out]; unfold maxLen; omega) (by rw [HFL.out]; omega) hit ?_); intro v9 w9 ho9 hg9; have HW9 := Lib.hid (And.intro ho9 hg9); clear ho9 hg9)
              have HN9 : Hid (G3 w Y1 n (fun k => lin Q k.1 k.2) b gi gk cs D f (fun z => left z && !z.sameKey (Ow.nk (x1, (jc : Int)))) cnt2 v9 (F0 ++ ff Q S P (x1, (jc : Int)) (j + 1)) w9 ∧ Row w9 go 132 #[.string x1, .int .i64 (jc : Int)] ∧ Mr gB (lin Q x1 (jc : Int)).length (fun j => decide (0 < S (jc : Int)) && rj (S (jc : Int)) (lin Q x1 (jc : Int)) j) w9) := Lib.hid ⟨(HA.out.1.1.app HWG.out HFI.out HW9.out.2 HW9.out.1).to (by rw [HFy.out, ← List.append_assoc, HFF.out]), HA.out.1.2.1.grown HW9.out.2 (fun e => row_not HA.out.1.1.fl HA.out.1.2.1 (by decide) e.symm), HA.out.1.2.2.fl HA.out.1.1.fl HW9.out.2⟩
              clear HA HW9
              exact ⟨⟨j + 1, by omega, by go_num, HN9⟩, by simp [intOf]; omega⟩
            | false =>
              have HF0j : Hid (rjt (S (x1, (jc : Int)).2) (P (x1, (jc : Int)).2) (lin Q (x1, (jc : Int)).1 (x1, (jc : Int)).2) j = spk (P (jc : Int)) (lin Q x1 (jc : Int)) j) := Lib.hid (by unfold rjt; dsimp only; rw [hz1]; rfl)
              clear hz1
              have c13 := (H7.out.1.ct.cell (13 + jc)).trans (HK.out.p jc hjc)
              obtain ⟨o0, o1⟩ := row2 H7.out.2.1
              have HSj := Lib.hid (HSp.out j hlj Y7 (HIn.out _ _ _ H7.out.1))
              go_wp2_with fail
              refine HSj.out.mono ?_
              rintro e Y8 ⟨rfl, g8⟩
              have H8 : Hid (G3 w Y1 n (fun k => lin Q k.1 k.2) b gi gk cs D f (fun z => left z && !z.sameKey (Ow.nk (x1, (jc : Int)))) cnt2 u7 (F0 ++ ff Q S P (x1, (jc : Int)) j) Y8 ∧ Row Y8 go 132 #[.string x1, .int .i64 (jc : Int)] ∧ Mr gB (lin Q x1 (jc : Int)).length (fun j => decide (0 < S (jc : Int)) && rj (S (jc : Int)) (lin Q x1 (jc : Int)) j) Y8 ∧ Row Y8 gp 137 #[.int .i64 (pa (lin Q x1 (jc : Int)) j).v, .int .i64 (pa (lin Q x1 (jc : Int)) j).t, .int .i64 ((pa (lin Q x1 (jc : Int)) j).i : Int)]) := Lib.hid ⟨H7.out.1.under g8, H7.out.2.1.under g8, H7.out.2.2.1.under g8, H7.out.2.2.2.under g8⟩
              clear g8 H7 HSj m0 c13 o0 o1
              obtain ⟨z2, hz2⟩ : ∃ z, spk (P (jc : Int)) (lin Q x1 (jc : Int)) j = z := ⟨_, rfl⟩
              rw [hz2] at HF0j ⊢
              clear hz2
              cases z2 with
              | true =>
                have HRJ := HF0j.out
                clear HF0j
                go_upto_region 13 with fail
                have HRy : Hid (rjt (S (x1, (jc : Int)).2) (P (x1, (jc : Int)).2) (lin Q (x1, (jc : Int)).1 (x1, (jc : Int)).2) j = true) := Lib.hid HRJ
                have HFy := Lib.hid (ff_yes (Q := Q) (S := S) (P := P) HRy.out)
                clear HRJ HRy
                obtain ⟨p0, p1, p2⟩ := row3 H8.out.2.2.2
                obtain ⟨o0, o1⟩ := row2 H8.out.2.1
                have b9 := (Below.refl Y8.heap.size Y8).alloc (Nat.le_refl _) (.cells #[.int .i64 ((pa (lin Q x1 (jc : Int)) j).i : Int), .int .i64 (jc : Int), .int .i64 4] 77)
                have HA : Hid ((G3 w Y1 n (fun k => lin Q k.1 k.2) b gi gk cs D f (fun z => left z && !z.sameKey (Ow.nk (x1, (jc : Int)))) cnt2 u7 (F0 ++ ff Q S P (x1, (jc : Int)) j) (Y8.alloc (.cells #[.int .i64 ((pa (lin Q x1 (jc : Int)) j).i : Int), .int .i64 (jc : Int), .int .i64 4] 77)) ∧ Row (Y8.alloc (.cells #[.int .i64 ((pa (lin Q x1 (jc : Int)) j).i : Int), .int .i64 (jc : Int), .int .i64 4] 77)) go 132 #[.string x1, .int .i64 (jc : Int)] ∧ Mr gB (lin Q x1 (jc : Int)).length (fun j => decide (0 < S (jc : Int)) && rj (S (jc : Int)) (lin Q x1 (jc : Int)) j) (Y8.alloc (.cells #[.int .i64 ((pa (lin Q x1 (jc : Int)) j).i : Int), .int .i64 (jc : Int), .int .i64 4] 77))) ∧ Row (Y8.alloc (.cells #[.int .i64 ((pa (lin Q x1 (jc : Int)) j).i : Int), .int .i64 (jc : Int), .int .i64 4] 77)) Y8.heap.size 77 #[.int .i64 ((pa (lin Q x1 (jc : Int)) j).i : Int), .int .i64 (jc : Int), .int .i64 4]) := Lib.hid ⟨⟨H8.out.1.under b9, H8.out.2.1.under b9, H8.out.2.2.1.under b9⟩, Row.new _ _ _⟩
                have hit := HA.out.1.1.it
                have HPj := HPl.out j (by omega)
                clear b9 H8
                obtain ⟨F, hF⟩ : ∃ F, F0 ++ ff Q S P (x1, (jc : Int)) j = F := ⟨_, rfl⟩
                have HFF := Lib.hid hF
                rw [hF] at HA HPj
                clear hF
                generalize hfl : F.length = fl at *
                have HFL := Lib.hid hfl
                clear hfl
                go_wp2_with (at_builtin; go_loud (refine wpList_append_own' rfl (.tmp 55) (.tmp 61) 70 rfl (gi + 1) 77 i0 (.agg #[.int .i64 0, .int .i64 0, .int .i64 0]) 3 24 Tryd.underlying70 hi hz0 hz1 hz2 rfl (by decide) u7 F.length (rc flE F) rfl HA.out.1.1.fl ⟨Y8.heap.size, 0, none⟩ 1 1 (flE ((pa (lin Q x1 (jc : Int)) j).i, (jc : Int))) rfl rfl (fun q v hv => by rw [Addr.add_lit, Nat.zero_add, HA.out.2.cell, ← hv]; simp [flE]) (fun v hv => by simp [flE] at hv; rcases hv with rfl | rfl | rfl <;> rfl) (by rw [HFL.out]; unfold maxLen; omega) (by rw [HFL.out]; omega) hit ?_); intro v9 w9 ho9 hg9; have HW9 := Lib.hid (And.intro ho9 hg9); clear ho9 hg9)
                have HN9 : Hid (G3 w Y1 n (fun k => lin Q k.1 k.2) b gi gk cs D f (fun z => left z && !z.sameKey (Ow.nk (x1, (jc : Int)))) cnt2 v9 (F0 ++ ff Q S P (x1, (jc : Int)) (j + 1)) w9 ∧ Row w9 go 132 #[.string x1, .int .i64 (jc : Int)] ∧ Mr gB (lin Q x1 (jc : Int)).length (fun j => decide (0 < S (jc : Int)) && rj (S (jc : Int)) (lin Q x1 (jc : Int)) j) w9) := Lib.hid ⟨(HA.out.1.1.app HWG.out HFI.out HW9.out.2 HW9.out.1).to (by rw [HFy.out, ← List.append_assoc, HFF.out]), HA.out.1.2.1.grown HW9.out.2 (fun e => row_not HA.out.1.1.fl HA.out.1.2.1 (by decide) e.symm), HA.out.1.2.2.fl HA.out.1.1.fl HW9.out.2⟩
                clear HA HW9
                exact ⟨⟨j + 1, by omega, by go_num, HN9⟩, by simp [intOf]; omega⟩
              | false =>
                have HFn := Lib.hid (ff_no (Q := Q) (S := S) (P := P) (key := (x1, (jc : Int))) HF0j.out)
                have HN9 : Hid (G3 w Y1 n (fun k => lin Q k.1 k.2) b gi gk cs D f (fun z => left z && !z.sameKey (Ow.nk (x1, (jc : Int)))) cnt2 u7 (F0 ++ ff Q S P (x1, (jc : Int)) (j + 1)) Y8 ∧ Row Y8 go 132 #[.string x1, .int .i64 (jc : Int)] ∧ Mr gB (lin Q x1 (jc : Int)).length (fun j => decide (0 < S (jc : Int)) && rj (S (jc : Int)) (lin Q x1 (jc : Int)) j) Y8) := Lib.hid ⟨H8.out.1.to (by rw [HFn.out]), H8.out.2.1, H8.out.2.2.1⟩
                clear H8 HF0j
                go_wp2_with fail
                exact ⟨⟨j + 1, by omega, by go_num, HN9⟩, by simp [intOf]; omega⟩
          · obtain rfl : j = (lin Q x1 (jc : Int)).length := by omega
            have k1 : ¬ ((lin Q x1 (jc : Int)).length : Int) < ((lin Q x1 (jc : Int)).length : Int) := by omega
            have HN10 : Hid (G3 w Y1 n (fun k => lin Q k.1 k.2) b gi gk cs D f (fun z => left z && !z.sameKey (Ow.nk (x1, (jc : Int)))) cnt2 u7 ((Ks ++ [(x1, (jc : Int))]).flatMap (ffA Q S P)) wr ∧ Kd f (fun z => left z && !z.sameKey (Ow.nk (x1, (jc : Int)))) (Ks ++ [(x1, (jc : Int))])) := Lib.hid ⟨H6.out.1.to (by rw [List.flatMap_append, HF0.out]; simp [ffA]), HK2.out⟩
            clear H6
            go_wp2_with fail
            exact ⟨⟨_, _, _, HN10⟩, by rw [HN10.out.1.rng.left_eq, HRO.out.left_eq]; exact HLT.out⟩
  · have kz : (erT Q S P != 0) = true := bne_iff_ne.2 her
    have HF : Hid (∀ u, u = Value.tuple #[.slice none 0 0, .int .i64 (erT Q S P)] → CkO Q S P w (.returned u) Y1) := Lib.hid (fun u hu => ⟨_, by rw [hu], HY1.out.1, fun _ => rfl, fun h => absurd h her⟩)
    generalize erT Q S P = er at *
    go_wp2_with fail
    go_ret2
    exact HF.out _ rfl
end Go.Proofs.YtlakgkoohdfiaaaDoor.Tm
