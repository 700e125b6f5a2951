/- The contract of the reference's around. -/
import Derived.Test.YtejoabaanclcbaaGreatQap
import Derived.ArgAppend
import Derived.Deep.Upon
import Derived.Deep.AppendSrc
import Derived.Deep.RegionLawGrows
import Derived.BigQuiet
namespace Go.Proofs.YtejoabaanclcbaaGreat
open Go.RowKit Go.Maps Go.Shelf

/-- Nothing is appended, at a step of a drawn region. -/
theorem step_append_nothing {P : Program} {ops : Array Oper} {o : Oper} {a : Act} {w : World} {K : Act → World → Prop} {Q : Exit → Act → World → Prop} {E : Prop} (hg : o.guard = none) (s x : Operand) (t : TypeId)
    (ho : o.op = .call { callee := .builtin .append, args := #[s, x], argTypes := #[t, t] }) (e : TypeId) (i : TypeInfo) (ht : P.underlying t = some (.slice e)) (hi : P.info? e = some i)
    (base : Option Addr) (n c : Nat) (hle : n ≤ c) (hs : a.eval s = .slice base n c) (v : Value) (hx : a.eval x = v) (src : Go.Src P i.size t v 0 [] w)
    (d : Tmp) (hd : o.dst = some d) (hK : K (a.put (some d) (.slice base n c)) w) : if Region.wanted o (yielded ops a.tmps) = true then Oper.wp P o a w K Q else E := by
  have hw : Region.wanted o (yielded ops a.tmps) = true := by simp [Region.wanted, hg]
  rw [if_pos hw]
  have hrun := run_append_nothing (P := P) w t t o.type e i ht hi base n c hle v src
  unfold Oper.wp
  simp [execOp, ho, resolve, invoke, builtin, hs, hx, hrun, Result.andThen]
  rw [← hd] at hK
  exact hK
theorem zc_cut {w : World} {b k : Nat} {l : List Nat} (h : Cs w b l) : ∀ j u, (zc (l.drop k))[j]? = some u → w.cell? ⟨b, k + j, none⟩ = some u := by
  intro j u hu
  have hj := (List.getElem?_eq_some_iff.1 hu).1
  rw [zc_len, List.length_drop] at hj
  rw [zc_at _ j (by rw [List.length_drop]; exact hj)] at hu
  rw [h.at_ (k + j) (by omega), ← hu]
  congr 2
  simp
theorem zc_beg {w : World} {b k : Nat} {l : List Nat} (h : Cs w b l) : ∀ j u, (zc (l.take k))[j]? = some u → w.cell? ⟨b, j, none⟩ = some u := by
  intro j u hu
  have hj := (List.getElem?_eq_some_iff.1 hu).1
  rw [zc_len, List.length_take] at hj
  rw [zc_at _ j (by rw [List.length_take]; exact hj)] at hu
  rw [h.at_ j (by omega), ← hu]
  congr 2
  simp
theorem zc_all {w : World} {b : Nat} {l : List Nat} (h : Cs w b l) : ∀ j u, (zc l)[j]? = some u → w.cell? ⟨b, j, none⟩ = some u := by
  have := zc_beg (k := l.length) h
  rwa [List.take_length] at this
theorem zc_app (l m : List Nat) : zc (l ++ m) = zc l ++ zc m := by simp [zc]
set_option maxRecDepth 100000 in
set_option maxHeartbeats 8000000 in
theorem around_any : Arn := by
  intro n w hn
  have hc := cn_le hn
  have hmk := run_make_row' (P := Tryz.prog) 78 23 (.slice none 0 0) 24 Tryz.underlying78 infoList rfl .i64 .i64 (cn n) (by omega) (by omega)
  obtain ⟨ti0, hi, hz0, hz1, hz2⟩ := info_parts infoInt0
  have HN := Lib.hid hn; clear hn
  go_enter Tryz.func64, Tryz.ntmps64
  go_wp2_with fail
  refine (refCells_yes _ _ HN.out).mono ?_
  rintro e wl ⟨vl, L, rfl, hbl, hL, hown⟩
  have hsz : ∀ g, vl.ownBlock = some g → g < wl.heap.size := fun g hg => (hown.lt g hg).2
  have hlen : L.length ≤ 1280 := by
    rw [Lat.cels_len hL, Lat.cls_len]
    have h8 := HN.out.2
    exact Nat.mul_le_mul (Nat.le_refl 20) (Nat.mul_le_mul h8 h8)
  obtain ⟨A, capL, rfl, g1, g2, g3⟩ := tr_form hown
  have HT : Hid (∀ i (hi : i < L.length), ∃ g, A = some ⟨g, 0, none⟩ ∧ g < wl.heap.size ∧ wl.cell? ⟨g, i * 3, none⟩ = some (.int .i64 ((L[i]).1 : Int)) ∧ wl.cell? ⟨g, i * 3 + 1, none⟩ = some (.int .i64 ((L[i]).2.1 : Int)) ∧ wl.cell? ⟨g, i * 3 + 2, none⟩ = some (.int .i64 ((L[i]).2.2 : Int))) := Lib.hid (fun i hi => by
    obtain ⟨g, e, q⟩ := g3 i hi
    exact ⟨g, e, hsz g (by rw [e]; rfl), q⟩)
  have HB := Lib.hid hbl
  have HL := Lib.hid hL
  clear g3 hsz hbl hL hown
  go_upto_region 3 with (go_at_call 49; refine (refCount_yes _ _ HN.out).mono ?_; rintro e w1 ⟨rfl, rfl⟩)
  refine forget (fun Y => Ar wl n wl.heap.size ((L.take 0).flatMap Lat.prq) Y) (Ar.start wl n) ?_
  clear hmk
  generalize hg : wl.heap.size = go at *
  have HG := Lib.hid hg; clear hg
  rintro Y hY
  have M0 := Lib.hid hY; clear hY
  go_wp2_with fail
  go_loopw [22] (fun t wr => ∃ j : Nat, j ≤ L.length ∧ t = .int .i64 j ∧ Ar wl n go ((L.take j).flatMap Lat.prq) wr) (fun t _ => L.length - (intOf t).toNat)
  case atStart => exact ⟨0, by omega, rfl, M0.out⟩
  case round =>
    clear M0
    obtain ⟨j, hj, rfl, M⟩ := hrel
    by_cases hlt : j < L.length
    · have j0 : (0 : Int) ≤ (j : Int) := by omega
      have j1 : (j : Int) < (L.length : Int) := by omega
      obtain ⟨gL, rfl, hgl, c0', c1', c2'⟩ := HT.out j hlt
      have hgl' : gL < wl.heap.size := by rw [HG.out]; exact hgl
      have c0 := (M.below.cell (p := ⟨gL, j * 3, none⟩) hgl').trans c0'
      have c1 := (M.below.cell (p := ⟨gL, j * 3 + 1, none⟩) hgl').trans c1'
      have c2 := (M.below.cell (p := ⟨gL, j * 3 + 2, none⟩) hgl').trans c2'
      clear c0' c1' c2' hgl' hgl
      have HLT := Lib.hid (Lat.cels_lt HN.out HL.out (List.getElem_mem hlt))
      have HNX := Lib.hid (flat_take_succ hlt)
      generalize (L.take j).flatMap Lat.prq = P at *
      generalize L[j] = t at *
      obtain ⟨x, y, z⟩ := t
      simp only at c0 c1 c2
      have HM := Lib.hid M; clear M
      go_upto_region 7 with fail
      refine forget (fun V => Ar wl n go (P ++ (Lat.prq (x, y, z)).take 0) V ∧ Row V (wr.heap.size + 1) 127 #[.int .i64 (x : Int), .int .i64 (y : Int), .int .i64 (x : Int), .int .i64 (z : Int), .int .i64 (y : Int), .int .i64 (z : Int), .int .i64 (y : Int), .int .i64 (x : Int), .int .i64 (z : Int), .int .i64 (x : Int), .int .i64 (z : Int), .int .i64 (y : Int)] ∧ wr.heap.size + 1 ≠ go) ⟨by simpa using (HM.out.under ((Below.refl _ _).alloc (Nat.le_refl _) _)).under ((Below.refl _ _).alloc (Nat.le_refl _) _), Row.newAt (by simp), by have := HM.out.lt; omega⟩ ?_
      clear HM c0 c1 c2
      generalize wr.heap.size + 1 = gs at *
      rintro V ⟨M, r, hsg⟩
      have HSG := Lib.hid hsg; clear hsg
      have HM := Lib.hid (And.intro M r); clear M r
      go_wp2_with fail
      go_loopw [58] (fun t wr => ∃ i : Nat, i ≤ 6 ∧ t = .int .i64 i ∧ Ar wl n go (P ++ (Lat.prq (x, y, z)).take i) wr ∧ Row wr gs 127 #[.int .i64 (x : Int), .int .i64 (y : Int), .int .i64 (x : Int), .int .i64 (z : Int), .int .i64 (y : Int), .int .i64 (z : Int), .int .i64 (y : Int), .int .i64 (x : Int), .int .i64 (z : Int), .int .i64 (x : Int), .int .i64 (z : Int), .int .i64 (y : Int)]) (fun t _ => 6 - (intOf t).toNat)
      case atStart => exact ⟨0, by omega, rfl, HM.out.1, HM.out.2⟩
      case round =>
        clear HM
        obtain ⟨i, hi6, rfl, M, r⟩ := hrel
        by_cases hlt6 : i < 6
        · have i0 : (0 : Int) ≤ (i : Int) := by omega
          have i1 : (i : Int) < 6 := by omega
          obtain ⟨a, b, d0, d1, htk, hax, hbx⟩ := prq_cells r hlt6
          have HA : Hid (a < cn n) := Lib.hid (by have := HLT.out; unfold cn; omega)
          have HBN : Hid (b < cn n) := Lib.hid (by have := HLT.out; unfold cn; omega)
          clear hax hbx
          have HPR : Hid (P ++ (Lat.prq (x, y, z)).take (i + 1) = (P ++ (Lat.prq (x, y, z)).take i) ++ [(a, b)]) := Lib.hid (by rw [htk, List.append_assoc])
          clear htk
          generalize P ++ (Lat.prq (x, y, z)).take i = Q at *
          have HR := Lib.hid r; clear r
          have HM := Lib.hid M; clear M
          go_upto_region 9 with fail
          obtain ⟨v, l, e1, e2, e3, e4⟩ := (HM.out.under ((Below.refl _ _).alloc (Nat.le_refl _) (.cells #[.int .i64 (a : Int), .int .i64 (b : Int)] 127))).at_ HA.out
          generalize hcs : (#[.int .i64 (x : Int), .int .i64 (y : Int), .int .i64 (x : Int), .int .i64 (z : Int), .int .i64 (y : Int), .int .i64 (z : Int), .int .i64 (y : Int), .int .i64 (x : Int), .int .i64 (z : Int), .int .i64 (x : Int), .int .i64 (z : Int), .int .i64 (y : Int)] : Array Value) = cs at *
          have HCS := Lib.hid hcs; clear hcs
          refine forget (fun V => Ai wl n go gs wr.heap.size a b cs Q v l V) ⟨HM.out.under ((Below.refl _ _).alloc (Nat.le_refl _) _), HR.out.alloc _, HSG.out, Row.new _ _ _, by have := HM.out.lt; omega, e1, e2, e3, e4⟩ ?_
          clear HM HR d0 d1 e1 e2 e3 e4
          generalize wr.heap.size = gp at *
          rintro V M
          obtain ⟨A, cap, rfl⟩ := M.form
          have HLL := Lib.hid (Nat.le_trans (M.ar.len M.nb) hc)
          have HM := Lib.hid M; clear M
          go_wp2_with fail
          go_loopw [10] (fun t wr => ∃ k : Nat, k ≤ l.length ∧ t = .int .i64 k ∧ (∀ i (h : i < l.length), i < k → l[i] < b) ∧ Ai wl n go gs gp a b cs Q (.slice A l.length cap) l wr) (fun t _ => l.length - (intOf t).toNat)
          case atStart => exact ⟨0, by omega, rfl, fun i h hi => by omega, HM.out⟩
          case round =>
            clear HM
            obtain ⟨k, hk, rfl, hbel, M⟩ := hrel
            have HBEL := Lib.hid hbel; clear hbel
            have k0 : (0 : Int) ≤ (k : Int) := by omega
            have a0 : (0 : Int) ≤ (a : Int) := by omega
            have a1 : (a : Int) < (cn n : Int) := by have := HA.out; omega
            have HK := Lib.hid hk; clear hk
            obtain ⟨bb, hbb⟩ : ∃ bb : Bool, bb = true ↔ ∃ h : k < l.length, l[k] < b := by
              rcases Classical.em (∃ h : k < l.length, l[k] < b) with h | h
              · exact ⟨true, fun _ => h, fun _ => rfl⟩
              · exact ⟨false, fun e => (nomatch e), fun h' => absurd h' h⟩
            have HBB := Lib.hid hbb; clear hbb
            obtain ⟨q0, q1, p0⟩ := M.S
            have HM := Lib.hid M; clear M
            go_upto_region 10 with fail
            go_cut [82] from 62 to 82 (fun u wc => u = .bool bb ∧ Ai wl n go gs gp a b cs Q (.slice A l.length cap) l wc)
            case first =>
              by_cases hkl : k < l.length
              · rcases HM.out.nm with ⟨h0, -⟩ | ⟨b', cap', e1, -, -, -, -, h6⟩
                · subst h0; exact absurd hkl (Nat.not_lt_zero _)
                · injection e1 with e1 _ e3
                  subst e1
                  clear e3
                  have p1 := h6.at_ k hkl
                  have HX : Hid (bb = true ↔ l[k] < b) := Lib.hid (by rw [HBB.out]; exact ⟨fun ⟨_, h⟩ => h, fun h => ⟨hkl, h⟩⟩)
                  clear h6
                  generalize l[k] = yv at *
                  have k1 : (k : Int) < (l.length : Int) := by omega
                  have d0 : decide ((k : Int) < (l.length : Int)) = true := decide_eq_true k1
                  have d0n : decide (k < l.length) = true := decide_eq_true hkl
                  by_cases hyb : yv < b
                  · obtain rfl : bb = true := HX.out.2 hyb
                    have y1 : decide ((yv : Int) < (b : Int)) = true := decide_eq_true (by omega)
                    have y2 : decide (yv < b) = true := decide_eq_true hyb
                    clear hyb HX
                    go_quiet (fail)
                    go_wp2_with fail
                    go_meet
                    exact ⟨rfl, HM.out.under (bel_drewN _ _) HA.out⟩
                  · obtain rfl : bb = false := by
                      cases bb
                      · rfl
                      · exact absurd (HX.out.1 rfl) hyb
                    have y1 : decide ((yv : Int) < (b : Int)) = false := decide_eq_false (by omega)
                    have y2 : decide (yv < b) = false := decide_eq_false hyb
                    clear hyb HX
                    go_quiet (fail)
                    go_wp2_with fail
                    go_meet
                    exact ⟨rfl, HM.out.under (bel_drewN _ _) HA.out⟩
              · obtain rfl : bb = false := by
                  cases bb
                  · rfl
                  · exact absurd (HBB.out.1 rfl).1 hkl
                have d0 : decide ((k : Int) < (l.length : Int)) = false := decide_eq_false (by omega)
                have d0n : decide (k < l.length) = false := decide_eq_false hkl
                have d0p : ¬ (k < l.length) := hkl
                clear hkl
                go_quiet (fail)
                go_wp2_with fail
                go_meet
                exact ⟨rfl, HM.out.under (bel_drewN _ _) HA.out⟩
            case rest =>
              obtain ⟨rfl, M⟩ := hcut
              clear HM q0 q1 p0
              cases bb
              · obtain ⟨b2, hb2⟩ : ∃ b2 : Bool, b2 = true ↔ ∃ h : k < l.length, l[k] = b := by
                  rcases Classical.em (∃ h : k < l.length, l[k] = b) with h | h
                  · exact ⟨true, fun _ => h, fun _ => rfl⟩
                  · exact ⟨false, fun e => (nomatch e), fun h' => absurd h' h⟩
                have HB2 := Lib.hid hb2; clear hb2
                obtain ⟨q0, q1, p0⟩ := M.S
                have HM := Lib.hid M; clear M
                go_upto_region 12 with fail
                go_cut [105] from 85 to 105 (fun u wc => u = .bool b2 ∧ Ai wl n go gs gp a b cs Q (.slice A l.length cap) l wc)
                case first =>
                  by_cases hkl : k < l.length
                  · rcases HM.out.nm with ⟨h0, -⟩ | ⟨b', cap', e1, -, -, -, -, h6⟩
                    · subst h0; exact absurd hkl (Nat.not_lt_zero _)
                    · injection e1 with e1 _ e3
                      subst e1
                      clear e3
                      have p1 := h6.at_ k hkl
                      have HX : Hid (b2 = true ↔ l[k] = b) := Lib.hid (by rw [HB2.out]; exact ⟨fun ⟨_, h⟩ => h, fun h => ⟨hkl, h⟩⟩)
                      clear h6
                      generalize l[k] = yv at *
                      have k1 : (k : Int) < (l.length : Int) := by omega
                      have d0 : decide ((k : Int) < (l.length : Int)) = true := decide_eq_true k1
                      have d0n : decide (k < l.length) = true := decide_eq_true hkl
                      by_cases hyb : yv = b
                      · obtain rfl : b2 = true := HX.out.2 hyb
                        subst hyb
                        clear HX
                        go_quiet (fail)
                        go_wp2_with fail
                        go_meet
                        exact ⟨rfl, HM.out.under (bel_drewN _ _) HA.out⟩
                      · obtain rfl : b2 = false := by
                          cases b2
                          · rfl
                          · exact absurd (HX.out.1 rfl) hyb
                        have y1 : decide ((yv : Int) = (b : Int)) = false := decide_eq_false (by omega)
                        have y2 : decide (yv = b) = false := decide_eq_false hyb
                        have y3 : ((yv : Int) == (b : Int)) = false := beq_eq_false_iff_ne.2 (by omega)
                        have y4 : ¬ (yv = b) := hyb
                        clear HX
                        go_quiet (fail)
                        go_wp2_with fail
                        go_meet
                        exact ⟨rfl, HM.out.under (bel_drewN _ _) HA.out⟩
                  · obtain rfl : b2 = false := by
                      cases b2
                      · rfl
                      · exact absurd (HB2.out.1 rfl).1 hkl
                    have d0 : decide ((k : Int) < (l.length : Int)) = false := decide_eq_false (by omega)
                    have d0n : decide (k < l.length) = false := decide_eq_false hkl
                    have d0p : ¬ (k < l.length) := hkl
                    clear hkl
                    go_quiet (fail)
                    go_wp2_with fail
                    go_meet
                    exact ⟨rfl, HM.out.under (bel_drewN _ _) HA.out⟩
                case rest =>
                  obtain ⟨rfl, M⟩ := hcut
                  clear HM q0 q1 p0
                  cases b2
                  · have HGT : Hid (∀ h : k < l.length, b < l[k]) := Lib.hid (fun h => by
                      have h1 : ¬ l[k] < b := fun h' => nomatch (HBB.out.2 ⟨h, h'⟩)
                      have h2 : ¬ l[k] = b := fun h' => nomatch (HB2.out.2 ⟨h, h'⟩)
                      omega)
                    clear HBB HB2
                    have HM := Lib.hid M; clear M
                    go_upto_region 13 with fail
                    go_cut [11] from 106 to 116 (fun u wc => (∃ gr cr, u = .slice (some ⟨gr, 0, none⟩) (1 + (l.length - k)) cr ∧ Cs wc gr (b :: l.drop k)) ∧ Ai wl n go gs gp a b cs Q (.slice A l.length cap) l wc)
                    case first =>
                      refine wp_region_held_drew (S := fun w' : World => w'.cell? ⟨gp, 0, none⟩ = some (.int .i64 (a : Int)) ∧ w'.cell? ⟨gp, 1, none⟩ = some (.int .i64 (b : Int)) ∧ w'.cell? ⟨go, a, none⟩ = some (.slice A l.length cap)) (by kernel_rfl) HM.out.S (fun hHeld => ?_)
                      have HC := Lib.hid (HM.out.under (bel_drew _) HA.out)
                      clear HM
                      generalize wc.drew = X5 at HC hHeld ⊢
                      have hkk : k ≤ l.length := HK.out
                      have hke : (k : Int) ≤ (l.length : Int) := by omega
                      rcases HC.out.nm with ⟨h0, e1⟩ | ⟨b', cap', e1, hp, hle, hmx, hbg, h6⟩
                      · subst h0
                        injection e1 with e1 _ e3
                        subst e1 e3
                        obtain rfl : k = 0 := by simpa using hkk
                        refine tk 0 rfl ?_
                        try go_frame
                        refine tk 1 rfl ?_
                        try go_frame
                        refine tk 3 rfl ?_
                        try go_frame
                        refine tk 4 rfl ?_
                        try go_frame
                        refine tk 5 rfl ?_
                        try go_frame
                        refine tk 6 rfl ?_
                        try go_frame
                        refine tk 7 rfl ?_
                        try go_frame
                        refine tk 8 rfl ?_
                        try go_frame
                        refine tk 9 rfl ?_
                        try go_frame
                        refine wpAnyH_ready (rs := [2]) (by kernel_rfl) (by simp) ?_
                        refine AllReadyH.cons (o := ⟨some 108, _, _, _, _, none⟩) rfl (fun Kx hK => ?_) AllReadyH.nil
                        go_simp
                        have HC2 := Lib.hid (HC.out.under ((Below.refl _ _).alloc (Nat.le_refl _) (.cells #[.int .i64 (b : Int)] 3)) HA.out)
                        have HNEW := Lib.hid (World.news_of_block (cs := #[.int .i64 (b : Int)]) (t := 3) (fr := (0, 0)) (heap_alloc_new X5 _))
                        clear hHeld
                        refine hK.out _ _ HC2.out.S (fun hHeld => ?_)
                        clear hK Kx
                        try go_frame
                        refine wpAnyH_ready (rs := [10]) (by kernel_rfl) (by simp) ?_
                        refine AllReadyH.cons (o := ⟨some 116, _, _, _, _, none⟩) rfl (fun Kx hK => ?_) AllReadyH.nil
                        refine step_append_nothing (by rfl) (.tmp 108) (.tmp 115) 23 (by rfl) 3 ti0 Tryz.underlying23 hi _ 1 1 (Nat.le_refl _) (by rfl) _ (by rfl) (Go.Src.ofNil _ Tryz.underlying23 0) 116 (by rfl) ?_
                        have HCS5 : Hid (Cs (X5.alloc (.cells #[.int .i64 (b : Int)] 3)) X5.heap.size [b]) := Lib.hid ⟨by simp, fun j hj => by
                          obtain rfl : j = 0 := by simpa using hj
                          exact HNEW.out 0 _ rfl⟩
                        clear hHeld
                        refine hK.out _ _ HC2.out.S (fun hHeld => ?_)
                        clear hK Kx HNEW HC
                        try go_frame
                        refine tk 11 (oi := ⟨some 11, _, _, _, _, none⟩) rfl ?_
                        try go_frame
                        refine wpAnyH_done (by kernel_rfl) ?_ _
                        go_wp2_with fail
                        go_meet
                        exact ⟨⟨X5.heap.size, 1, by simp, by simpa using HCS5.out⟩, HC2.out⟩
                      · injection e1 with e1 _ e3
                        subst e1 e3
                        by_cases hkl : k < l.length
                        · have k3 : ¬ (cap = k) := by omega
                          refine tk 0 rfl ?_
                          try go_frame
                          refine tk 1 rfl ?_
                          try go_frame
                          refine tk 3 rfl ?_
                          try go_frame
                          refine tk 4 rfl ?_
                          try go_frame
                          refine tk 5 rfl ?_
                          try go_frame
                          refine tk 6 rfl ?_
                          try go_frame
                          refine tk 7 rfl ?_
                          try go_frame
                          refine tk 8 rfl ?_
                          try go_frame
                          refine tk 9 rfl ?_
                          try go_frame
                          refine wpAnyH_ready (rs := [2]) (by kernel_rfl) (by simp) ?_
                          refine AllReadyH.cons (o := ⟨some 108, _, _, _, _, none⟩) rfl (fun Kx hK => ?_) AllReadyH.nil
                          go_simp
                          have HC2 := Lib.hid (HC.out.under ((Below.refl _ _).alloc (Nat.le_refl _) (.cells #[.int .i64 (b : Int)] 3)) HA.out)
                          have HNEW := Lib.hid (World.news_of_block (cs := #[.int .i64 (b : Int)]) (t := 3) (fr := (0, 0)) (heap_alloc_new X5 _))
                          clear hHeld
                          refine hK.out _ _ HC2.out.S (fun hHeld => ?_)
                          clear hK Kx
                          try go_frame
                          refine wpAnyH_ready (rs := [10]) (by kernel_rfl) (by simp) ?_
                          refine AllReadyH.cons (o := ⟨some 116, _, _, _, _, none⟩) rfl (fun Kx hK => ?_) AllReadyH.nil
                          refine step_append_grows (by rfl) (.tmp 108) (.tmp 115) 23 (by rfl) 3 ti0 _ 1 8 Tryz.underlying23 hi hz0 hz1 hz2 rfl (by decide) (some ⟨X5.heap.size, 0, none⟩) 1 1 (zc [b]) (by rfl) (fun h => by cases h) rfl (fun b2 h j u hu => by cases h; exact HNEW.out j u hu) ⟨b', k, none⟩ (l.length - k) (cap - k) (zc (l.drop k)) (by rfl) (by rw [zc_len, List.length_drop, Nat.mul_one]) (fun j u hu => by rw [Addr.add_lit, ((Below.refl X5.heap.size X5).alloc (Nat.le_refl _) _).cell (p := ⟨b', k + j, none⟩) h6.lt]; exact zc_cut h6 j u hu) (zc_one _) (by omega) (by have := HLL.out; unfold maxLen; omega) (by have := HLL.out; omega) ?_
                          intro v1 w1 hown1 hgr1
                          rw [← zc_app] at hown1
                          have HC3 := Lib.hid (HC2.out.under (below_new1 hgr1) HA.out)
                          obtain ⟨gr, cr, rfl, hcs⟩ : ∃ gr cr, v1 = .slice (some ⟨gr, 0, none⟩) (1 + (l.length - k)) cr ∧ Cs w1 gr (b :: l.drop k) := by
                            rcases nmj_own (x := 0) (l := b :: l.drop k) hown1 (by rw [List.length_cons, List.length_drop, Nat.add_comm]) (by simp) (by simp) with ⟨h, -⟩ | ⟨gr, cr, h1, -, -, -, -, h2⟩
                            · simp at h
                            · exact ⟨gr, cr, by rw [h1, List.length_cons, List.length_drop, Nat.add_comm], h2⟩
                          have HCS5 := Lib.hid hcs
                          clear hHeld hown1 hgr1 hcs
                          refine hK.out _ _ HC3.out.S (fun hHeld => ?_)
                          clear hK Kx HNEW HC HC2
                          try go_frame
                          refine tk 11 (oi := ⟨some 11, _, _, _, _, none⟩) rfl ?_
                          try go_frame
                          refine wpAnyH_done (by kernel_rfl) ?_ _
                          go_wp2_with fail
                          go_meet
                          exact ⟨⟨gr, cr, rfl, HCS5.out⟩, HC3.out⟩
                        · obtain rfl : k = l.length := by omega
                          by_cases k3 : cap = l.length
                          · subst k3
                            refine tk 0 rfl ?_
                            try go_frame
                            refine tk 1 rfl ?_
                            try go_frame
                            refine tk 3 rfl ?_
                            try go_frame
                            refine tk 4 rfl ?_
                            try go_frame
                            refine tk 5 rfl ?_
                            try go_frame
                            refine tk 6 rfl ?_
                            try go_frame
                            refine tk 7 rfl ?_
                            try go_frame
                            refine tk 8 rfl ?_
                            try go_frame
                            refine tk 9 rfl ?_
                            try go_frame
                            refine wpAnyH_ready (rs := [2]) (by kernel_rfl) (by simp) ?_
                            refine AllReadyH.cons (o := ⟨some 108, _, _, _, _, none⟩) rfl (fun Kx hK => ?_) AllReadyH.nil
                            go_simp
                            have HC2 := Lib.hid (HC.out.under ((Below.refl _ _).alloc (Nat.le_refl _) (.cells #[.int .i64 (b : Int)] 3)) HA.out)
                            have HNEW := Lib.hid (World.news_of_block (cs := #[.int .i64 (b : Int)]) (t := 3) (fr := (0, 0)) (heap_alloc_new X5 _))
                            clear hHeld
                            refine hK.out _ _ HC2.out.S (fun hHeld => ?_)
                            clear hK Kx
                            try go_frame
                            refine wpAnyH_ready (rs := [10]) (by kernel_rfl) (by simp) ?_
                            refine AllReadyH.cons (o := ⟨some 116, _, _, _, _, none⟩) rfl (fun Kx hK => ?_) AllReadyH.nil
                            refine step_append_nothing (by rfl) (.tmp 108) (.tmp 115) 23 (by rfl) 3 ti0 Tryz.underlying23 hi _ 1 1 (Nat.le_refl _) (by rfl) _ (by rfl) (Go.Src.ofSlice _ Tryz.underlying23 _ 0 _ [] (by simp) (fun j u h => by simp at h) (fun u h => by cases h)) 116 (by rfl) ?_
                            have HCS5 : Hid (Cs (X5.alloc (.cells #[.int .i64 (b : Int)] 3)) X5.heap.size [b]) := Lib.hid ⟨by simp, fun j hj => by
                              obtain rfl : j = 0 := by simpa using hj
                              exact HNEW.out 0 _ rfl⟩
                            clear hHeld
                            refine hK.out _ _ HC2.out.S (fun hHeld => ?_)
                            clear hK Kx HNEW HC
                            try go_frame
                            refine tk 11 (oi := ⟨some 11, _, _, _, _, none⟩) rfl ?_
                            try go_frame
                            refine wpAnyH_done (by kernel_rfl) ?_ _
                            go_wp2_with fail
                            go_meet
                            exact ⟨⟨X5.heap.size, 1, by simp, by simpa using HCS5.out⟩, HC2.out⟩
                          · skip
                            refine tk 0 rfl ?_
                            try go_frame
                            refine tk 1 rfl ?_
                            try go_frame
                            refine tk 3 rfl ?_
                            try go_frame
                            refine tk 4 rfl ?_
                            try go_frame
                            refine tk 5 rfl ?_
                            try go_frame
                            refine tk 6 rfl ?_
                            try go_frame
                            refine tk 7 rfl ?_
                            try go_frame
                            refine tk 8 rfl ?_
                            try go_frame
                            refine tk 9 rfl ?_
                            try go_frame
                            refine wpAnyH_ready (rs := [2]) (by kernel_rfl) (by simp) ?_
                            refine AllReadyH.cons (o := ⟨some 108, _, _, _, _, none⟩) rfl (fun Kx hK => ?_) AllReadyH.nil
                            go_simp
                            have HC2 := Lib.hid (HC.out.under ((Below.refl _ _).alloc (Nat.le_refl _) (.cells #[.int .i64 (b : Int)] 3)) HA.out)
                            have HNEW := Lib.hid (World.news_of_block (cs := #[.int .i64 (b : Int)]) (t := 3) (fr := (0, 0)) (heap_alloc_new X5 _))
                            clear hHeld
                            refine hK.out _ _ HC2.out.S (fun hHeld => ?_)
                            clear hK Kx
                            try go_frame
                            refine wpAnyH_ready (rs := [10]) (by kernel_rfl) (by simp) ?_
                            refine AllReadyH.cons (o := ⟨some 116, _, _, _, _, none⟩) rfl (fun Kx hK => ?_) AllReadyH.nil
                            refine step_append_nothing (by rfl) (.tmp 108) (.tmp 115) 23 (by rfl) 3 ti0 Tryz.underlying23 hi _ 1 1 (Nat.le_refl _) (by rfl) _ (by rfl) (Go.Src.ofSlice _ Tryz.underlying23 _ 0 _ [] (by simp) (fun j u h => by simp at h) (fun u h => by cases h)) 116 (by rfl) ?_
                            have HCS5 : Hid (Cs (X5.alloc (.cells #[.int .i64 (b : Int)] 3)) X5.heap.size [b]) := Lib.hid ⟨by simp, fun j hj => by
                              obtain rfl : j = 0 := by simpa using hj
                              exact HNEW.out 0 _ rfl⟩
                            clear hHeld
                            refine hK.out _ _ HC2.out.S (fun hHeld => ?_)
                            clear hK Kx HNEW HC
                            try go_frame
                            refine tk 11 (oi := ⟨some 11, _, _, _, _, none⟩) rfl ?_
                            try go_frame
                            refine wpAnyH_done (by kernel_rfl) ?_ _
                            go_wp2_with fail
                            go_meet
                            exact ⟨⟨X5.heap.size, 1, by simp, by simpa using HCS5.out⟩, HC2.out⟩
                    case rest =>
                      obtain ⟨⟨gr, cr, rfl, hcr⟩, M⟩ := hcut
                      clear HM
                      have HM := Lib.hid (And.intro M hcr); clear M hcr
                      have hkk : k ≤ l.length := HK.out
                      have hke : (k : Int) ≤ (l.length : Int) := by omega
                      go_upto_region 14 with fail
                      refine wp_region_held_drew (S := fun w' : World => w'.cell? ⟨gp, 0, none⟩ = some (.int .i64 (a : Int)) ∧ w'.cell? ⟨gp, 1, none⟩ = some (.int .i64 (b : Int))) (by kernel_rfl) ⟨HM.out.1.S.1, HM.out.1.S.2.1⟩ (fun hHeld => ?_)
                      have HC := Lib.hid (And.intro (HM.out.1.under (bel_drew _) HA.out) (HM.out.2.under (bel_drew _)))
                      clear HM
                      generalize wc.drew = X5 at HC hHeld ⊢
                      refine tk 0 rfl ?_
                      try go_frame
                      refine tk 1 rfl ?_
                      try go_frame
                      refine tk 2 rfl ?_
                      try go_frame
                      refine tk 3 rfl ?_
                      try go_frame
                      refine tk 4 rfl ?_
                      try go_frame
                      refine tk 5 rfl ?_
                      try go_frame
                      refine tk 6 rfl ?_
                      try go_frame
                      refine tk 8 rfl ?_
                      try go_frame
                      refine tk 9 rfl ?_
                      try go_frame
                      refine tk 11 rfl ?_
                      try go_frame
                      have p0 := HC.out.1.cel
                      refine wpAnyH_ready (rs := [7]) (by kernel_rfl) (by simp) ?_
                      refine AllReadyH.cons (o := ⟨some 124, _, _, _, _, none⟩) rfl (fun Kx hK => ?_) AllReadyH.nil
                      go_simp
                      clear hHeld
                      refine hK.out _ _ ⟨HC.out.1.S.1, HC.out.1.S.2.1⟩ (fun hHeld => ?_)
                      clear hK Kx p0
                      try go_frame
                      have hlk : k + (1 + (l.length - k)) = l.length + 1 := by omega
                      rcases HC.out.1.nm with ⟨h0, e1⟩ | ⟨b', cap', e1, hp, hle, hmx, hbg, h6⟩
                      · subst h0
                        injection e1 with e1 _ e3
                        subst e1 e3
                        obtain rfl : k = 0 := by simpa using hkk
                        refine tk 10 rfl ?_
                        try go_frame
                        refine wpAnyH_ready (rs := [12]) (by kernel_rfl) (by simp) ?_
                        refine AllReadyH.cons (o := ⟨some 129, _, _, _, _, none⟩) rfl (fun Kx hK => ?_) AllReadyH.nil
                        refine step_append_grows (by rfl) (.tmp 127) (.tmp 128) 23 (by rfl) 3 ti0 _ 1 8 Tryz.underlying23 hi hz0 hz1 hz2 rfl (by decide) none 0 0 [] (by rfl) (fun _ => ⟨rfl, rfl⟩) rfl (fun b2 h => by cases h) ⟨gr, 0, none⟩ (1 + (([] : List Nat).length - 0)) cr (zc (b :: ([] : List Nat).drop 0)) (by rfl) (by rfl) (fun j u hu => by rw [Addr.add_lit, Nat.zero_add]; exact zc_all HC.out.2 j u hu) (zc_one _) (by simp; try omega) (by have := HLL.out; unfold maxLen; simp; try omega) (by have := HLL.out; simp; try omega) ?_
                        intro v2 w2 hown2 hgr2
                        have hv : NmJ w2 go v2 (Lat.insN 0 b []) := nmj_own (l := Lat.insN 0 b []) hown2 rfl (by simp [Lat.insN]) HC.out.1.ar.lt
                        have HC3 := Lib.hid (HC.out.1.under (below_new1 hgr2) HA.out)
                        obtain ⟨A2, m2, c2, rfl⟩ : ∃ A2 m2 c2, v2 = .slice A2 m2 c2 := by
                          rcases hv with ⟨-, h⟩ | ⟨_, _, h, -⟩
                          · exact ⟨_, _, _, h⟩
                          · exact ⟨_, _, _, h⟩
                        have HV := Lib.hid hv
                        clear hHeld hown2 hgr2 hv
                        refine hK.out _ _ ⟨HC3.out.S.1, HC3.out.S.2.1⟩ (fun hHeld => ?_)
                        clear hK Kx HC
                        try go_frame
                        refine tk 13 rfl ?_
                        try go_frame
                        have p0 := HC3.out.cel
                        have p1 := HC3.out.thaw
                        refine wpAnyH_ready (rs := [14]) (by kernel_rfl) (by simp) ?_
                        refine AllReadyH.cons (o := ⟨none, _, _, _, _, none⟩) rfl (fun Kx hK => ?_) AllReadyH.nil
                        go_simp
                        clear p0 p1 hHeld
                        have HP := Lib.hid (HC3.out.put HA.out HBN.out HV.out HBEL.out HGT.out HK.out)
                        have HR2 := Lib.hid (row2 (HC3.out.row.far (p := ⟨go, a, none⟩) (fun e => HC3.out.ne e.symm) (.slice A2 m2 c2)))
                        refine hK.out _ _ HR2.out (fun hHeld => ?_)
                        clear hK Kx HC3 HR2
                        try go_frame
                        refine wpAnyH_done (by kernel_rfl) ?_ _
                        clear hHeld
                        go_wp2_with fail
                        go_roundw
                        case rel => exact ⟨i + 1, by omega, by go_num, by rw [HPR.out]; exact HP.out.1, by rw [HCS.out]; exact HP.out.2⟩
                        case measure => simp [intOf]; omega
                      · injection e1 with e1 _ e3
                        subst e1 e3
                        have hkc : k ≤ cap := Nat.le_trans hkk hle
                        refine tk 10 rfl ?_
                        try go_frame
                        refine wpAnyH_ready (rs := [12]) (by kernel_rfl) (by simp) ?_
                        refine AllReadyH.cons (o := ⟨some 129, _, _, _, _, none⟩) rfl (fun Kx hK => ?_) AllReadyH.nil
                        refine step_append_grows (by rfl) (.tmp 127) (.tmp 128) 23 (by rfl) 3 ti0 _ 1 8 Tryz.underlying23 hi hz0 hz1 hz2 rfl (by decide) (some ⟨b', 0, none⟩) k k (zc (l.take k)) (by rfl) (fun h => by cases h) (by rw [zc_len, List.length_take, Nat.min_eq_left hkk, Nat.mul_one]) (fun b2 h j u hu => by cases h; rw [Addr.add_lit, Nat.zero_add]; exact zc_beg h6 j u hu) ⟨gr, 0, none⟩ (1 + (l.length - k)) cr (zc (b :: l.drop k)) (by rfl) (by rw [zc_len, List.length_cons, List.length_drop]; omega) (fun j u hu => by rw [Addr.add_lit, Nat.zero_add]; exact zc_all HC.out.2 j u hu) (zc_one _) (by simp; try omega) (by have := HLL.out; unfold maxLen; simp; try omega) (by have := HLL.out; simp; try omega) ?_
                        intro v2 w2 hown2 hgr2
                        rw [← zc_app] at hown2
                        have hv : NmJ w2 go v2 (Lat.insN k b l) := nmj_own (l := Lat.insN k b l) hown2 (by simp [Lat.insN]; omega) (by simp [Lat.insN]; omega) HC.out.1.ar.lt
                        have HC3 := Lib.hid (HC.out.1.under (below_new1 hgr2) HA.out)
                        obtain ⟨A2, m2, c2, rfl⟩ : ∃ A2 m2 c2, v2 = .slice A2 m2 c2 := by
                          rcases hv with ⟨-, h⟩ | ⟨_, _, h, -⟩
                          · exact ⟨_, _, _, h⟩
                          · exact ⟨_, _, _, h⟩
                        have HV := Lib.hid hv
                        clear hHeld hown2 hgr2 hv
                        refine hK.out _ _ ⟨HC3.out.S.1, HC3.out.S.2.1⟩ (fun hHeld => ?_)
                        clear hK Kx HC
                        try go_frame
                        refine tk 13 rfl ?_
                        try go_frame
                        have p0 := HC3.out.cel
                        have p1 := HC3.out.thaw
                        refine wpAnyH_ready (rs := [14]) (by kernel_rfl) (by simp) ?_
                        refine AllReadyH.cons (o := ⟨none, _, _, _, _, none⟩) rfl (fun Kx hK => ?_) AllReadyH.nil
                        go_simp
                        clear p0 p1 hHeld
                        have HP := Lib.hid (HC3.out.put HA.out HBN.out HV.out HBEL.out HGT.out HK.out)
                        have HR2 := Lib.hid (row2 (HC3.out.row.far (p := ⟨go, a, none⟩) (fun e => HC3.out.ne e.symm) (.slice A2 m2 c2)))
                        refine hK.out _ _ HR2.out (fun hHeld => ?_)
                        clear hK Kx HC3 HR2
                        try go_frame
                        refine wpAnyH_done (by kernel_rfl) ?_ _
                        clear hHeld
                        go_wp2_with fail
                        go_roundw
                        case rel => exact ⟨i + 1, by omega, by go_num, by rw [HPR.out]; exact HP.out.1, by rw [HCS.out]; exact HP.out.2⟩
                        case measure => simp [intOf]; omega
                  · have HKN : Hid (∀ l', Lat.NbOf Q a l' → b ∈ l') := Lib.hid (fun l' h' => by
                      obtain rfl := Lat.nbof_one h' M.nb
                      obtain ⟨h, h1⟩ := HB2.out.1 rfl
                      rw [← h1]
                      exact List.getElem_mem h)
                    have HF := Lib.hid (And.intro (M.ar.know HBN.out HKN.out) M.tab)
                    clear M
                    go_wp2_with fail
                    go_roundw
                    case rel => exact ⟨i + 1, by omega, by go_num, by rw [HPR.out]; exact HF.out.1, by rw [HCS.out]; exact HF.out.2⟩
                    case measure => simp [intOf]; omega
              · have HNX : Hid (∀ i (h : i < l.length), i < k + 1 → l[i] < b) := Lib.hid (fun i h hi => by
                  rcases Nat.lt_or_ge i k with h1 | h1
                  · exact HBEL.out i h h1
                  · obtain rfl : i = k := by omega
                    exact (HBB.out.1 rfl).2)
                have hkl : k < l.length := (HBB.out.1 rfl).1
                have hll := HLL.out
                have HM := Lib.hid M; clear M
                go_wp2_with fail
                go_roundw
                case rel => exact ⟨k + 1, by omega, by go_num, HNX.out, HM.out⟩
                case measure => simp [intOf]; omega
        · have i1 : ¬ ((i : Int) < 6) := by omega
          obtain rfl : i = 6 := by omega
          have HF : Hid (Ar wl n go (P ++ Lat.prq (x, y, z)) wr) := Lib.hid (by simpa [Lat.prq] using M)
          clear M r
          go_wp2_with fail
          go_roundw
          case rel => exact ⟨j + 1, by omega, by go_num, by rw [HNX.out]; exact HF.out⟩
          case measure => simp [intOf]; omega
    · have j1 : ¬ ((j : Int) < (L.length : Int)) := by omega
      obtain rfl : j = L.length := by omega
      rw [List.take_length] at M
      have HNB := Lib.hid (M.fin HN.out HL.out)
      have HBB := Lib.hid (HB.out.trans (M.below.mono HB.out.size))
      clear M
      go_wp2_with fail
      go_ret
      exact ⟨go, cn n, rfl, Nat.le_refl _, by omega, HBB.out, HNB.out⟩
end Go.Proofs.YtejoabaanclcbaaGreat


