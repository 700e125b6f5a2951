/- The contract of enter at a border. -/
import Derived.Test.YtejoabaanclcbaaGreatQab
import Derived.Deep.Cut
import Derived.Deep.CutRange
namespace Go.Proofs.YtejoabaanclcbaaGreat
open Go.RowKit Go.Maps

theorem zeroInt (w : World) : (zeroValue 3).run Tryz.prog w = .ok (.int .i64 0) w := by kernel_rfl
set_option maxRecDepth 100000 in
set_option maxHeartbeats 4000000 in
theorem enter_known (W : World) (n gl gm f a b c i : Nat) (rv : List Lat.Pt) (cnt : Nat) (bor ix : List (Nat × Nat)) (w : World) (h : Mk W n gl gm rv cnt bor ix w)
    (hf : f < 20) (ha : a ≤ 8) (hb : b ≤ 8) (hc : c ≤ 8) (hz : a = 0 ∨ b = 0 ∨ c = 0) (hl : Lat.look (Lat.pk f a b c) bor = some i) :
    Calls Tryz.prog 127 #[.pointer (some ⟨gl, 0, none⟩), .agg #[.int .i64 f, .int .i64 a, .int .i64 b, .int .i64 c], .map (some gm)] w fun e w' => e = .returned (.int .i64 i) ∧ Mk W n gl gm rv cnt bor ix w' := by
  have h1 := h.alloc (.cells #[.int .i64 f, .int .i64 a, .int .i64 b, .int .i64 c] 134)
  obtain ⟨cs, g, cap, l1, l2, l3, l4, l5⟩ := h1.lat
  have c0' : (w.alloc (.cells #[.int .i64 f, .int .i64 a, .int .i64 b, .int .i64 c] 134)).cell? ⟨gl, 0, none⟩ = some (.slice (some ⟨g, 0, none⟩) cnt cap) := (l1.cell 0).trans l3
  have hgl := h.ltl
  have HL := Lib.hid hl; clear hl
  have H1 := Lib.hid h1; clear h1 h l1 l2 l3 l4 l5
  have HZ := Lib.hid hz; clear hz
  go_enter Tryz.func127, Tryz.ntmps127
  go_upto_region 2 with fail
  refine forget (fun Y => Mk W n gl gm rv cnt bor ix Y ∧ Row Y w.heap.size 134 #[.int .i64 f, .int .i64 a, .int .i64 b, .int .i64 c]) ⟨H1.out, Row.new _ _ _⟩ ?_
  clear H1 c0'
  generalize w.heap.size = gp at *
  rintro Y ⟨h1, r⟩
  obtain ⟨p0, p1, p2, p3⟩ := row4 r
  have H1 := Lib.hid h1; clear h1
  have R := Lib.hid r; clear r
  go_cut [29] from 17 to 29 (fun t wc => t = .bool true ∧ wc = Y)
  case first =>
    by_cases za : a = 0
    · subst za
      go_wp2_with fail
      go_meet
      exact ⟨rfl, rfl⟩
    · have za' : ((a : Int) == 0) = false := beq_eq_false_iff_ne.2 (by omega)
      clear za
      by_cases zb : b = 0
      · subst zb
        go_wp2_with fail
        go_meet
        exact ⟨rfl, rfl⟩
      · have zb' : ((b : Int) == 0) = false := beq_eq_false_iff_ne.2 (by omega)
        obtain rfl : c = 0 := by have := HZ.out; have : (a : Int) ≠ 0 := by simpa using za'
                                 omega
        clear zb
        go_wp2_with fail
        go_meet
        exact ⟨rfl, rfl⟩
  case rest =>
    obtain ⟨rfl, rfl⟩ := hcut
    have n0 : Hid (0 ≤ (a : Int) ∧ (a : Int) ≤ 8 ∧ 0 ≤ (b : Int) ∧ (b : Int) ≤ 8 ∧ 0 ≤ (c : Int) ∧ (c : Int) ≤ 8) := Lib.hid (by omega)
    go_upto_region 4 with (go_at_call 130; refine (weightsOf_any f a b c _ hf n0.out.1 n0.out.2.1 n0.out.2.2.1 n0.out.2.2.2.1 n0.out.2.2.2.2.1 n0.out.2.2.2.2.2).mono ?_; rintro e w2 ⟨rfl, hb2⟩)
    refine forget (fun Z => Mk W n gl gm rv cnt bor ix Z ∧ Row Z gp 134 #[.int .i64 f, .int .i64 a, .int .i64 b, .int .i64 c] ∧ Row Z w2.heap.size 178 (va f a b c)) ⟨(H1.out.under hb2).alloc _, (R.out.under hb2).alloc _, Row.new _ _ _⟩ ?_
    clear H1 R hb2 p0 p1 p2 p3 n0
    generalize w2.heap.size = gw at *
    rintro Z ⟨h1, r, r8⟩
    obtain ⟨⟨d0, d1, d2, d3, d4, d5⟩, d6, d7, d8, d9, d10, d11⟩ := row12 r8
    obtain ⟨D, k, m1, m2, m3⟩ := h1.map
    have hB := m2 f a b c hf ha hb hc
    rw [HL.out] at hB
    have H1 := Lib.hid h1; clear h1
    have M1 := Lib.hid m1; clear m1
    have M2 := Lib.hid m2; clear m2
    have R8 := Lib.hid r8; clear r8
    have R := Lib.hid r; clear r
    have hh : Maps.has D (kl f a b c) = true := hB.1
    have hA := Lib.hid (hB.2 i rfl); clear hB
    go_wp2_with (at_lookup; refine wpList_lookup_own_ok_int _ rfl _ _ 172 rfl 178 3 .i64 wkeyed Tryz.underlying172 Tryz.underlying3 (zeroInt _) gm k D rfl M1.out _ (kl f a b c) rfl (kl_is ha hb hc) ?_; intro c' hat hwc; have HAT := Lib.hid hat; clear hat hwc)
    go_ret
    exact ⟨ret_i64 (by have := HAT.out.symm.trans hA.out; injection this with this; injection this), H1.out⟩
set_option maxRecDepth 100000 in
set_option maxHeartbeats 4000000 in
theorem enter_new (W : World) (n gl gm f a b c : Nat) (rv : List Lat.Pt) (cnt : Nat) (bor ix : List (Nat × Nat)) (w : World) (h : Mk W n gl gm rv cnt bor ix w)
    (hf : f < 20) (ha : a ≤ 8) (hb : b ≤ 8) (hc : c ≤ 8) (hz : a = 0 ∨ b = 0 ∨ c = 0) (hl : Lat.look (Lat.pk f a b c) bor = none) (hn : a + b + c = n) (h1n : 1 ≤ n) (hcnt : cnt ≤ 100000) (hbor : bor.length ≤ 100000) :
    Calls Tryz.prog 127 #[.pointer (some ⟨gl, 0, none⟩), .agg #[.int .i64 f, .int .i64 a, .int .i64 b, .int .i64 c], .map (some gm)] w fun e w' => e = .returned (.int .i64 cnt) ∧ Mk W n gl gm ((f, a, b) :: rv) (cnt + 1) ((Lat.pk f a b c, cnt) :: bor) ix w' := by
  obtain ⟨i0, hi, hz0, hz1, hz2⟩ := info_parts infoPlace
  have h1 := h.alloc (.cells #[.int .i64 f, .int .i64 a, .int .i64 b, .int .i64 c] 134)
  obtain ⟨cs, g, cap, l1, l2, l3, l4, l5⟩ := h1.lat
  have c0' : (w.alloc (.cells #[.int .i64 f, .int .i64 a, .int .i64 b, .int .i64 c] 134)).cell? ⟨gl, 0, none⟩ = some (.slice (some ⟨g, 0, none⟩) cnt cap) := (l1.cell 0).trans l3
  have hgl := h.ltl
  have HL := Lib.hid hl; clear hl
  have zs : ((a : Int) + ↑b + ↑c == 0) = false := beq_eq_false_iff_ne.2 (by omega)
  have zp : (0 : Int) < (a : Int) + ↑b + ↑c := by omega
  have HN := Lib.hid hn; clear hn
  have H1 := Lib.hid h1; clear h1 h l1 l2 l3 l4 l5
  have HZ := Lib.hid hz; clear hz
  go_enter Tryz.func127, Tryz.ntmps127
  go_upto_region 2 with fail
  refine forget (fun Y => Mk W n gl gm rv cnt bor ix Y ∧ Row Y w.heap.size 134 #[.int .i64 f, .int .i64 a, .int .i64 b, .int .i64 c]) ⟨H1.out, Row.new _ _ _⟩ ?_
  clear H1 c0'
  generalize w.heap.size = gp at *
  rintro Y ⟨h1, r⟩
  obtain ⟨p0, p1, p2, p3⟩ := row4 r
  have H1 := Lib.hid h1; clear h1
  have R := Lib.hid r; clear r
  go_cut [29] from 17 to 29 (fun t wc => t = .bool true ∧ wc = Y)
  case first =>
    by_cases za : a = 0
    · subst za
      go_wp2_with fail
      go_meet
      exact ⟨rfl, rfl⟩
    · have za' : ((a : Int) == 0) = false := beq_eq_false_iff_ne.2 (by omega)
      clear za
      by_cases zb : b = 0
      · subst zb
        go_wp2_with fail
        go_meet
        exact ⟨rfl, rfl⟩
      · have zb' : ((b : Int) == 0) = false := beq_eq_false_iff_ne.2 (by omega)
        obtain rfl : c = 0 := by have := HZ.out; have : (a : Int) ≠ 0 := by simpa using za'
                                 omega
        clear zb
        go_wp2_with fail
        go_meet
        exact ⟨rfl, rfl⟩
  case rest =>
    obtain ⟨rfl, rfl⟩ := hcut
    have n0 : Hid (0 ≤ (a : Int) ∧ (a : Int) ≤ 8 ∧ 0 ≤ (b : Int) ∧ (b : Int) ≤ 8 ∧ 0 ≤ (c : Int) ∧ (c : Int) ≤ 8) := Lib.hid (by omega)
    go_upto_region 4 with (go_at_call 130; refine (weightsOf_any f a b c _ hf n0.out.1 n0.out.2.1 n0.out.2.2.1 n0.out.2.2.2.1 n0.out.2.2.2.2.1 n0.out.2.2.2.2.2).mono ?_; rintro e w2 ⟨rfl, hb2⟩)
    refine forget (fun Z => Mk W n gl gm rv cnt bor ix Z ∧ Row Z gp 134 #[.int .i64 f, .int .i64 a, .int .i64 b, .int .i64 c] ∧ Row Z w2.heap.size 178 (va f a b c)) ⟨(H1.out.under hb2).alloc _, (R.out.under hb2).alloc _, Row.new _ _ _⟩ ?_
    clear H1 R hb2 p0 p1 p2 p3 n0
    generalize w2.heap.size = gw at *
    rintro Z ⟨h1, r, r8⟩
    obtain ⟨⟨d0, d1, d2, d3, d4, d5⟩, d6, d7, d8, d9, d10, d11⟩ := row12 r8
    obtain ⟨D, k, m1, m2, m3⟩ := h1.map
    have hB := m2 f a b c hf ha hb hc
    rw [HL.out] at hB
    have H1 := Lib.hid h1; clear h1
    have M1 := Lib.hid m1; clear m1
    have M2 := Lib.hid m2; clear m2
    have R8 := Lib.hid r8; clear r8
    have R := Lib.hid r; clear r
    have hh : Maps.has D (kl f a b c) = false := hB.1
    clear hB
    have M3 : k < maxLen := by unfold maxLen; omega
    have EG := Lib.hid (map_row_ne R.out M1.out)
    have HE : Hid (∀ w3 : World, w3.ownsMap Tryz.prog 178 (plainElem Tryz.prog 3) gm (k + 1) (D.put (kl f a b c) (.lit (.int .i64 cnt))) → Z.grownBy w3 (some gm) → Mk W n gl gm rv cnt ((Lat.pk f a b c, cnt) :: bor) ix w3 ∧ Row w3 gp 134 #[.int .i64 f, .int .i64 a, .int .i64 b, .int .i64 c]) :=
      Lib.hid (fun w3 m g3 => ⟨H1.out.enter hf ha hb hc M1.out M2.out m3 m g3, R.out.grown g3 (by simpa using Ne.symm EG.out)⟩)
    go_upto_region 7 with (at_lookup; refine wpList_lookup_own_ok_int _ rfl _ _ 172 rfl 178 3 .i64 wkeyed Tryz.underlying172 Tryz.underlying3 (zeroInt _) gm k D rfl M1.out _ (kl f a b c) rfl (kl_is ha hb hc) ?_; intro c' hat hwc; clear hat hwc)
    go_upto_region 9 with (at_mapUpdate; refine wpList_mapUpdate_own _ rfl _ _ _ 172 rfl 178 3 wkeyed Tryz.underlying172 _ gm k D rfl M1.out M3 _ _ (kl f a b c) rfl rfl (kl_is ha hb hc) _ [] (plainElem_int Tryz.underlying3 (WalkArith.wf_i64 (by omega))) ?_; intro w3 hown3 hgrow3; have HW := Lib.hid (HE.out w3 hown3 hgrow3); clear hown3 hgrow3; obtain ⟨e0, e1, e2, e3⟩ := row4 HW.out.2)
    obtain ⟨h4, r4⟩ := HW.out
    obtain ⟨cs4, g4, cap4, n1, n2, n3, n4, n5⟩ := h4.lat
    have N1 := Lib.hid n1
    have N3 := Lib.hid n3
    have N4 := Lib.hid n4
    have H4 := Lib.hid h4
    have R4 := Lib.hid r4
    clear n1 n2 n3 n4 n5 h4 r4 HW HE
    have hq : (840 : Int) / (↑a + ↑b + ↑c) = ((840 / n : Nat) : Int) := by rw [← HN.out]; simp
    have hq0 : 0 ≤ (840 : Int) / (↑a + ↑b + ↑c) ∧ (840 : Int) / (↑a + ↑b + ↑c) ≤ 840 := by
      rw [hq]
      have := Nat.div_le_self 840 n
      generalize 840 / n = t at *
      omega
    have HQ := Lib.hid hq; clear hq
    generalize hqq : (840 : Int) / (↑a + ↑b + ↑c) = q at *
    clear hqq
    obtain ⟨q0, q1⟩ := hq0
    have w1 : IntKind.i64.wrap ((a : Int) * q) = (a : Int) * q := mul_in (by omega) ha q0 q1
    have w2 : IntKind.i64.wrap ((b : Int) * q) = (b : Int) * q := mul_in (by omega) hb q0 q1
    have w3 : IntKind.i64.wrap ((c : Int) * q) = (c : Int) * q := mul_in (by omega) hc q0 q1
    refine forget (fun Y => Mk W n gl gm rv cnt ((Lat.pk f a b c, cnt) :: bor) ix Y ∧ (∃ cs, Row Y gl 171 cs ∧ cs[0]? = some (.slice (some ⟨g4, 0, none⟩) cnt cap4)) ∧ Y.ownsRow W.heap.size 32 4 (.slice (some ⟨g4, 0, none⟩) cnt cap4) cnt (ncs n rv.reverse) ∧
      Row Y gp 134 #[.int .i64 f, .int .i64 a, .int .i64 b, .int .i64 c]) ⟨H4.out, ⟨cs4, N1.out, N3.out⟩, N4.out, R4.out⟩ ?_
    clear N1 N3 H4 N4 R4 e0 e1 e2 e3
    rintro Y ⟨h1, ⟨cs5, l1, l3⟩, l4, r⟩
    obtain ⟨p0, p1, p2, p3⟩ := row4 r
    have c0' : Y.cell? ⟨gl, 0, none⟩ = some (.slice (some ⟨g4, 0, none⟩) cnt cap4) := (l1.cell 0).trans l3
    have egp : gl ≠ gp := fun e => by subst e; have := l1.symm.trans r; injection this with this; injection this with _ t; exact absurd t (by decide)
    have HX : Hid (∀ (o : Obj) (x : World), (Y.alloc o).drew.grownBy x (some g4) → x.cell? ⟨gl, 0, none⟩ = some (.slice (some ⟨g4, 0, none⟩) cnt cap4) ∧ x.frozen? ⟨gl, 0, none⟩ = false ∧
        x.cell? ⟨gp, 0, none⟩ = some (.int .i64 f) ∧ x.cell? ⟨gp, 1, none⟩ = some (.int .i64 a) ∧ x.cell? ⟨gp, 2, none⟩ = some (.int .i64 b) ∧ x.cell? ⟨gp, 3, none⟩ = some (.int .i64 c)) := Lib.hid (fun o x hx => by
      have k : Row (Y.alloc o).drew gl 171 cs5 := (l1.alloc o).drew
      have k2 := k.grown hx (own_ne (w := (Y.alloc o).drew) ((l4.alloc o)) k (by decide))
      have m : Row (Y.alloc o).drew gp 134 _ := (r.alloc o).drew
      exact ⟨(k2.cell 0).trans l3, k2.thaw 0, row4 (m.grown hx (own_ne (w := (Y.alloc o).drew) ((l4.alloc o)) m (by decide)))⟩)
    have PA : Hid (∀ o : Obj, (Y.alloc o).drew.cell? ⟨gp, 0, none⟩ = some (.int .i64 f) ∧ (Y.alloc o).drew.cell? ⟨gp, 1, none⟩ = some (.int .i64 a) ∧ (Y.alloc o).drew.cell? ⟨gp, 2, none⟩ = some (.int .i64 b) ∧ (Y.alloc o).drew.cell? ⟨gp, 3, none⟩ = some (.int .i64 c)) := Lib.hid (fun o => row4 (r.alloc o).drew)
    have H1 := Lib.hid h1; clear h1 l1 l3 r
    have L4 := Lib.hid l4; clear l4
    refine wp_region_held_drew (S := (fun w' : World => w'.cell? ⟨gp, 0, none⟩ = some (.int .i64 f) ∧ w'.cell? ⟨gp, 1, none⟩ = some (.int .i64 a) ∧ w'.cell? ⟨gp, 2, none⟩ = some (.int .i64 b) ∧ w'.cell? ⟨gp, 3, none⟩ = some (.int .i64 c))) (by kernel_rfl) ⟨p0, p1, p2, p3⟩ (fun hHeld => ?_)
    refine tk 0 rfl ?_
    try go_frame
    refine tk 1 rfl ?_
    try go_frame
    refine tk 2 rfl ?_
    try go_frame
    refine tk 3 rfl ?_
    try go_frame
    refine tk 5 rfl ?_
    try go_frame
    refine tk 6 rfl ?_
    try go_frame
    refine tk 7 rfl ?_
    try go_frame
    refine tk 8 rfl ?_
    try go_frame
    refine tk 9 rfl ?_
    try go_frame
    refine tk 10 rfl ?_
    try go_frame
    refine tk 11 rfl ?_
    try go_frame
    refine tk 12 rfl ?_
    try go_frame
    refine tk 13 rfl ?_
    try go_frame
    refine tk 14 rfl ?_
    try go_frame
    refine tk 15 rfl ?_
    try go_frame
    refine tk 16 rfl ?_
    try go_frame
    refine tk 17 rfl ?_
    try go_frame
    refine tk 18 rfl ?_
    try go_frame
    refine tk 19 rfl ?_
    try go_frame
    refine wpAnyH_ready (rs := [4, 20]) (by kernel_rfl) (by simp) ?_
    refine AllReadyH.cons rfl (fun K hK => ?_) (AllReadyH.cons rfl (fun K hK => ?_) AllReadyH.nil)
    · go_simp
      refine hK.out _ _ ⟨p0, p1, p2, p3⟩ (fun hHeld2 => ?_)
      clear hK K hHeld
      try go_frame
      refine wpAnyH_ready (rs := [20]) (by kernel_rfl) (by simp) ?_
      refine AllReadyH.cons rfl (fun K hK => ?_) AllReadyH.nil
      go_simp
      refine hK.out _ _ (PA.out _) (fun hHeld => ?_)
      clear hK K hHeld2
      try go_frame
      refine wpAnyH_ready (rs := [21]) (by kernel_rfl) (by simp) ?_
      refine AllReadyH.cons rfl (fun K hK => ?_) AllReadyH.nil
      refine step_append_lies _ (by rfl) _ _ _ (by rfl) W.heap.size 32 i0 _ 4 32 Tryz.underlying86 hi hz0 hz1 hz2 rfl (by decide) (.slice (some ⟨g4, 0, none⟩) cnt cap4) cnt (ncs n rv.reverse) (by rfl) ((L4.out.alloc _).drew) ⟨Y.heap.size, 0, none⟩ 1 1 [.int .i64 f, .int .i64 ((a : Int) * q), .int .i64 ((b : Int) * q), .int .i64 ((c : Int) * q)] (by rfl) (by rfl) (World.news_of_block (cs := #[.int .i64 f, .int .i64 ((a : Int) * q), .int .i64 ((b : Int) * q), .int .i64 ((c : Int) * q)]) (t := 32) (fr := (0, 0)) (heap_alloc_new Y _)) (by simp [Value.oneCell']) (by omega) (by unfold maxLen; omega) (by omega) (by have := H1.out.below.size; simp; omega) (Y.heap.size + 1) (by simp) ?_
      intro g4' cap4' x hown1 hgrow hat hlt
      obtain ⟨k1, k2, k3, k4, k5, k6⟩ := HX.out _ _ hgrow
      refine hK.out _ _ ?_ (fun hHeld2 => ?_)
      · exact ⟨k3, k4, k5, k6⟩
      clear hK K hHeld
      try simp only [Act.put, List.setIfInBounds_toArray]
      refine tk 22 rfl ?_
      try go_frame
      refine tk 23 rfl ?_
      try go_frame
      refine wpAnyH_ready (rs := [24]) (by kernel_rfl) (by simp) ?_
      refine AllReadyH.cons rfl (fun K hK => ?_) AllReadyH.nil
      go_simp
      refine hK.out _ _ ?_ (fun hHeld => ?_)
      · exact ⟨by rw [World.cell?_setCell_far _ _ _ _ egp]; exact k3, by rw [World.cell?_setCell_far _ _ _ _ egp]; exact k4, by rw [World.cell?_setCell_far _ _ _ _ egp]; exact k5, by rw [World.cell?_setCell_far _ _ _ _ egp]; exact k6⟩
      clear hK K hHeld hHeld2
      try go_frame
      refine wpAnyH_done (by kernel_rfl) ?_ _
      go_wp2_with fail
      go_ret
      refine ⟨rfl, ?_⟩
      have hnc : nc n (f, a, b) = [.int .i64 f, .int .i64 ((a : Int) * q), .int .i64 ((b : Int) * q), .int .i64 ((c : Int) * q)] := by
        rw [HQ.out]; simp [nc, wd, ← HN.out, show a + b + c - a - b = c by omega]
      exact (H1.out.alloc _).drew.grow ((L4.out.alloc _).drew) (by rw [hnc]; exact hown1) hgrow
    · go_simp
      refine hK.out _ _ (PA.out _) (fun hHeld2 => ?_)
      clear hK K hHeld
      try go_frame
      refine wpAnyH_ready (rs := [4]) (by kernel_rfl) (by simp) ?_
      refine AllReadyH.cons rfl (fun K hK => ?_) AllReadyH.nil
      have ca : ∀ o : Obj, (Y.alloc o).cell? ⟨gl, 0, none⟩ = some (.slice (some ⟨g4, 0, none⟩) cnt cap4) := fun o => (World.cell?_alloc_some Y _ o (by rw [c0']; rfl)).trans c0'
      go_simp
      refine hK.out _ _ (PA.out _) (fun hHeld => ?_)
      clear hK K hHeld2
      try go_frame
      refine wpAnyH_ready (rs := [21]) (by kernel_rfl) (by simp) ?_
      refine AllReadyH.cons rfl (fun K hK => ?_) AllReadyH.nil
      refine step_append_lies _ (by rfl) _ _ _ (by rfl) W.heap.size 32 i0 _ 4 32 Tryz.underlying86 hi hz0 hz1 hz2 rfl (by decide) (.slice (some ⟨g4, 0, none⟩) cnt cap4) cnt (ncs n rv.reverse) (by rfl) ((L4.out.alloc _).drew) ⟨Y.heap.size, 0, none⟩ 1 1 [.int .i64 f, .int .i64 ((a : Int) * q), .int .i64 ((b : Int) * q), .int .i64 ((c : Int) * q)] (by rfl) (by rfl) (World.news_of_block (cs := #[.int .i64 f, .int .i64 ((a : Int) * q), .int .i64 ((b : Int) * q), .int .i64 ((c : Int) * q)]) (t := 32) (fr := (0, 0)) (heap_alloc_new Y _)) (by simp [Value.oneCell']) (by omega) (by unfold maxLen; omega) (by omega) (by have := H1.out.below.size; simp; omega) (Y.heap.size + 1) (by simp) ?_
      intro g4' cap4' x hown1 hgrow hat hlt
      obtain ⟨k1, k2, k3, k4, k5, k6⟩ := HX.out _ _ hgrow
      refine hK.out _ _ ?_ (fun hHeld2 => ?_)
      · exact ⟨k3, k4, k5, k6⟩
      clear hK K hHeld
      try simp only [Act.put, List.setIfInBounds_toArray]
      refine tk 22 rfl ?_
      try go_frame
      refine tk 23 rfl ?_
      try go_frame
      refine wpAnyH_ready (rs := [24]) (by kernel_rfl) (by simp) ?_
      refine AllReadyH.cons rfl (fun K hK => ?_) AllReadyH.nil
      go_simp
      refine hK.out _ _ ?_ (fun hHeld => ?_)
      · exact ⟨by rw [World.cell?_setCell_far _ _ _ _ egp]; exact k3, by rw [World.cell?_setCell_far _ _ _ _ egp]; exact k4, by rw [World.cell?_setCell_far _ _ _ _ egp]; exact k5, by rw [World.cell?_setCell_far _ _ _ _ egp]; exact k6⟩
      clear hK K hHeld hHeld2
      try go_frame
      refine wpAnyH_done (by kernel_rfl) ?_ _
      go_wp2_with fail
      go_ret
      refine ⟨rfl, ?_⟩
      have hnc : nc n (f, a, b) = [.int .i64 f, .int .i64 ((a : Int) * q), .int .i64 ((b : Int) * q), .int .i64 ((c : Int) * q)] := by
        rw [HQ.out]; simp [nc, wd, ← HN.out, show a + b + c - a - b = c by omega]
      exact (H1.out.alloc _).drew.grow ((L4.out.alloc _).drew) (by rw [hnc]; exact hown1) hgrow

end Go.Proofs.YtejoabaanclcbaaGreat


