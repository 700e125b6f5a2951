/- The reference's Parse of bulletins, at any text that has a first line. -/
import Derived.Test.YtfnlgfacadmjpaaGreatDoorBRg
import Derived.Deep.AppendLies
namespace Go.Proofs.YtfnlgfacadmjpaaGreatDoor.Bu
open Go.RowKit

/-- What group's Parse leaves, in one path. -/
theorem rfo_one {x : List UInt8} {near : Int} {w w' : World} {e : Ending} (h : RfO x near w e w') : ∃ (k : Int) (nm : List UInt8) (t F A B C : Int) (L : List El.Elt.R) (Au : Option Addr) (n cu : Nat) (er : Int), e = .returned (.tuple #[repV k (S nm) t F A B C (.slice Au n cu), .int .i64 er]) ∧ El.RdIn w' (.slice Au n cu) L ∧ Below w.heap.size w w' ∧ (∀ i, (Value.slice Au n cu).ownBlock = some i → w.heap.size ≤ i) ∧ ((er = 0 ∧ Psd x near k nm t F A B C L) ∨ (er = 3 ∧ ∀ k nm t F A B C L, ¬ Psd x near k nm t F A B C L)) := by
  rcases h with ⟨k, nm, t, F, A, B, C, L, u, h1, rfl, h3, h4, h5⟩ | ⟨h1, rfl, h3⟩
  · obtain ⟨Au, cu, rfl, q⟩ := id h3
    exact ⟨k, nm, t, F, A, B, C, L, Au, _, cu, 0, rfl, h3, h4, h5, .inl ⟨rfl, (psf_iff _ _ _ _ _ _ _ _ _ _).1 h1⟩⟩
  · exact ⟨0, [], 0, 0, 0, 0, 0, [], none, 0, 0, 3, rfl, ⟨none, 0, rfl, Nat.le_refl _, by omega, (fun i h => absurd h (Nat.not_lt_zero _))⟩, h3, (fun i h => by cases h), .inr ⟨rfl, fun k nm t F A B C L h => h1 k nm t F A B C L ((psf_iff _ _ _ _ _ _ _ _ _ _).2 h)⟩⟩
theorem rp_one (k : Int) (nm : ByteArray) (t F A B C : Int) (Au : Option Addr) (n cu : Nat) (L : List El.Elt.R) : ∀ v ∈ rpCells (⟨k, nm, t, F, A, B, C, .slice Au n cu, L⟩ : Rp), v.oneCell' = true := by
  intro v hv
  simp only [rpCells, List.mem_cons, List.not_mem_nil, or_false] at hv
  rcases hv with rfl | rfl | rfl | rfl | rfl | rfl | rfl | rfl <;> rfl
theorem rdIn_set9 {w : World} {g : Nat} {A : Option Addr} {n c : Nat} {L : List El.Elt.R} (h : El.RdIn w (.slice A n c) L) (hn : L ≠ [] → ∀ i, (Value.slice A n c).ownBlock = some i → i ≠ g) (u0 u1 u2 u3 u4 u5 u6 u7 : Value) :
    El.RdIn ((((((((w.setCell ⟨g, 0, none⟩ u0).setCell ⟨g, 1, none⟩ u1).setCell ⟨g, 2, none⟩ u2).setCell ⟨g, 3, none⟩ u3).setCell ⟨g, 4, none⟩ u4).setCell ⟨g, 5, none⟩ u5).setCell ⟨g, 6, none⟩ u6).setCell ⟨g, 7, none⟩ u7) (.slice A n c) L := by
  by_cases hL : L = []
  · subst hL
    obtain ⟨A', c', e, h1, h2, h3⟩ := h
    exact ⟨A', c', e, h1, h2, fun i hi => absurd hi (Nat.not_lt_zero _)⟩
  · exact rdIn_set h (hn hL) u0 u1 u2 u3 u4 u5 u6 u7
/-- The result's box, and what was there. -/
structure Q4 (w w1 Y : World) : Prop where
  below : Below w.heap.size w Y
  r4 : Row Y w.heap.size 24 #[.string ⟨#[]⟩, .int .i64 0, .int .i64 0, .int .i64 0, .slice none 0 0]
  low : Below w1.heap.size w1 Y
theorem Q4.under {w w1 Y Y' : World} (h : Q4 w w1 Y) (hb : Below Y.heap.size Y Y') : Q4 w w1 Y' := ⟨h.below.trans (hb.mono h.below.size), h.r4.under hb, h.low.trans (hb.mono h.low.size)⟩
theorem Q4.low2 {w w1 Y Y' : World} (h : Q4 w w1 Y) (hb : Below w1.heap.size Y Y') (hw : w.heap.size < w1.heap.size) : Q4 w w1 Y' := ⟨h.below.trans (hb.mono (Nat.le_of_lt hw)), (hb.block _ hw).trans h.r4, h.low.trans hb⟩
/-- What is known between two lines. -/
structure J4 (w w1 : World) (body : List UInt8) (c : ByteArray) (t cor del : Int) (g8 j : Nat) (R : List Rp) (dm : List Int) (vr vd : Value) (Y : World) : Prop where
  q4 : Q4 w w1 Y
  bs : Bsr c t cor del w1.heap.size g8 R dm vr vd Y
  goo : R.map Rp.key = goods t ((nums 1 (lns body)).take j)
  bad : dm = bads t ((nums 1 (lns body)).take j)
  lr : R.length ≤ j
  ld : dm.length ≤ j
theorem J4.under {w w1 Y Y' : World} {body : List UInt8} {c : ByteArray} {t cor del : Int} {g8 j : Nat} {R : List Rp} {dm : List Int} {vr vd : Value} (h : J4 w w1 body c t cor del g8 j R dm vr vd Y) (hb : Below Y.heap.size Y Y') : J4 w w1 body c t cor del g8 j R dm vr vd Y' := ⟨h.q4.under hb, h.bs.under hb, h.goo, h.bad, h.lr, h.ld⟩
theorem hdr_time {hd : List UInt8} {near t cor del : Int} {c : List UInt8} (h : Hdr (hws hd) near c t cor del) : 0 ≤ t ∧ t ≤ 52595999 := by
  obtain ⟨st, rest, -, -, ⟨d, h, i, -, -, -, -, hr⟩, -⟩ := h
  exact (rsv_own hr).1
set_option maxRecDepth 100000 in
set_option maxHeartbeats 8000000 in
theorem refParse6_text (hd body : List UInt8) (near : Int) (w : World) (hn : 0 ≤ near ∧ near ≤ 52595999) (hf : ∀ c ∈ hd, c ≠ 10) (hs : hd.length + body.length ≤ 3999) :
    Calls Tryz.prog 23 #[.string (S (hd ++ 10 :: body)), .int .i64 near] w (BuO2 hd body near w) := by
  obtain ⟨QQ, hQQ⟩ : ∃ Q : Ending → World → Prop, Q = BuO2 hd body near w := ⟨_, rfl⟩
  rw [← hQQ]
  have HPP := Lib.hid (fun e w' (h : BuO2 hd body near w e w') => (show QQ e w' by rw [hQQ]; exact h))
  clear hQQ
  have hrn : Ck.Cal.rng near = true := Ck.Cal.rng_yes hn.1 hn.2
  have HIN := Lib.hid (fun W => Ck.refIn_any near W)
  rw [hrn] at HIN
  obtain ⟨L, z, hz⟩ := pcz_some body
  have hlen : (hd ++ 10 :: body).length ≤ 4000 := by simp; omega
  have HLI := Lib.hid (fun W => refLines_any (hd ++ 10 :: body) W hlen)
  rw [pcs_cut body hf, hz.pc] at HLI
  have hsz : ¬ (4000 : Int) < ((S (hd ++ 10 :: body)).size : Int) := by rw [S_size]; omega
  have hpl : (pcs body).length ≤ body.length + 1 := pcs_len body
  rw [hz.pc] at hpl
  have hLL : L.length ≤ 4000 := by simp at hpl; omega
  have hx4 : ∀ x ∈ L ++ [z], x.length ≤ 4000 := fun x hx => by
    rw [← hz.pc] at hx
    have := pcs_mem_len body x hx
    omega
  have HX4 := Lib.hid hx4
  have HZ := Lib.hid hz
  have HHD := Lib.hid (show hd.length ≤ 4000 by omega)
  have HNL := Lib.hid hz.len
  clear hrn hz hlen hpl hf hs hx4 hn
  generalize S (hd ++ 10 :: body) = t0 at *
  go_enter Tryz.func23, Tryz.ntmps23
  go_wp2_with fail
  have hb0 := (Below.refl w.heap.size w).alloc (Nat.le_refl _) (.cells #[.string ⟨#[]⟩, .int .i64 0, .int .i64 0, .int .i64 0, .slice none 0 0] 24)
  have hr0 := Row.new w #[.string ⟨#[]⟩, .int .i64 0, .int .i64 0, .int .i64 0, .slice none 0 0] 24
  generalize w.alloc (.cells #[.string ⟨#[]⟩, .int .i64 0, .int .i64 0, .int .i64 0, .slice none 0 0] 24) = W0 at *
  refine (HIN.out _).mono ?_
  rintro e w' ⟨rfl, rfl⟩
  go_wp2_with fail
  refine (HLI.out _).mono ?_
  rintro e w1 ⟨vl, rfl, hown, hb1⟩
  have HQ := Lib.hid (⟨hb0.trans (hb1.mono hb0.size), hr0.under hb1, Below.refl _ _⟩ : Q4 w w1 w1)
  have HW1 := Lib.hid (show w.heap.size < w1.heap.size from Nat.lt_of_lt_of_le hr0.lt hb1.size)
  obtain ⟨gl, cap, rfl, h1, h2, -, hgl, hcs⟩ := str_cells hown (by simp)
  have HCS := Lib.hid hcs
  have HGL := Lib.hid hgl
  have c0 : w1.cell? ⟨gl, 0, none⟩ = some (.string (S hd)) := hcs 0 (by simp)
  obtain ⟨np, hnp⟩ : ∃ np, (hd :: (L ++ [z])).length = np := ⟨_, rfl⟩
  have hnp2 : np = L.length + 2 := by rw [← hnp]; simp
  rw [hnp] at h1 ⊢
  have HNP := Lib.hid hnp
  have n0 : (0 : Int) < (np : Int) := by omega
  have n1 : ¬ ((np : Int) = 1) := by omega
  have n1b : ((np : Int) == 1) = false := beq_eq_false_iff_ne.2 n1
  have HP2 := Lib.hid hnp2
  have i3 : np ≤ 4002 := by omega
  clear hown hb1 hb0 hr0 HLI HIN hcs hgl hnp hnp2
  go_wp2_with fail
  refine (refRead_any hd near _ HHD.out).mono ?_
  rintro e w2 (⟨c, t, cor, del, hH, rfl, b2⟩ | ⟨hno, ⟨c', t', x', y', rfl⟩, b2⟩)
  case inr =>
    have HNO := Lib.hid hno; clear hno
    go_upto_region 7 with fail
    refine forget (fun Y => Q4 w w1 Y) ((HQ.out.under b2).under ((Below.refl _ _).alloc (Nat.le_refl _) _)) ?_
    clear HQ b2 c0
    rintro Y M
    have f0 := M.r4.thaw 0
    have f1 := M.r4.thaw 1
    have f2 := M.r4.thaw 2
    have f3 := M.r4.thaw 3
    have f4 := M.r4.thaw 4
    obtain ⟨q0, q1, q2, q3, q4⟩ := row5 M.r4
    have HM4 := Lib.hid M
    clear M
    go_wp2_with fail
    clear f0 f1 f2 f3 f4 q0 q1 q2 q3 q4
    have HZ5 := Lib.hid (set5_row (.string ⟨#[]⟩) (.int .i64 0) (.int .i64 0) (.int .i64 0) (.slice none 0 0) HM4.out.r4)
    have HF := Lib.hid (set5_below (u0 := .string ⟨#[]⟩) (u1 := .int .i64 0) (u2 := .int .i64 0) (u3 := .int .i64 0) (u4 := .slice none 0 0) HM4.out.below (Nat.le_refl _))
    exact bodyPost_ret (v := .tuple #[zBul, .slice none 0 0, .int .i64 3]) (by obtain ⟨z0, z1, z2, z3, z4⟩ := row5 HZ5.out; simp [results, Tryz.results23, z0, z1, z2, z3, z4, go_sem]) rfl (HPP.out _ _ (.inr (.inl ⟨HNO.out, rfl, HF.out⟩)))
  have HH := Lib.hid hH
  have HT := Lib.hid (hdr_time hH); clear hH
  go_upto_region 7 with fail
  have hq2 := (HQ.out.under b2).under ((Below.refl w2.heap.size w2).alloc (Nat.le_refl _) (.cells (bulC (S c) t cor del (.slice none 0 0)) 24))
  have hj0 : J4 w w1 body (S c) t cor del w2.heap.size 0 [] [] (.slice none 0 0) (.slice none 0 0) (w2.alloc (.cells (bulC (S c) t cor del (.slice none 0 0)) 24)) :=
    ⟨hq2, ⟨Row.new _ _ _, World.ownsRow_nil _ _ _ _, World.ownsRow_nil _ _ _ _, fun r hr => absurd hr List.not_mem_nil, fun r hr => absurd hr List.not_mem_nil, b2.size⟩, by simp [goods], by simp [bads], Nat.le_refl _, Nat.le_refl _⟩
  refine forget (fun Y => J4 w w1 body (S c) t cor del w2.heap.size 0 [] [] (.slice none 0 0) (.slice none 0 0) Y) hj0 ?_
  clear HQ b2 c0 hq2 hj0
  generalize w2.heap.size = g8 at *
  rintro Y M
  have HM := Lib.hid M; clear M
  obtain ⟨N, hN⟩ : ∃ N, (lns body).length = N := ⟨_, rfl⟩
  rw [hN] at HNL
  have HN := Lib.hid hN; clear hN
  have cz : Y.cell? ⟨gl, np - 1, none⟩ = some (.string (S z)) := by
    have h := HCS.out (L.length + 1) (by simp)
    simp only [List.getElem_cons_succ, List.getElem_append_right (Nat.le_refl _), Nat.sub_self, List.getElem_cons_zero] at h
    rw [show np - 1 = L.length + 1 by have := HP2.out; omega]
    exact (HM.out.q4.low.cell (p := ⟨gl, L.length + 1, none⟩) HGL.out).trans h
  have i0 : (0 : Int) ≤ (np : Int) - 1 := by have := HP2.out; omega
  have i1 : (np : Int) - 1 < (np : Int) := by omega
  have i2 : ((np : Int) - 1).toNat = np - 1 := by omega
  go_upto_region 9 with fail
  go_upto_if 51 with fail
  generalize hbz : (!(S z).toList.isEmpty) = bz at *
  have HBZ := Lib.hid hbz; clear hbz
  go_cut [10] from 51 to 53 (fun u X => u = .int .i64 (N : Int) ∧ X = Y)
  case first =>
    cases bz
    · have hz0 : z = [] := by have := HBZ.out; rw [S_tl] at this; simpa using this
      have hv := HNL.out
      rw [if_pos hz0] at hv
      have HV := Lib.hid hv; clear hv hz0
      go_wp2_with fail
      go_meet
      exact ⟨by congr 1; have := HV.out; have := HP2.out; omega, rfl⟩
    · have hz0 : ¬ z = [] := by intro e; have := HBZ.out; rw [S_tl, e] at this; cases this
      have hv := HNL.out
      rw [if_neg hz0] at hv
      have HV := Lib.hid hv; clear hv hz0
      go_wp2_with fail
      go_meet
      exact ⟨by congr 1; have := HV.out; have := HP2.out; omega, rfl⟩
  case rest =>
    obtain ⟨rfl, rfl⟩ := hcut
    clear cz i0 i1 i2
    by_cases h60 : 60 < N
    case pos =>
      have n60 : (60 : Int) < (N : Int) := by omega
      have M := HM.out.q4
      have HMN := Lib.hid (show 60 < (lns body).length by have := HN.out; omega)
      clear HM
      have f0 := M.r4.thaw 0
      have f1 := M.r4.thaw 1
      have f2 := M.r4.thaw 2
      have f3 := M.r4.thaw 3
      have f4 := M.r4.thaw 4
      obtain ⟨q0, q1, q2, q3, q4⟩ := row5 M.r4
      have HM4 := Lib.hid M
      clear M
      go_wp2_with fail
      clear f0 f1 f2 f3 f4 q0 q1 q2 q3 q4
      have HZ5 := Lib.hid (set5_row (.string ⟨#[]⟩) (.int .i64 0) (.int .i64 0) (.int .i64 0) (.slice none 0 0) HM4.out.r4)
      have HF := Lib.hid (set5_below (u0 := .string ⟨#[]⟩) (u1 := .int .i64 0) (u2 := .int .i64 0) (u3 := .int .i64 0) (u4 := .slice none 0 0) HM4.out.below (Nat.le_refl _))
      exact bodyPost_ret (v := .tuple #[zBul, .slice none 0 0, .int .i64 2]) (by obtain ⟨z0, z1, z2, z3, z4⟩ := row5 HZ5.out; simp [results, Tryz.results23, z0, z1, z2, z3, z4, go_sem]) rfl (HPP.out _ _ (.inr (.inr ⟨HMN.out, ⟨c, t, cor, del, HH.out⟩, rfl, HF.out⟩)))
    have n60 : ¬ (60 : Int) < (N : Int) := by omega
    have HN6 := Lib.hid (show (lns body).length ≤ 60 by have := HN.out; omega)
    go_wp2_with fail
    go_loopw [11, 12] (fun vd v12 wr => ∃ (j : Nat) (R : List Rp) (dm : List Int) (vr : Value), j ≤ N ∧ v12 = .int .i64 ((j : Int) + 1) ∧ Hid (J4 w w1 body (S c) t cor del g8 j R dm vr vd wr)) (fun _ v12 _ => N + 1 - (intOf v12).toNat)
    case atStart => exact ⟨0, [], [], _, Nat.zero_le _, rfl, HM⟩
    case round =>
      clear HM
      obtain ⟨j, R, dm, vr, hj, rfl, HM⟩ := hrel
      by_cases hlt : j < N
      · have j1 : (j : Int) + 1 ≤ (N : Int) := by omega
        have hjp : j < (L ++ [z]).length := by have := HNL.out; simp only [List.length_append, List.length_singleton]; split at this <;> omega
        have cj : wr.cell? ⟨gl, j + 1, none⟩ = some (.string (S (L ++ [z])[j])) := by
          have h := HCS.out (j + 1) (by simpa using hjp)
          rw [List.getElem_cons_succ] at h
          exact (HM.out.q4.low.cell (p := ⟨gl, j + 1, none⟩) HGL.out).trans h
        have k0 : (0 : Int) ≤ (j : Int) + 1 := by omega
        have k1 : (j : Int) + 1 < (np : Int) := by have := HP2.out; simp only [List.length_append, List.length_singleton] at hjp; omega
        have k2 : ((j : Int) + 1).toNat = j + 1 := by omega
        have hjl : j < (lns body).length := by have := HN.out; omega
        have HTK := Lib.hid (nums_take 1 (lns body) j hjl)
        have hstr : (L ++ [z])[j].length ≤ 4000 := HX4.out _ (List.getElem_mem hjp)
        obtain ⟨i0, hi, hz0, hz1, hz2⟩ := info_parts infoIntB
        by_cases htn : j = L.length
        · have HBD : Hid (rdl t (lns body)[j] = none) := Lib.hid (by subst htn; rw [HZ.out.two hjl]; exact line_torn HZ.out.fz t)
          have x1 : (j : Int) + 1 = (np : Int) - 1 := by have := HP2.out; omega
          have x2 : ((j : Int) + 1 == (np : Int) - 1) = true := beq_iff_eq.2 x1
          clear x1 htn
          generalize (L ++ [z])[j] = str at *
          have HA := Lib.hid ((HM.out.under ((Below.refl wr.heap.size wr).alloc (Nat.le_refl _) (.cells #[.int .i64 ((j : Int) + 1)] 3))).bs.nums)
          go_wp2_with (at_builtin; refine wpList_append_lies _ rfl (.tmp 83) (.tmp 85) 25 rfl w1.heap.size 3 i0 _ 1 8 Tryz.underlying25 hi hz0 hz1 hz2 rfl (by decide) _ dm.length (dm.map (Value.int .i64)) rfl HA.out ⟨wr.heap.size, 0, none⟩ 1 1 [.int .i64 ((j : Int) + 1)] rfl rfl (World.news_of_block (cs := #[.int .i64 ((j : Int) + 1)]) (t := 3) (fr := (0, 0)) (heap_alloc_new wr _)) (by simp [Value.oneCell']) (by omega) (by have := HM.out.ld; unfold maxLen; omega) (by have := HM.out.ld; omega) (by have := HM.out.q4.low.size; simp; omega) _ rfl ?_; intro g' cap' w6 hown6 hgrow6 hat6 hlt6; have H6 := Lib.hid (HM.out.bs.damaged hown6 hgrow6 (hat6.imp (fun e => e.symm) (fun e => congrArg some e))); clear hown6 hgrow6 hat6 hlt6 HA)
          have HJ : Hid (J4 w w1 body (S c) t cor del g8 (j + 1) R (dm ++ [((j : Int) + 1)]) vr (.slice (some ⟨g', 0, none⟩) (dm.length + 1) cap') w6) := Lib.hid (by
            obtain ⟨e1, e2⟩ := goods_no (xs := (nums 1 (lns body)).take j) (x := (1 + j, (lns body)[j])) HBD.out
            refine ⟨HM.out.q4.low2 H6.out.2 HW1.out, H6.out.1, ?_, ?_, Nat.le_succ_of_le HM.out.lr, by simp; exact HM.out.ld⟩
            · rw [HTK.out, e1]; exact HM.out.goo
            · rw [HTK.out, e2, ← HM.out.bad]; congr 2; omega)
          clear HM H6 HBD
          go_wp2_with fail
          go_roundw
          case rel => exact ⟨j + 1, R, _, vr, by omega, by go_num, HJ⟩
          case measure => simp [intOf]; omega
        have hjL : j < L.length := by simp only [List.length_append, List.length_singleton] at hjp; omega
        have HLN : Hid ((lns body)[j] = (L ++ [z])[j] ++ [10]) := Lib.hid (by rw [HZ.out.one hjL hjl, List.getElem_append_left hjL])
        have x1 : ¬ (j : Int) + 1 = (np : Int) - 1 := by have := HP2.out; omega
        have x2 : ((j : Int) + 1 == (np : Int) - 1) = false := beq_eq_false_iff_ne.2 x1
        clear htn
        generalize (L ++ [z])[j] = str at *
        by_cases hst : str = []
        · have HBD : Hid (rdl t (lns body)[j] = none) := Lib.hid (by rw [HLN.out, hst]; exact line_no (fun y e => by have := congrArg List.length e; simp at this) t)
          have e1 : (S str).toList = [] := by rw [S_tl]; exact hst
          have e2 : (S str).toList.isEmpty = true := by rw [e1]; rfl
          have e3 : ((S str).toList == []) = true := by rw [e1]; rfl
          clear hst
          have HA := Lib.hid ((HM.out.under ((Below.refl wr.heap.size wr).alloc (Nat.le_refl _) (.cells #[.int .i64 ((j : Int) + 1)] 3))).bs.nums)
          go_wp2_with (at_builtin; refine wpList_append_lies _ rfl (.tmp 83) (.tmp 85) 25 rfl w1.heap.size 3 i0 _ 1 8 Tryz.underlying25 hi hz0 hz1 hz2 rfl (by decide) _ dm.length (dm.map (Value.int .i64)) rfl HA.out ⟨wr.heap.size, 0, none⟩ 1 1 [.int .i64 ((j : Int) + 1)] rfl rfl (World.news_of_block (cs := #[.int .i64 ((j : Int) + 1)]) (t := 3) (fr := (0, 0)) (heap_alloc_new wr _)) (by simp [Value.oneCell']) (by omega) (by have := HM.out.ld; unfold maxLen; omega) (by have := HM.out.ld; omega) (by have := HM.out.q4.low.size; simp; omega) _ rfl ?_; intro g' cap' w6 hown6 hgrow6 hat6 hlt6; have H6 := Lib.hid (HM.out.bs.damaged hown6 hgrow6 (hat6.imp (fun e => e.symm) (fun e => congrArg some e))); clear hown6 hgrow6 hat6 hlt6 HA)
          have HJ : Hid (J4 w w1 body (S c) t cor del g8 (j + 1) R (dm ++ [((j : Int) + 1)]) vr (.slice (some ⟨g', 0, none⟩) (dm.length + 1) cap') w6) := Lib.hid (by
            obtain ⟨e1, e2⟩ := goods_no (xs := (nums 1 (lns body)).take j) (x := (1 + j, (lns body)[j])) HBD.out
            refine ⟨HM.out.q4.low2 H6.out.2 HW1.out, H6.out.1, ?_, ?_, Nat.le_succ_of_le HM.out.lr, by simp; exact HM.out.ld⟩
            · rw [HTK.out, e1]; exact HM.out.goo
            · rw [HTK.out, e2, ← HM.out.bad]; congr 2; omega)
          clear HM H6 HBD
          go_wp2_with fail
          go_roundw
          case rel => exact ⟨j + 1, R, _, vr, by omega, by go_num, HJ⟩
          case measure => simp [intOf]; omega
        have e1 : ¬ (S str).toList = [] := by rw [S_tl]; exact hst
        have e2 : (S str).toList.isEmpty = false := by rw [S_tl]; simpa using hst
        have e3 : ((S str).toList == []) = false := beq_eq_false_iff_ne.2 e1
        obtain ⟨x, lb, rfl⟩ : ∃ x lb, str = x ++ [lb] := ⟨str.dropLast, str.getLast hst, (List.dropLast_concat_getLast hst).symm⟩
        have hsx : (S (x ++ [lb])).size = x.length + 1 := by rw [S_size]; simp
        have m0 : ((S (x ++ [lb])).size : Int) - 1 = (x.length : Int) := by rw [hsx]; omega
        have m1 : IntKind.i64.wrap (((S (x ++ [lb])).size : Int) - 1) = (x.length : Int) := by rw [m0]; exact IntWalk.i64_in _ (by simp at hstr; omega)
        have m2 : (0 : Int) ≤ (x.length : Int) := by omega
        have m3 : (x.length : Int) < ((S (x ++ [lb])).size : Int) := by rw [hsx]; omega
        have m4 : x.length < (S (x ++ [lb])).size := by rw [hsx]; omega
        have m5 : (x.length : Int) ≤ ((S (x ++ [lb])).size : Int) := by omega
        have m6 : x.length ≤ (S (x ++ [lb])).size := by omega
        have hlb : (S (x ++ [lb]))[x.length] = lb := by
          have h : (x ++ [lb])[x.length]? = some lb := by simp
          have h' : (x ++ [lb])[x.length]? = some ((S (x ++ [lb]))[x.length]) := by rw [List.getElem?_eq_getElem (by simp)]; rfl
          rw [h] at h'; exact (Option.some.inj h').symm
        have E : Hid ((S (x ++ [lb])).extract 0 x.length = S x) := Lib.hid (by rw [S_extract]; simp)
        have hxl : x.length ≤ 4000 := by simp at hstr; omega
        generalize hq : S (x ++ [lb]) = q at *
        have HQQ := Lib.hid hq; clear hq hst hsx hstr
        by_cases h61 : lb = 61
        case neg =>
          have HBD : Hid (rdl t (lns body)[j] = none) := Lib.hid (by rw [HLN.out]; exact line_no (fun y e => h61 (by have := List.append_inj' e rfl; simpa using this.2)) t)
          have y1 : ((q[x.length].toNat : Int) == 61) = false := beq_eq_false_iff_ne.2 (fun e => h61 (by rw [hlb] at e; exact UInt8.toNat_inj.1 (by rw [show (61 : UInt8).toNat = 61 from rfl]; omega)))
          have y2 : ¬ (q[x.length].toNat : Int) = 61 := of_decide_eq_false (by simpa using y1)
          clear h61 hlb m0
          have HA := Lib.hid ((HM.out.under ((Below.refl wr.heap.size wr).alloc (Nat.le_refl _) (.cells #[.int .i64 ((j : Int) + 1)] 3))).bs.nums)
          go_wp2_with (at_builtin; refine wpList_append_lies _ rfl (.tmp 83) (.tmp 85) 25 rfl w1.heap.size 3 i0 _ 1 8 Tryz.underlying25 hi hz0 hz1 hz2 rfl (by decide) _ dm.length (dm.map (Value.int .i64)) rfl HA.out ⟨wr.heap.size, 0, none⟩ 1 1 [.int .i64 ((j : Int) + 1)] rfl rfl (World.news_of_block (cs := #[.int .i64 ((j : Int) + 1)]) (t := 3) (fr := (0, 0)) (heap_alloc_new wr _)) (by simp [Value.oneCell']) (by omega) (by have := HM.out.ld; unfold maxLen; omega) (by have := HM.out.ld; omega) (by have := HM.out.q4.low.size; simp; omega) _ rfl ?_; intro g' cap' w6 hown6 hgrow6 hat6 hlt6; have H6 := Lib.hid (HM.out.bs.damaged hown6 hgrow6 (hat6.imp (fun e => e.symm) (fun e => congrArg some e))); clear hown6 hgrow6 hat6 hlt6 HA)
          have HJ : Hid (J4 w w1 body (S c) t cor del g8 (j + 1) R (dm ++ [((j : Int) + 1)]) vr (.slice (some ⟨g', 0, none⟩) (dm.length + 1) cap') w6) := Lib.hid (by
            obtain ⟨e1, e2⟩ := goods_no (xs := (nums 1 (lns body)).take j) (x := (1 + j, (lns body)[j])) HBD.out
            refine ⟨HM.out.q4.low2 H6.out.2 HW1.out, H6.out.1, ?_, ?_, Nat.le_succ_of_le HM.out.lr, by simp; exact HM.out.ld⟩
            · rw [HTK.out, e1]; exact HM.out.goo
            · rw [HTK.out, e2, ← HM.out.bad]; congr 2; omega)
          clear HM H6 HBD
          go_wp2_with fail
          go_roundw
          case rel => exact ⟨j + 1, R, _, vr, by omega, by go_num, HJ⟩
          case measure => simp [intOf]; omega
        subst h61
        have y1 : ((q[x.length].toNat : Int) == 61) = true := by rw [hlb]; rfl
        have y2 : (q[x.length].toNat : Int) = 61 := by rw [hlb]; rfl
        clear hlb m0
        have HPB := Lib.hid (fun W => refParse_any x t W HT.out (by omega))
        go_upto_region 21 with fail
        go_cut [14, 15] from 88 to 97 (fun p e X => ∃ (gx : Nat) (k : Int) (nm : List UInt8) (t' F A B C : Int) (Lr : List El.Elt.R) (Au : Option Addr) (n cu : Nat) (er : Int), p = .pointer (some ⟨gx, 0, none⟩) ∧ e = .int .i64 er ∧ Hid (Row X gx 53 (repC k (S nm) t' F A B C (.slice Au n cu)) ∧ El.RdIn X (.slice Au n cu) Lr ∧ (Lr ≠ [] → ∀ i, (Value.slice Au n cu).ownBlock = some i → w1.heap.size ≤ i ∧ i ≠ g8 ∧ vr.ownBlock ≠ some i ∧ «u11».ownBlock ≠ some i) ∧ J4 w w1 body (S c) t cor del g8 j R dm vr «u11» X ∧ ((er = 0 ∧ Psd x t k nm t' F A B C Lr) ∨ (er = 3 ∧ ∀ k nm t' F A B C Lr, ¬ Psd x t k nm t' F A B C Lr))))
        case first =>
          refine wp_region_held_drew (S := fun Y : World => Y.cell? ⟨g8, 1, none⟩ = some (.int .i64 t)) (by kernel_rfl) ((HM.out.bs.bul.cell 1).trans rfl) (fun hS => ?_)
          have HX : Hid (J4 w w1 body (S c) t cor del g8 j R dm vr «u11» wr.drew) := Lib.hid (HM.out.under (below_drewN (Below.refl _ _) 1))
          clear HM cj
          generalize wr.drew = X at *
          refine wpAnyH_take (i := 0) (oi := ⟨some 88, _, _, _, _, none⟩) (v := ?_) rfl (by kernel_rfl) (by kernel_rfl) (by kernel_rfl) (fun _ _ _ h => h) (Or.inl ⟨by rfl, ?_⟩) (by assumption) ?_
          case refine_2 => (intro wx hSx; (try dsimp only at hSx); go_simp; first | done | with_reducible rfl)
          try simp only [Act.put, List.setIfInBounds_toArray, List.set_cons_zero, List.set_cons_succ]
          refine wpAnyH_take (i := 1) (oi := ⟨some 89, _, _, _, _, none⟩) (v := ?_) rfl (by kernel_rfl) (by kernel_rfl) (by kernel_rfl) (fun _ _ _ h => h) (Or.inl ⟨by rfl, ?_⟩) (by assumption) ?_
          case refine_2 => (intro wx hSx; (try dsimp only at hSx); go_simp; first | done | with_reducible rfl)
          try simp only [Act.put, List.setIfInBounds_toArray, List.set_cons_zero, List.set_cons_succ]
          refine wpAnyH_take (i := 2) (oi := ⟨some 90, _, _, _, _, none⟩) (v := ?_) rfl (by kernel_rfl) (by kernel_rfl) (by kernel_rfl) (fun _ _ _ h => h) (Or.inl ⟨by rfl, ?_⟩) (by assumption) ?_
          case refine_2 => (intro wx hSx; (try dsimp only at hSx); go_simp; first | done | with_reducible rfl)
          try simp only [Act.put, List.setIfInBounds_toArray, List.set_cons_zero, List.set_cons_succ]
          refine wpAnyH_take (i := 3) (oi := ⟨some 91, _, _, _, _, none⟩) (v := ?_) rfl (by kernel_rfl) (by kernel_rfl) (by kernel_rfl) (fun _ _ _ h => h) (Or.inl ⟨by rfl, ?_⟩) (by assumption) ?_
          case refine_2 => (intro wx hSx; (try dsimp only at hSx); go_simp; first | done | with_reducible rfl)
          try simp only [Act.put, List.setIfInBounds_toArray, List.set_cons_zero, List.set_cons_succ]
          refine wpAnyH_take (i := 4) (oi := ⟨some 92, _, _, _, _, none⟩) (v := ?_) rfl (by kernel_rfl) (by kernel_rfl) (by kernel_rfl) (fun _ _ _ h => h) (Or.inl ⟨by rfl, ?_⟩) (by assumption) ?_
          case refine_2 => (intro wx hSx; (try dsimp only at hSx); go_simp; first | done | with_reducible rfl)
          try simp only [Act.put, List.setIfInBounds_toArray, List.set_cons_zero, List.set_cons_succ]
          refine wpAnyH_take (i := 5) (oi := ⟨some 93, _, _, _, _, none⟩) (v := ?_) rfl (by kernel_rfl) (by kernel_rfl) (by kernel_rfl) (fun _ _ _ h => h) (Or.inl ⟨by rfl, ?_⟩) (by assumption) ?_
          case refine_2 => (intro wx hSx; (try dsimp only at hSx); go_simp; first | done | with_reducible rfl)
          try simp only [Act.put, List.setIfInBounds_toArray, List.set_cons_zero, List.set_cons_succ]
          refine wpAnyH_take (i := 6) (oi := ⟨some 94, _, _, _, _, none⟩) (v := ?_) rfl (by kernel_rfl) (by kernel_rfl) (by kernel_rfl) (fun _ _ _ h => h) (Or.inl ⟨by rfl, ?_⟩) (by assumption) ?_
          case refine_2 => (intro wx hSx; (try dsimp only at hSx); go_simp; first | done | with_reducible rfl)
          try simp only [Act.put, List.setIfInBounds_toArray, List.set_cons_zero, List.set_cons_succ]
          rw [E.out]
          refine wpAnyH_ready (rs := [7, 11]) (by kernel_rfl) (by simp) ?_
          refine AllReadyH.cons (o := ⟨some 95, _, _, _, _, none⟩) rfl (fun K hK => ?_) (AllReadyH.cons (o := ⟨some 14, _, _, _, _, none⟩) rfl (fun K hK => ?_) AllReadyH.nil)
          · go_simp
            refine (HPB.out X).mono ?_
            rintro e X1 hR
            obtain ⟨k', nm, t', F, A, B, C, Lr, Au, n, cu, er, rfl, hrd, hb, hnew, her⟩ := rfo_one hR
            have HER := Lib.hid her
            have HNEW := Lib.hid hnew
            have HB1 := Lib.hid hb
            have HR1 := Lib.hid hrd
            clear hR hrd hb hnew her hS HPB
            go_wp2_with fail
            have hj1 := HX.out.under HB1.out
            refine hK.out _ _ ((hj1.bs.bul.cell 1).trans rfl) (fun _ => ?_)
            clear hK K
            ((try simp only [Act.put]); (try simp only [List.setIfInBounds_toArray]); (try simp only [List.set_cons_succ]); (try simp only [List.set_cons_zero]))
            have hS : X1.cell? ⟨g8, 1, none⟩ = some (.int .i64 t) := (hj1.bs.bul.cell 1).trans rfl
            refine wpAnyH_take (i := 8) (oi := ⟨some 87, _, _, _, _, none⟩) (v := ?_) rfl (by kernel_rfl) (by kernel_rfl) (by kernel_rfl) (fun _ _ _ h => h) (Or.inl ⟨by rfl, ?_⟩) (by assumption) ?_
            case refine_2 => (intro wx hSx; (try dsimp only at hSx); go_simp; first | done | with_reducible rfl)
            try simp only [Act.put, List.setIfInBounds_toArray, List.set_cons_zero, List.set_cons_succ]
            refine wpAnyH_take (i := 9) (oi := ⟨some 96, _, _, _, _, none⟩) (v := ?_) rfl (by kernel_rfl) (by kernel_rfl) (by kernel_rfl) (fun _ _ _ h => h) (Or.inl ⟨by rfl, ?_⟩) (by assumption) ?_
            case refine_2 => (intro wx hSx; (try dsimp only at hSx); go_simp; first | done | with_reducible rfl)
            try simp only [Act.put, List.setIfInBounds_toArray, List.set_cons_zero, List.set_cons_succ]
            refine wpAnyH_take (i := 10) (oi := ⟨some 97, _, _, _, _, none⟩) (v := ?_) rfl (by kernel_rfl) (by kernel_rfl) (by kernel_rfl) (fun _ _ _ h => h) (Or.inl ⟨by rfl, ?_⟩) (by assumption) ?_
            case refine_2 => (intro wx hSx; (try dsimp only at hSx); go_simp; first | done | with_reducible rfl)
            try simp only [Act.put, List.setIfInBounds_toArray, List.set_cons_zero, List.set_cons_succ]
            refine wpAnyH_ready (rs := [11]) (by kernel_rfl) (by simp) ?_
            refine AllReadyH.cons (o := ⟨some 14, _, _, _, _, none⟩) rfl (fun K hK => ?_) AllReadyH.nil
            go_simp
            have hb7 : Below X1.heap.size X1 (X1.alloc (.cells #[.int .i64 0, .string ⟨#[]⟩, .int .i64 0, .int .i64 0, .int .i64 0, .int .i64 0, .int .i64 0, .slice none 0 0] 53)) := (Below.refl _ _).alloc (Nat.le_refl _) _
            have HK5 := Lib.hid (⟨Row.new X1 #[.int .i64 0, .string ⟨#[]⟩, .int .i64 0, .int .i64 0, .int .i64 0, .int .i64 0, .int .i64 0, .slice none 0 0] 53, HR1.out.under hb7, fun hL i hi => Nat.ne_of_lt (rdIn_block HR1.out hL hi).1, HB1.out.trans (hb7.mono HB1.out.size), HB1.out.size⟩ : (fun (gx : Nat) => Row (X1.alloc (.cells #[.int .i64 0, .string ⟨#[]⟩, .int .i64 0, .int .i64 0, .int .i64 0, .int .i64 0, .int .i64 0, .slice none 0 0] 53)) gx 53 #[.int .i64 0, .string ⟨#[]⟩, .int .i64 0, .int .i64 0, .int .i64 0, .int .i64 0, .int .i64 0, .slice none 0 0] ∧ El.RdIn (X1.alloc (.cells #[.int .i64 0, .string ⟨#[]⟩, .int .i64 0, .int .i64 0, .int .i64 0, .int .i64 0, .int .i64 0, .slice none 0 0] 53)) (.slice Au n cu) Lr ∧ (Lr ≠ [] → ∀ i, (Value.slice Au n cu).ownBlock = some i → i ≠ gx) ∧ Below X.heap.size X (X1.alloc (.cells #[.int .i64 0, .string ⟨#[]⟩, .int .i64 0, .int .i64 0, .int .i64 0, .int .i64 0, .int .i64 0, .slice none 0 0] 53)) ∧ X.heap.size ≤ gx) X1.heap.size)
            refine hK.out _ _ (((hj1.under hb7).bs.bul.cell 1).trans rfl) (fun _ => ?_)
            clear hK K hS hj1 hb7
            ((try simp only [Act.put]); (try simp only [List.setIfInBounds_toArray]); (try simp only [List.set_cons_succ]); (try simp only [List.set_cons_zero]))
            generalize X1.heap.size = gx at HK5 ⊢
            refine El.genH (fun X2 => Row X2 gx 53 #[.int .i64 0, .string ⟨#[]⟩, .int .i64 0, .int .i64 0, .int .i64 0, .int .i64 0, .int .i64 0, .slice none 0 0] ∧ El.RdIn X2 (.slice Au n cu) Lr ∧ (Lr ≠ [] → ∀ i, (Value.slice Au n cu).ownBlock = some i → i ≠ gx) ∧ Below X.heap.size X X2 ∧ X.heap.size ≤ gx) HK5.out ?_
            clear HK5
            rintro X2 HK5
            have HK5 := Lib.hid HK5
            have hS : X2.cell? ⟨g8, 1, none⟩ = some (.int .i64 t) := ((HX.out.under HK5.out.2.2.2.1).bs.bul.cell 1).trans rfl
            have f0 := HK5.out.1.thaw 0
            have f1 := HK5.out.1.thaw 1
            have f2 := HK5.out.1.thaw 2
            have f3 := HK5.out.1.thaw 3
            have f4 := HK5.out.1.thaw 4
            have f5 := HK5.out.1.thaw 5
            have f6 := HK5.out.1.thaw 6
            have f7 := HK5.out.1.thaw 7
            obtain ⟨p0, p1, p2, p3, p4, p5, p6, p7⟩ := row8 HK5.out.1
            refine wpAnyH_ready (rs := [12]) (by kernel_rfl) (by simp) ?_
            refine AllReadyH.cons (o := ⟨none, _, _, _, _, none⟩) rfl (fun K hK => ?_) AllReadyH.nil
            go_simp
            clear f0 f1 f2 f3 f4 f5 f6 f7 p0 p1 p2 p3 p4 p5 p6 p7
            have HBEL := Lib.hid (set8_below (u0 := .int .i64 k') (u1 := .string (S nm)) (u2 := .int .i64 t') (u3 := .int .i64 F) (u4 := .int .i64 A) (u5 := .int .i64 B) (u6 := .int .i64 C) (u7 := .slice Au n cu) HK5.out.2.2.2.1 HK5.out.2.2.2.2)
            have HJ := Lib.hid (HX.out.under HBEL.out)
            refine hK.out _ _ ((HJ.out.bs.bul.cell 1).trans rfl) (fun _ => ?_)
            clear hK K hS
            ((try simp only [Act.put]); (try simp only [List.setIfInBounds_toArray]); (try simp only [List.set_cons_succ]); (try simp only [List.set_cons_zero]))
            refine El.genH (fun Xf => Row Xf gx 53 (repC k' (S nm) t' F A B C (.slice Au n cu)) ∧ El.RdIn Xf (.slice Au n cu) Lr ∧ J4 w w1 body (S c) t cor del g8 j R dm vr «u11» Xf) ⟨set8_row (.int .i64 k') (.string (S nm)) (.int .i64 t') (.int .i64 F) (.int .i64 A) (.int .i64 B) (.int .i64 C) (.slice Au n cu) HK5.out.1, rdIn_set9 HK5.out.2.1 HK5.out.2.2.1 (.int .i64 k') (.string (S nm)) (.int .i64 t') (.int .i64 F) (.int .i64 A) (.int .i64 B) (.int .i64 C) (.slice Au n cu), HJ.out⟩ ?_
            clear HBEL HJ HK5
            rintro X9 HU9
            have HU9 := Lib.hid HU9
            have hS : X9.cell? ⟨g8, 1, none⟩ = some (.int .i64 t) := (HU9.out.2.2.bs.bul.cell 1).trans rfl
            refine wpAnyH_take (i := 13) (oi := ⟨some 15, _, _, _, _, none⟩) (v := ?_) rfl (by kernel_rfl) (by kernel_rfl) (by kernel_rfl) (fun _ _ _ h => h) (Or.inl ⟨by rfl, ?_⟩) (by assumption) ?_
            case refine_2 => (intro wx hSx; (try dsimp only at hSx); go_simp; first | done | with_reducible rfl)
            try simp only [Act.put, List.setIfInBounds_toArray, List.set_cons_zero, List.set_cons_succ]
            refine wpAnyH_done (by kernel_rfl) ?_ _
            clear hS
            go_wp2_with fail
            go_meet
            exact ⟨gx, k', nm, t', F, A, B, C, Lr, Au, n, cu, er, rfl, rfl, Lib.hid ⟨HU9.out.1, HU9.out.2.1, fun _ i hi => HX.out.bs.far (HNEW.out i hi), HU9.out.2.2, HER.out⟩⟩
          · have hb7 : Below X.heap.size X (X.alloc (.cells #[.int .i64 0, .string ⟨#[]⟩, .int .i64 0, .int .i64 0, .int .i64 0, .int .i64 0, .int .i64 0, .slice none 0 0] 53)) := (Below.refl _ _).alloc (Nat.le_refl _) _
            have hbx0 := Row.new X #[.int .i64 0, .string ⟨#[]⟩, .int .i64 0, .int .i64 0, .int .i64 0, .int .i64 0, .int .i64 0, .slice none 0 0] 53
            go_simp
            refine hK.out _ _ (((HX.out.under hb7).bs.bul.cell 1).trans rfl) (fun _ => ?_)
            clear hK K hS
            ((try simp only [Act.put]); (try simp only [List.setIfInBounds_toArray]); (try simp only [List.set_cons_succ]); (try simp only [List.set_cons_zero]))
            have HK0 := Lib.hid (⟨hbx0, hb7, by simp, Nat.le_refl _⟩ : (fun (gx : Nat) => Row (X.alloc (.cells #[.int .i64 0, .string ⟨#[]⟩, .int .i64 0, .int .i64 0, .int .i64 0, .int .i64 0, .int .i64 0, .slice none 0 0] 53)) gx 53 #[.int .i64 0, .string ⟨#[]⟩, .int .i64 0, .int .i64 0, .int .i64 0, .int .i64 0, .int .i64 0, .slice none 0 0] ∧ Below X.heap.size X (X.alloc (.cells #[.int .i64 0, .string ⟨#[]⟩, .int .i64 0, .int .i64 0, .int .i64 0, .int .i64 0, .int .i64 0, .slice none 0 0] 53)) ∧ gx < (X.alloc (.cells #[.int .i64 0, .string ⟨#[]⟩, .int .i64 0, .int .i64 0, .int .i64 0, .int .i64 0, .int .i64 0, .slice none 0 0] 53)).heap.size ∧ X.heap.size ≤ gx) X.heap.size)
            clear hb7 hbx0
            generalize hgx : X.heap.size = gx
            rw [hgx] at HK0
            rw [← hgx] at HK0
            have HGX0 := Lib.hid hgx
            have HK0 := Lib.hid (by rw [← HGX0.out]; exact HK0.out : Row (X.alloc (.cells #[.int .i64 0, .string ⟨#[]⟩, .int .i64 0, .int .i64 0, .int .i64 0, .int .i64 0, .int .i64 0, .slice none 0 0] 53)) gx 53 #[.int .i64 0, .string ⟨#[]⟩, .int .i64 0, .int .i64 0, .int .i64 0, .int .i64 0, .int .i64 0, .slice none 0 0] ∧ Below X.heap.size X (X.alloc (.cells #[.int .i64 0, .string ⟨#[]⟩, .int .i64 0, .int .i64 0, .int .i64 0, .int .i64 0, .int .i64 0, .slice none 0 0] 53)) ∧ gx < (X.alloc (.cells #[.int .i64 0, .string ⟨#[]⟩, .int .i64 0, .int .i64 0, .int .i64 0, .int .i64 0, .int .i64 0, .slice none 0 0] 53)).heap.size ∧ X.heap.size ≤ gx)
            clear hgx HGX0
            refine El.genH (fun X0 => Row X0 gx 53 #[.int .i64 0, .string ⟨#[]⟩, .int .i64 0, .int .i64 0, .int .i64 0, .int .i64 0, .int .i64 0, .slice none 0 0] ∧ Below X.heap.size X X0 ∧ gx < X0.heap.size ∧ X.heap.size ≤ gx) HK0.out ?_
            clear HK0
            rintro X0 HK0
            have HK0 := Lib.hid HK0
            have hS : X0.cell? ⟨g8, 1, none⟩ = some (.int .i64 t) := ((HX.out.under HK0.out.2.1).bs.bul.cell 1).trans rfl
            refine wpAnyH_ready (rs := [7]) (by kernel_rfl) (by simp) ?_
            refine AllReadyH.cons (o := ⟨some 95, _, _, _, _, none⟩) rfl (fun K hK => ?_) AllReadyH.nil
            go_simp
            refine (HPB.out X0).mono ?_
            rintro e X2 hR
            obtain ⟨k', nm, t', F, A, B, C, Lr, Au, n, cu, er, rfl, hrd, hb, hnew, her⟩ := rfo_one hR
            have HER := Lib.hid her
            have HNEW := Lib.hid hnew
            have HK5 := Lib.hid (⟨HK0.out.1.under hb, hrd, fun _ i hi => by have := hnew i hi; have := HK0.out.2.2.1; omega, HK0.out.2.1.trans (hb.mono HK0.out.2.1.size), HK0.out.2.2.2⟩ : Row X2 gx 53 #[.int .i64 0, .string ⟨#[]⟩, .int .i64 0, .int .i64 0, .int .i64 0, .int .i64 0, .int .i64 0, .slice none 0 0] ∧ El.RdIn X2 (.slice Au n cu) Lr ∧ (Lr ≠ [] → ∀ i, (Value.slice Au n cu).ownBlock = some i → i ≠ gx) ∧ Below X.heap.size X X2 ∧ X.heap.size ≤ gx)
            clear hR hrd hb hnew her hS HPB
            go_wp2_with fail
            refine hK.out _ _ (((HX.out.under HK5.out.2.2.2.1).bs.bul.cell 1).trans rfl) (fun _ => ?_)
            clear hK K
            ((try simp only [Act.put]); (try simp only [List.setIfInBounds_toArray]); (try simp only [List.set_cons_succ]); (try simp only [List.set_cons_zero]))
            have hS : X2.cell? ⟨g8, 1, none⟩ = some (.int .i64 t) := ((HX.out.under HK5.out.2.2.2.1).bs.bul.cell 1).trans rfl
            refine wpAnyH_take (i := 8) (oi := ⟨some 87, _, _, _, _, none⟩) (v := ?_) rfl (by kernel_rfl) (by kernel_rfl) (by kernel_rfl) (fun _ _ _ h => h) (Or.inl ⟨by rfl, ?_⟩) (by assumption) ?_
            case refine_2 => (intro wx hSx; (try dsimp only at hSx); go_simp; first | done | with_reducible rfl)
            try simp only [Act.put, List.setIfInBounds_toArray, List.set_cons_zero, List.set_cons_succ]
            refine wpAnyH_take (i := 9) (oi := ⟨some 96, _, _, _, _, none⟩) (v := ?_) rfl (by kernel_rfl) (by kernel_rfl) (by kernel_rfl) (fun _ _ _ h => h) (Or.inl ⟨by rfl, ?_⟩) (by assumption) ?_
            case refine_2 => (intro wx hSx; (try dsimp only at hSx); go_simp; first | done | with_reducible rfl)
            try simp only [Act.put, List.setIfInBounds_toArray, List.set_cons_zero, List.set_cons_succ]
            refine wpAnyH_take (i := 10) (oi := ⟨some 97, _, _, _, _, none⟩) (v := ?_) rfl (by kernel_rfl) (by kernel_rfl) (by kernel_rfl) (fun _ _ _ h => h) (Or.inl ⟨by rfl, ?_⟩) (by assumption) ?_
            case refine_2 => (intro wx hSx; (try dsimp only at hSx); go_simp; first | done | with_reducible rfl)
            try simp only [Act.put, List.setIfInBounds_toArray, List.set_cons_zero, List.set_cons_succ]
            clear hS
            have hS : X2.cell? ⟨g8, 1, none⟩ = some (.int .i64 t) := ((HX.out.under HK5.out.2.2.2.1).bs.bul.cell 1).trans rfl
            have f0 := HK5.out.1.thaw 0
            have f1 := HK5.out.1.thaw 1
            have f2 := HK5.out.1.thaw 2
            have f3 := HK5.out.1.thaw 3
            have f4 := HK5.out.1.thaw 4
            have f5 := HK5.out.1.thaw 5
            have f6 := HK5.out.1.thaw 6
            have f7 := HK5.out.1.thaw 7
            obtain ⟨p0, p1, p2, p3, p4, p5, p6, p7⟩ := row8 HK5.out.1
            refine wpAnyH_ready (rs := [12]) (by kernel_rfl) (by simp) ?_
            refine AllReadyH.cons (o := ⟨none, _, _, _, _, none⟩) rfl (fun K hK => ?_) AllReadyH.nil
            go_simp
            clear f0 f1 f2 f3 f4 f5 f6 f7 p0 p1 p2 p3 p4 p5 p6 p7
            have HBEL := Lib.hid (set8_below (u0 := .int .i64 k') (u1 := .string (S nm)) (u2 := .int .i64 t') (u3 := .int .i64 F) (u4 := .int .i64 A) (u5 := .int .i64 B) (u6 := .int .i64 C) (u7 := .slice Au n cu) HK5.out.2.2.2.1 HK5.out.2.2.2.2)
            have HJ := Lib.hid (HX.out.under HBEL.out)
            refine hK.out _ _ ((HJ.out.bs.bul.cell 1).trans rfl) (fun _ => ?_)
            clear hK K hS
            ((try simp only [Act.put]); (try simp only [List.setIfInBounds_toArray]); (try simp only [List.set_cons_succ]); (try simp only [List.set_cons_zero]))
            refine El.genH (fun Xf => Row Xf gx 53 (repC k' (S nm) t' F A B C (.slice Au n cu)) ∧ El.RdIn Xf (.slice Au n cu) Lr ∧ J4 w w1 body (S c) t cor del g8 j R dm vr «u11» Xf) ⟨set8_row (.int .i64 k') (.string (S nm)) (.int .i64 t') (.int .i64 F) (.int .i64 A) (.int .i64 B) (.int .i64 C) (.slice Au n cu) HK5.out.1, rdIn_set9 HK5.out.2.1 HK5.out.2.2.1 (.int .i64 k') (.string (S nm)) (.int .i64 t') (.int .i64 F) (.int .i64 A) (.int .i64 B) (.int .i64 C) (.slice Au n cu), HJ.out⟩ ?_
            clear HBEL HJ HK5
            rintro X9 HU9
            have HU9 := Lib.hid HU9
            have hS : X9.cell? ⟨g8, 1, none⟩ = some (.int .i64 t) := (HU9.out.2.2.bs.bul.cell 1).trans rfl
            refine wpAnyH_take (i := 13) (oi := ⟨some 15, _, _, _, _, none⟩) (v := ?_) rfl (by kernel_rfl) (by kernel_rfl) (by kernel_rfl) (fun _ _ _ h => h) (Or.inl ⟨by rfl, ?_⟩) (by assumption) ?_
            case refine_2 => (intro wx hSx; (try dsimp only at hSx); go_simp; first | done | with_reducible rfl)
            try simp only [Act.put, List.setIfInBounds_toArray, List.set_cons_zero, List.set_cons_succ]
            refine wpAnyH_done (by kernel_rfl) ?_ _
            clear hS
            go_wp2_with fail
            go_meet
            exact ⟨gx, k', nm, t', F, A, B, C, Lr, Au, n, cu, er, rfl, rfl, Lib.hid ⟨HU9.out.1, HU9.out.2.1, fun _ i hi => HX.out.bs.far (by have := HNEW.out i hi; have := HK0.out.2.2.1; have := HK0.out.2.2.2; omega), HU9.out.2.2, HER.out⟩⟩
        case rest =>
          obtain ⟨gx, k', nm, t', F, A, B, C, Lr, Au, n, cu, er, rfl, rfl, HU⟩ := hcut
          clear HM cj
          obtain ⟨hrow, hrd, hsep, hJ, her⟩ := HU.out
          have HM := Lib.hid hJ; clear hJ HU
          have HSEP := Lib.hid hsep; clear hsep
          have HRD := Lib.hid hrd; clear hrd
          have HROW := Lib.hid hrow; clear hrow
          rcases her with ⟨rfl, hp⟩ | ⟨rfl, hnop⟩
          · have HY : Hid (rdl t (lns body)[j] = some (Rp.key (⟨k', S nm, t', F, A, B, C, .slice Au n cu, Lr⟩ : Rp))) := Lib.hid (by rw [HLN.out]; exact line_yes _ hp)
            clear hp i0 hi hz0 hz1 hz2
            obtain ⟨i0, hi, hz0, hz1, hz2⟩ := info_parts infoReport
            obtain ⟨p0, p1, p2, p3, p4, p5, p6, p7⟩ := row8 HROW.out
            obtain ⟨q0, q1, q2, q3, q4⟩ := row5 HM.out.bs.bul
            generalize hnb : S nm = nb at *
            have HNB := Lib.hid hnb; clear hnb
            have HA := Lib.hid ((HM.out.under ((Below.refl wc.heap.size wc).alloc (Nat.le_refl _) (.cells #[.int .i64 k', .string nb, .int .i64 t', .int .i64 F, .int .i64 A, .int .i64 B, .int .i64 C, .slice Au n cu] 53))).bs.row)
            go_wp2_with (at_builtin; refine wpList_append_lies _ rfl (.tmp 105) (.tmp 107) 22 rfl w1.heap.size 53 i0 _ 8 88 Tryz.underlying22 hi hz0 hz1 hz2 rfl (by decide) vr R.length (rpc R) rfl HA.out ⟨wc.heap.size, 0, none⟩ 1 1 (rpCells (⟨k', nb, t', F, A, B, C, .slice Au n cu, Lr⟩ : Rp)) rfl rfl (World.news_of_block (cs := #[.int .i64 k', .string nb, .int .i64 t', .int .i64 F, .int .i64 A, .int .i64 B, .int .i64 C, .slice Au n cu]) (t := 53) (fr := (0, 0)) (heap_alloc_new wc _)) (rp_one _ _ _ _ _ _ _ _ _ _ _) (by omega) (by have := HM.out.lr; unfold maxLen; omega) (by have := HM.out.lr; omega) (by have := HM.out.q4.low.size; simp; omega) _ rfl ?_; intro g' cap' w6 hown6 hgrow6 hat6 hlt6; have H6 := Lib.hid (HM.out.bs.read (r := (⟨k', nb, t', F, A, B, C, .slice Au n cu, Lr⟩ : Rp)) HRD.out HSEP.out hown6 hgrow6 (hat6.imp (fun e => e.symm) (fun e => congrArg some e))); clear hown6 hgrow6 hat6 hlt6 HA q0 q1 q2 q3 q4; obtain ⟨q0, q1, q2, q3, q4⟩ := row5 H6.out.1; have f4 := H6.out.1.thaw 4)
            have HJ : Hid (J4 w w1 body (S c) t cor del g8 (j + 1) (R ++ [(⟨k', nb, t', F, A, B, C, .slice Au n cu, Lr⟩ : Rp)]) dm (.slice (some ⟨g', 0, none⟩) (R.length + 1) cap') «u11» (w6.setCell ⟨g8, 4, none⟩ (.slice (some ⟨g', 0, none⟩) (R.length + 1) cap'))) := Lib.hid (by
              obtain ⟨e1, e2⟩ := goods_yes (xs := (nums 1 (lns body)).take j) (x := (1 + j, (lns body)[j])) HY.out
              refine ⟨HM.out.q4.low2 H6.out.2.2 HW1.out, H6.out.2.1, ?_, ?_, by simp; exact HM.out.lr, Nat.le_succ_of_le HM.out.ld⟩
              · rw [HTK.out, e1, List.map_append, HM.out.goo]; rfl
              · rw [HTK.out, e2]; exact HM.out.bad)
            clear HM H6 HY p0 p1 p2 p3 p4 p5 p6 p7 q0 q1 q2 q3 q4 f4
            go_wp2_with fail
            go_roundw
            case rel => exact ⟨j + 1, _, dm, _, by omega, by go_num, HJ⟩
            case measure => simp [intOf]; omega
          · have HBD : Hid (rdl t (lns body)[j] = none) := Lib.hid (by rw [HLN.out]; exact line_bad hnop)
            clear hnop HROW HRD HSEP
            have HA := Lib.hid ((HM.out.under ((Below.refl wc.heap.size wc).alloc (Nat.le_refl _) (.cells #[.int .i64 ((j : Int) + 1)] 3))).bs.nums)
            go_wp2_with (at_builtin; refine wpList_append_lies _ rfl (.tmp 100) (.tmp 102) 25 rfl w1.heap.size 3 i0 _ 1 8 Tryz.underlying25 hi hz0 hz1 hz2 rfl (by decide) _ dm.length (dm.map (Value.int .i64)) rfl HA.out ⟨wc.heap.size, 0, none⟩ 1 1 [.int .i64 ((j : Int) + 1)] rfl rfl (World.news_of_block (cs := #[.int .i64 ((j : Int) + 1)]) (t := 3) (fr := (0, 0)) (heap_alloc_new wc _)) (by simp [Value.oneCell']) (by omega) (by have := HM.out.ld; unfold maxLen; omega) (by have := HM.out.ld; omega) (by have := HM.out.q4.low.size; simp; omega) _ rfl ?_; intro g' cap' w6 hown6 hgrow6 hat6 hlt6; have H6 := Lib.hid (HM.out.bs.damaged hown6 hgrow6 (hat6.imp (fun e => e.symm) (fun e => congrArg some e))); clear hown6 hgrow6 hat6 hlt6 HA)
            have HJ : Hid (J4 w w1 body (S c) t cor del g8 (j + 1) R (dm ++ [((j : Int) + 1)]) vr (.slice (some ⟨g', 0, none⟩) (dm.length + 1) cap') w6) := Lib.hid (by
              obtain ⟨e1, e2⟩ := goods_no (xs := (nums 1 (lns body)).take j) (x := (1 + j, (lns body)[j])) HBD.out
              refine ⟨HM.out.q4.low2 H6.out.2 HW1.out, H6.out.1, ?_, ?_, Nat.le_succ_of_le HM.out.lr, by simp; exact HM.out.ld⟩
              · rw [HTK.out, e1]; exact HM.out.goo
              · rw [HTK.out, e2, ← HM.out.bad]; congr 2; omega)
            clear HM H6 HBD
            go_wp2_with fail
            go_roundw
            case rel => exact ⟨j + 1, R, _, vr, by omega, by go_num, HJ⟩
            case measure => simp [intOf]; omega
      · have j1 : ¬ (j : Int) + 1 ≤ (N : Int) := by omega
        obtain rfl : j = N := by omega
        have M := HM.out.q4
        have HGO : Hid (R.map Rp.key = goods t (nums 1 (lns body)) ∧ dm = bads t (nums 1 (lns body))) := Lib.hid (by
          have e : (nums 1 (lns body)).take j = nums 1 (lns body) := List.take_of_length_le (by rw [nums_len, HN.out]; exact Nat.le_refl _)
          exact ⟨by rw [HM.out.goo, e], by rw [← e]; exact HM.out.bad⟩)
        have f0 := M.r4.thaw 0
        have f1 := M.r4.thaw 1
        have f2 := M.r4.thaw 2
        have f3 := M.r4.thaw 3
        have f4 := M.r4.thaw 4
        obtain ⟨q0, q1, q2, q3, q4⟩ := row5 M.r4
        obtain ⟨p0, p1, p2, p3, p4⟩ := row5 HM.out.bs.bul
        have HF := Lib.hid (set5_below (u0 := .string (S c)) (u1 := .int .i64 t) (u2 := .int .i64 cor) (u3 := .int .i64 del) (u4 := vr) M.below (Nat.le_refl _))
        have hlast := HM.out.bs.last (W' := ((((wr.setCell ⟨w.heap.size, 0, none⟩ (.string (S c))).setCell ⟨w.heap.size, 1, none⟩ (.int .i64 t)).setCell ⟨w.heap.size, 2, none⟩ (.int .i64 cor)).setCell ⟨w.heap.size, 3, none⟩ (.int .i64 del)).setCell ⟨w.heap.size, 4, none⟩ vr) (by simp [World.setCell]) (fun i o hi ho _ => by
          have hne : i ≠ w.heap.size := by have := HW1.out; omega
          exact (Below.heap_setCell _ ⟨w.heap.size, 4, none⟩ _ i hne).trans ((Below.heap_setCell _ ⟨w.heap.size, 3, none⟩ _ i hne).trans ((Below.heap_setCell _ ⟨w.heap.size, 2, none⟩ _ i hne).trans ((Below.heap_setCell _ ⟨w.heap.size, 1, none⟩ _ i hne).trans ((Below.heap_setCell _ ⟨w.heap.size, 0, none⟩ _ i hne).trans ho)))))
        have HLA := Lib.hid hlast
        have HSE := Lib.hid HM.out.bs.sep
        obtain ⟨Ar, cr, er⟩ := row_form HM.out.bs.row
        subst er
        have HM4 := Lib.hid M
        clear HM M hlast
        go_wp2_with fail
        clear f0 f1 f2 f3 f4 q0 q1 q2 q3 q4 p0 p1 p2 p3 p4
        have HZ5 := Lib.hid (set5_row (.string (S c)) (.int .i64 t) (.int .i64 cor) (.int .i64 del) (.slice Ar R.length cr) HM4.out.r4)
        refine bodyPost_ret (v := .tuple #[bulV (S c) t cor del (.slice Ar R.length cr), «u11», .int .i64 0]) (by obtain ⟨z0, z1, z2, z3, z4⟩ := row5 HZ5.out; simp [results, Tryz.results23, z0, z1, z2, z3, z4, go_sem]) rfl (HPP.out _ _ (.inl ⟨HN6.out, c, t, cor, del, R, _, _, HH.out, HGO.out.1, rfl, own_low HLA.out.1 (Nat.le_of_lt HW1.out), ?_, fun r hr => ⟨HLA.out.2.2 r hr, fun hL i hi => by have := (HSE.out r hr hL i hi).1; have := HW1.out; omega⟩, HF.out⟩))
        rw [← HGO.out.2]
        exact own_low HLA.out.2.1 (Nat.le_of_lt HW1.out)
end Go.Proofs.YtfnlgfacadmjpaaGreatDoor.Bu
