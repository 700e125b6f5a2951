/- Texts of this proof. -/
import Derived.Test.YtejoabaanclcbaaGreatQax
import Derived.Test.YtejoabaanclcbaaGreatQat
namespace Go.Proofs.YtejoabaanclcbaaGreat.Tk
open Go.RowKit Go.Maps

/-- A sighting's place is outside the chain of its group. -/
def outC (h : Int) (G : List Sg) (i : Nat) : Prop := ∃ ch, Best G.length (pL h G) ch ∧ i ∉ ixs G ch
/-- What Suspects finds. -/
def SusL (h : Int) (L : List Sg) (l : List Nat) : Prop := ∃ L', L'.Perm L ∧ L'.Pairwise (fun x y => x.t ≤ y.t) ∧ (∀ k, ascP (gr L' k)) ∧ l.Pairwise (fun x y => x < y) ∧ ∀ i, i ∈ l ↔ ∃ x ∈ L', x.ix = i ∧ outC h (gr L' x.nm) i
def SusT (h : Int) (R : List Rq) (l : List Nat) (c : Int) : Prop :=
  (¬ ((0 ≤ h ∧ h ≤ 1000) ∧ oks sea R) ∧ l = [] ∧ c = 1) ∨
  (((0 ≤ h ∧ h ≤ 1000) ∧ oks sea R) ∧ (∃ L', L'.Perm (sgl sea 0 R) ∧ L'.Pairwise (fun x y => x.t ≤ y.t) ∧ ∃ k, ¬ ascP (gr L' k)) ∧ l = [] ∧ c = 5) ∨
  (((0 ≤ h ∧ h ≤ 1000) ∧ oks sea R) ∧ SusL h (sgl sea 0 R) l ∧ c = 0)
def SusO (h : Int) (R : List Rq) (w : World) (e : Ending) (w' : World) : Prop := ∃ (l : List Nat) (c : Int) (v : Value), SusT h R l c ∧ e = .returned (.tuple #[v, .int .i64 c]) ∧ IlIn w' v l ∧ Below w.heap.size w w'
theorem sgl_nm {p : Int → Bool} {P : ByteArray → Prop} : ∀ (R : List Rq) (i : Nat), (∀ r ∈ R, P r.nm) → ∀ x ∈ sgl p i R, P x.nm
  | [], _, _, x, hx => by cases hx
  | r :: R, i, ho, x, hx => by
    have hr : ∀ y ∈ R, P y.nm := fun y hy => ho y (List.mem_cons_of_mem _ hy)
    simp only [sgl] at hx
    split at hx
    · rcases List.mem_cons.1 hx with rfl | hx
      · exact ho r (List.mem_cons_self ..)
      · exact sgl_nm R (i + 1) hr x hx
    · exact sgl_nm R (i + 1) hr x hx
/-- The places of the first sightings of a group that are outside the chain. -/
def pk (G : List Sg) (c : List Nat) (j : Nat) : List Nat := ((G.take j).filter fun x => decide (x.ix ∉ c)).map Sg.ix
theorem pk_len (G : List Sg) (c : List Nat) (j : Nat) : (pk G c j).length ≤ j := by
  unfold pk
  rw [List.length_map]
  exact Nat.le_trans (List.length_filter_le _ _) (by rw [List.length_take]; omega)
theorem pk_in {G : List Sg} {c : List Nat} {j : Nat} (h : j < G.length) (hx : G[j].ix ∈ c) : pk G c (j + 1) = pk G c j := by
  unfold pk
  rw [List.take_succ_eq_append_getElem h, List.filter_append, List.map_append]
  simp [hx]
theorem pk_out {G : List Sg} {c : List Nat} {j : Nat} (h : j < G.length) (hx : G[j].ix ∉ c) : pk G c (j + 1) = pk G c j ++ [G[j].ix] := by
  unfold pk
  rw [List.take_succ_eq_append_getElem h, List.filter_append, List.map_append]
  simp [hx]
theorem ix_inj : ∀ {L : List Sg}, (L.map Sg.ix).Nodup → ∀ {x y : Sg}, x ∈ L → y ∈ L → x.ix = y.ix → x = y
  | [], _, _, _, hx, _, _ => by cases hx
  | a :: r, hn, x, y, hx, hy, e => by
    rw [List.map_cons, List.nodup_cons] at hn
    rcases List.mem_cons.1 hx with e1 | hx1 <;> rcases List.mem_cons.1 hy with e2 | hy1
    · rw [e1, e2]
    · exact absurd (List.mem_map.2 ⟨y, hy1, by rw [← e, e1]⟩) hn.1
    · exact absurd (List.mem_map.2 ⟨x, hx1, by rw [e, e2]⟩) hn.1
    · exact ix_inj hn.2 hx1 hy1 e
/-- The numbers found so far: those of the names that have come out. -/
def AccP (h : Int) (L : List Sg) (left : Lit → Bool) (acc : List Nat) : Prop := acc.Nodup ∧ ∀ i, i ∈ acc ↔ ∃ x ∈ L, left (nk x.nm) = false ∧ x.ix = i ∧ outC h (gr L x.nm) i
theorem AccP.step {h : Int} {L : List Sg} {left : Lit → Bool} {acc : List Nat} (H : AccP h L left acc) (hn : (L.map Sg.ix).Nodup) {x : ByteArray} (hx : left (nk x) = true) {ch : List Nat} (hb : Best (gr L x).length (pL h (gr L x)) ch) :
    AccP h L (fun z => left z && !z.sameKey (nk x)) (acc ++ pk (gr L x) (ixs (gr L x) ch) (gr L x).length) := by
  have hpk : ∀ i, i ∈ pk (gr L x) (ixs (gr L x) ch) (gr L x).length ↔ ∃ y ∈ L, y.nm = x ∧ y.ix = i ∧ outC h (gr L x) i := fun i => by
    unfold pk
    rw [List.take_length, List.mem_map]
    constructor
    · rintro ⟨y, hy, rfl⟩
      obtain ⟨h1, h2⟩ := List.mem_filter.1 hy
      obtain ⟨h3, h4⟩ := List.mem_filter.1 h1
      exact ⟨y, h3, of_decide_eq_true h4, rfl, ch, hb, of_decide_eq_true h2⟩
    · rintro ⟨y, hy, hyn, rfl, c2, hb2, ho⟩
      obtain rfl := best_uniq hb hb2
      exact ⟨y, List.mem_filter.2 ⟨List.mem_filter.2 ⟨hy, decide_eq_true hyn⟩, decide_eq_true ho⟩, rfl⟩
  have hkey : ∀ k, (left (nk k) && !(nk k).sameKey (nk x)) = false ↔ left (nk k) = false ∨ k = x := fun k => by
    by_cases e : k = x
    · subst e
      rw [WideAt.sameKey_self (nk_key k)]
      simp
    · have h1 : (nk k).sameKey (nk x) = false := by
        cases h2 : (nk k).sameKey (nk x) with
        | false => rfl
        | true => exact absurd (nk_inj (WideAt.sameKey_eq h2)) e
      rw [h1]
      simp [e]
  refine ⟨?_, fun i => ?_⟩
  · rw [List.nodup_append]
    refine ⟨H.1, ?_, fun i hi j hj e => ?_⟩
    · unfold pk
      rw [List.take_length]
      exact List.Nodup.sublist ((List.filter_sublist.trans List.filter_sublist).map Sg.ix) hn
    · subst e
      obtain ⟨y, hy, h1, h2, -⟩ := (H.2 i).1 hi
      obtain ⟨z, hz, h3, h4, -⟩ := (hpk i).1 hj
      obtain rfl := ix_inj hn hy hz (h2.trans h4.symm)
      rw [h3, hx] at h1
      cases h1
  · rw [List.mem_append, H.2 i, hpk i]
    constructor
    · rintro (⟨y, hy, h1, h2, h3⟩ | ⟨y, hy, rfl, h2, h3⟩)
      · exact ⟨y, hy, (hkey y.nm).2 (.inl h1), h2, h3⟩
      · exact ⟨y, hy, (hkey y.nm).2 (.inr rfl), h2, h3⟩
    · rintro ⟨y, hy, h1, h2, h3⟩
      rcases (hkey y.nm).1 h1 with h1 | h1
      · exact .inl ⟨y, hy, h1, h2, h3⟩
      · exact .inr ⟨y, hy, h1, h2, by rw [← h1]; exact h3⟩
theorem size_le {w : World} {b n : Nat} {D : DataW Value} (h : w.ownsMap Tryz.prog 9 MnR b n D) : Maps.size D ≤ n := by
  obtain ⟨es, clock, _, _, hs, rfl⟩ := h
  simpa [Maps.size, length_sorted] using hs
/-- While a group is gone through. -/
structure In1 (w3 w5 : World) (b n : Nat) (D : DataW Value) (left : Lit → Bool) (cnt : Nat) (acc : List Nat) (u vc : Value) (cs : List Nat) (Y : World) : Prop where
  rg : Y.ranges Tryz.prog 9 MnR b w3.heap.size n D left cnt
  ow : Y.ownsRow (w3.heap.size + 1) 3 1 u acc.length (ic acc)
  il : IlB w5.heap.size Y vc cs
  ap : ∀ j, u.ownBlock = some j → vc.ownBlock ≠ some j
  bw : Below w3.heap.size w3 Y
  s1 : w3.heap.size + 1 ≤ Y.heap.size
  bl : b < w3.heap.size
section
variable {w3 w5 Y Y' : World} {b n : Nat} {D : DataW Value} {left : Lit → Bool} {cnt : Nat} {acc : List Nat} {u vc : Value} {cs : List Nat}
theorem In1.under (H : In1 w3 w5 b n D left cnt acc u vc cs Y) (hb : Below Y.heap.size Y Y') : In1 w3 w5 b n D left cnt acc u vc cs Y' :=
  ⟨H.rg.kept (grown_below (r := none) hb) (by simp) (by simp), own_under H.ow hb, own_under H.il hb, H.ap, H.bw.trans (hb.mono H.bw.size), Nat.le_trans H.s1 hb.size, H.bl⟩
theorem In1.app (H : In1 w3 w5 b n D left cnt acc u vc cs Y) {x g c : Nat} (ho : Y'.ownsRow (w3.heap.size + 1) 3 1 (.slice (some ⟨g, 0, none⟩) (acc.length + 1) c) (acc.length + 1) (ic acc ++ [.int .i64 (x : Int)])) (hg : Y.grownBy Y' u.ownBlock)
    (hat : u.ownBlock = some g ∨ Y.heap.size ≤ g) : In1 w3 w5 b n D left cnt (acc ++ [x]) (.slice (some ⟨g, 0, none⟩) (acc ++ [x]).length c) vc cs Y' := by
  refine ⟨H.rg.kept hg (fun e => ?_) (fun e => ?_), ?_, own_keep H.il fun i hi => hg.block i (own_lt H.il hi).2 (fun e => H.ap i e.symm hi), fun j hj hv => ?_, H.bw.grown hg H.bw.size (fun j hj => by have := (own_lt H.ow hj).1; omega), Nat.le_trans H.s1 hg.size, H.bl⟩
  · have := (own_lt H.ow e.symm).1
    have := H.bl
    omega
  · have := (own_lt H.ow e.symm).1
    omega
  · rw [List.length_append]
    simpa [ic] using ho
  · have e : g = j := by simpa [Value.ownBlock] using hj
    subst e
    rcases hat with h | h
    · exact H.ap _ h hv
    · have := (own_lt H.il hv).2
      omega
end
theorem sgl_ix {p : Int → Bool} : ∀ (R : List Rq) (i : Nat), ((sgl p i R).map Sg.ix).Nodup ∧ ∀ j ∈ (sgl p i R).map Sg.ix, i ≤ j
  | [], _ => ⟨List.nodup_nil, fun j hj => by cases hj⟩
  | r :: R, i => by
    obtain ⟨h1, h2⟩ := sgl_ix R (i + 1)
    simp only [sgl]
    split
    · refine ⟨List.nodup_cons.2 ⟨fun hm => by have := h2 _ hm; simp only at this; omega, h1⟩, fun j hj => ?_⟩
      rcases List.mem_cons.1 hj with rfl | hj
      · exact Nat.le_refl _
      · have := h2 j hj; omega
    · exact ⟨h1, fun j hj => by have := h2 j hj; omega⟩
set_option maxRecDepth 100000 in
set_option maxHeartbeats 8000000 in
theorem suspectsP_any (v : Value) (R : List Rq) (h : Int) (w : World) (hR : RqIn w v R) (hl : R.length ≤ 12) (hnm : ∀ r ∈ R, r.nm.size ≤ maxLen) :
    Calls Tryz.prog 16 #[v, .int .i64 h] w (SusO h R w) := by
  have hRR := hR
  obtain ⟨A, cap, rfl, hc1, hc2, -⟩ := hR
  have HR := Lib.hid hRR; clear hRR
  have HNM := Lib.hid hnm; clear hnm
  have HLL := Lib.hid (Nat.le_trans (sgl_len sea R 0) hl)
  go_enter Tryz.func16, Tryz.ntmps16
  go_wp2_with fail
  refine (sightings_sea _ R h w HR.out (by omega)).mono ?_
  rintro e w1 ⟨⟨hy, u, rfl, ho⟩ | ⟨hn, rfl⟩, hb⟩
  · have HY := Lib.hid hy
    have HGD := Lib.hid (sgl_gd R 0 hy.2)
    have HIXN := Lib.hid (sgl_ix (p := sea) R 0).1
    have HNG := Lib.hid (sgl_nm (p := sea) (P := fun k => k.size ≤ maxLen) R 0 HNM.out)
    have HO := Lib.hid ho
    have HB := Lib.hid hb
    have HTAG := Lib.hid (show ∀ l c, ((∃ L', L'.Perm (sgl sea 0 R) ∧ L'.Pairwise (fun x y => x.t ≤ y.t) ∧ ∃ k, ¬ ascP (gr L' k)) ∧ l = [] ∧ c = 5) ∨ (SusL h (sgl sea 0 R) l ∧ c = 0) → SusT h R l c from fun l c hh => by
      rcases hh with ⟨a, b, d⟩ | ⟨a, d⟩
      · exact .inr (.inl ⟨HY.out, a, b, d⟩)
      · exact .inr (.inr ⟨HY.out, a, d⟩))
    clear hy ho hb
    generalize sgl sea 0 R = L at *
    go_wp2_with fail
    refine (byName_any w.heap.size u L w1 HLL.out HO.out HNG.out).mono ?_
    rintro e w2 ⟨W1, L', b, f, hgr, hperm, hpw, rfl, hgp⟩
    have HBW := Lib.hid (below_own HB.out HB.out.size HO.out hgr)
    have HB2 := Lib.hid (HBW.out.trans (hgp.below.mono HBW.out.size))
    have HP := Lib.hid hperm
    have HW := Lib.hid hpw
    have HG := Lib.hid hgp
    have HIX2 := Lib.hid (show (L'.map Sg.ix).Nodup from (hperm.map Sg.ix).nodup_iff.2 HIXN.out)
    have HGD2 := Lib.hid (show ∀ x ∈ L', Gd x from fun x hx => HGD.out x (hperm.mem_iff.1 hx))
    have HL2 := Lib.hid (show L'.length ≤ 12 by rw [hperm.length_eq]; exact HLL.out)
    clear hgr hperm hpw hgp HB HBW HO
    go_wp2_with fail
    refine (check_any W1 b f L' w2 HL2.out HG.out).mono ?_
    rintro e w3 ⟨⟨c, rfl, ⟨rfl, k, hk⟩ | ⟨rfl, hall⟩⟩, hb3⟩
    · have HB3 := Lib.hid (HB2.out.trans (hb3.mono HB2.out.size))
      have HK := Lib.hid hk
      clear hk hb3
      go_wp2_with fail
      go_ret2
      exact ⟨[], 5, _, HTAG.out _ _ (.inl ⟨⟨L', HP.out, HW.out, k, HK.out⟩, rfl, rfl⟩), rfl, il_nil _, HB3.out⟩
    · have HALL := Lib.hid hall
      have HB3 := Lib.hid (HB2.out.trans (hb3.mono HB2.out.size))
      have HG3 := Lib.hid (HG.out.under hb3)
      clear hall hb3 HB2 HG
      obtain ⟨D, hown, hD⟩ := HG3.out.map
      have HDD := Lib.hid hD; clear hD
      go_wp2_with (at_range; refine wpList_range_own _ rfl _ 70 rfl 9 63 lawS Tryz.underlying70 MnR b L'.length D rfl hown ?_; intro w4 hrg hgr hsz)
      go_frame
      have HSZ := Lib.hid (size_le hown)
      have HB4 := Lib.hid ((Below.refl _ w3).grown hgr (Nat.le_refl _) (by simp))
      have HR4 := Lib.hid hrg
      have HZ4 := Lib.hid hsz
      have HBL := Lib.hid hown.lt
      have HA0 := Lib.hid (show AccP h L' (Maps.has D) [] from ⟨List.nodup_nil, fun i => ⟨fun hi => by (cases hi), fun ⟨x, hx, h1, _⟩ => by
        rw [(HDD.out x.nm).1] at h1
        have h0 : f x.nm = none := by cases h : f x.nm with
          | none => rfl
          | some v => rw [h] at h1; cases h1
        have h2 := HG3.out.nil x.nm h0
        have h3 : x ∈ gr L' x.nm := List.mem_filter.2 ⟨hx, decide_eq_true rfl⟩
        rw [h2] at h3
        cases h3⟩⟩)
      clear hrg hgr hsz hown
      obtain ⟨i0, hi, hz0, hz1, hz2⟩ := info_parts infoInt0
      go_loopw [10] (fun u wr => ∃ (left : Lit → Bool) (cnt : Nat) (acc : List Nat), Hid (wr.ranges Tryz.prog 9 MnR b w3.heap.size L'.length D left cnt) ∧ Hid (wr.ownsRow (w3.heap.size + 1) 3 1 u acc.length (ic acc)) ∧ Hid (AccP h L' left acc) ∧ Hid (acc.length + 12 * cnt ≤ 144) ∧ Hid (Below w3.heap.size w3 wr ∧ w3.heap.size + 1 ≤ wr.heap.size)) (fun _ wr => wr.rangeLeft b w3.heap.size)
      case atStart => exact ⟨_, _, [], HR4, Lib.hid ⟨rfl, .inl ⟨rfl, rfl⟩⟩, HA0, Lib.hid (by have := HSZ.out; have := HL2.out; simp only [List.length_nil]; omega), Lib.hid ⟨HB4.out, by have := HZ4.out; omega⟩⟩
      case round =>
        obtain ⟨left, cnt, acc, HR, HOW, HAC, HLE, HBW⟩ := hrel
        clear HR4 HB4 HZ4 HA0 HSZ
        obtain ⟨A1, c1, rfl⟩ := own_form HOW.out
        go_wp2_with (at_next; refine wpList_next_ranges _ rfl _ rfl 9 lawS MnR Value.string (fun v : Value => v) (fun key kl h => by obtain ⟨k, e, -⟩ := nk_inv h; exact ⟨k, e⟩) (fun v y _ => ⟨v, rfl⟩) b w3.heap.size L'.length D left cnt rfl HR.out ?_ ?_)
        · intro _ hl0
          have HALLF := Lib.hid hl0
          clear hl0
          have HL144 := Lib.hid (show acc.length ≤ 1000000 by have := HLE.out; omega)
          go_wp2_with fail
          refine (sortI_any wr (w3.heap.size + 1) _ acc HOW.out HL144.out).mono ?_
          rintro e w5 ⟨rfl, hgr, how⟩
          have HB5 := Lib.hid (HB3.out.trans ((HBW.out.1.grown hgr (by have := HBW.out.2; omega) (fun j hj => by have := (own_lt HOW.out hj).1; omega)).mono HB3.out.size))
          have HIL := Lib.hid (show IlIn w5 (.slice A1 acc.length c1) (srtN acc) from IlB.zero (B := w3.heap.size + 1) (by unfold IlB; rw [(srtN_perm acc).length_eq]; exact how))
          clear hgr how
          go_wp2_with fail
          go_ret2
          refine ⟨srtN acc, 0, _, HTAG.out _ _ (.inr ⟨⟨L', HP.out, HW.out, HALL.out, ?_, fun i => ?_⟩, rfl⟩), rfl, HIL.out, HB5.out⟩
          · have h1 := srtN_up acc
            have h2 : (srtN acc).Nodup := (srtN_perm acc).nodup_iff.2 HAC.out.1
            exact List.Pairwise.imp₂ (fun _ _ a b => by omega) h1 h2
          · rw [(srtN_perm acc).mem_iff, HAC.out.2 i]
            constructor
            · rintro ⟨x, hx, -, h2, h3⟩; exact ⟨x, hx, h2, h3⟩
            · rintro ⟨x, hx, h2, h3⟩; exact ⟨x, hx, HALLF.out _, h2, h3⟩
        · intro x c kl y y2 w5 cnt1 hkey hlx hy hat hrg1 hlt hg1 hs1 hen
          obtain ⟨hfx, rfl⟩ := at_held HDD.out hkey hy hat
          have HBX := Lib.hid (show Below w3.heap.size w3 w5 ∧ w3.heap.size + 1 ≤ w5.heap.size from ⟨HBW.out.1.grown hg1 (by have := HBW.out.2; omega) (fun j hj => by cases hj; exact Nat.le_refl _), by have := HBW.out.2; omega⟩)
          have hrow := (HG3.out.rows x c hfx).1
          obtain ⟨A2, cap2, rfl⟩ := own_form hrow
          have HS3 := Lib.hid (SgIn.own hrow)
          have HSI := Lib.hid (HS3.out.under HBX.out.1)
          have HR1 := Lib.hid hrg1
          have HOW1 := Lib.hid (HOW.out.kept hg1 (by
            rcases hv : (Value.slice A1 acc.length c1).ownBlock with _ | g
            · exact .inl rfl
            · exact .inr (fun e => by have := (own_lt HOW.out hv).1; injection e with e; omega)))
          have HCN := Lib.hid (show cnt1 + 1 ≤ cnt from hlt)
          have HLG := Lib.hid (Nat.le_trans (gr_le L' x) HL2.out)
          have HGG := Lib.hid (show ∀ y ∈ gr L' x, Gd y from fun y hy => HGD2.out y (List.mem_filter.1 hy).1)
          have HSTEP := Lib.hid (show ∀ ch, Best (gr L' x).length (pL h (gr L' x)) ch → AccP h L' (fun z => left z && !z.sameKey (nk x)) (acc ++ pk (gr L' x) (ixs (gr L' x) ch) (gr L' x).length) from fun ch hb => HAC.out.step HIX2.out hlx hb)
          clear hkey hlx hy hat hrg1 hlt hg1 hs1 hrow hfx HAC HOW HBW
          generalize gr L' x = G at *
          go_wp2_with fail
          clear hen
          refine (chain_any _ G h w5 HSI.out (by have := HLG.out; omega) HGG.out HY.out.1).mono ?_
          rintro e w6 ⟨ch, vc, hB, rfl, hil, hb6⟩
          have HB6 := Lib.hid (show Below w3.heap.size w3 w6 ∧ w3.heap.size + 1 ≤ w6.heap.size ∧ w5.heap.size ≤ w6.heap.size from ⟨HBX.out.1.trans (hb6.mono HBX.out.1.size), Nat.le_trans HBX.out.2 hb6.size, hb6.size⟩)
          have HR6 := Lib.hid (HR1.out.kept (grown_below (r := none) hb6) (by simp) (by simp))
          have HOW6 := Lib.hid (own_under HOW1.out hb6)
          have HOB := Lib.hid (show ∀ j, (Value.slice A1 acc.length c1).ownBlock = some j → j < w5.heap.size from fun j hj => (own_lt HOW1.out hj).2)
          have HSI6 := Lib.hid (HSI.out.under hb6)
          have HST := Lib.hid (HSTEP.out ch hB)
          have HIL := Lib.hid hil
          obtain ⟨A3, c3, rfl⟩ := own_form hil
          clear hB hil hb6 HR1 HOW1 HSI HSTEP HBX
          generalize ixs G ch = cs at *
          go_wp2_with fail
          have HI0 := Lib.hid (show In1 w3 w5 b L'.length D (fun z => left z && !z.sameKey (nk x)) cnt1 acc (.slice A1 acc.length c1) (.slice A3 cs.length c3) cs w6 from ⟨HR6.out, HOW6.out, HIL.out, fun j h1 h2 => by have := HOB.out j h1; have := (own_lt HIL.out h2).1; omega, HB6.out.1, HB6.out.2.1, HBL.out⟩)
          clear HR6 HOW6 HOB HSI6 HIL HB6
          go_loopw [10, 43] (fun u t wr => ∃ (j : Nat) (c : Nat) (A : Option Addr), j ≤ G.length ∧ t = .int .i64 (j : Int) ∧ u = .slice A (acc ++ pk G cs j).length c ∧ Hid (In1 w3 w5 b L'.length D (fun z => left z && !z.sameKey (nk x)) cnt1 (acc ++ pk G cs j) u (.slice A3 cs.length c3) cs wr)) (fun _ t _ => G.length - (intOf t).toNat)
          case atStart => exact ⟨0, c1, A1, by omega, rfl, by simp [pk], by simpa [pk] using HI0⟩
          case round =>
            obtain ⟨j, c, A, hj, rfl, rfl, HI⟩ := hrel
            clear HI0
            by_cases hlt : j < G.length
            · obtain ⟨A', c', e1, m1, m2, hat⟩ := HS3.out
              obtain ⟨rfl, rfl⟩ : A2 = A' ∧ cap2 = c' := by injection e1 with x1 x2 x3; exact ⟨x1, x3⟩
              obtain ⟨g, rfl, hg, h4⟩ := hat j hlt
              replace h4 := h4.under hg HI.out.bw
              clear e1 hat
              have HIN := Lib.hid (pk_in (c := cs) hlt)
              have HOUT := Lib.hid (pk_out (c := cs) hlt)
              have HPL := Lib.hid (pk_len G cs j)
              generalize G[j] = s at *
              obtain ⟨sn, st, sd, si⟩ := s
              obtain ⟨q0, q1, q2, q3⟩ := h4
              simp only at q0 q1 q2 q3
              have k0 : (j : Int) < (G.length : Int) := by omega
              have k1 : (0 : Int) ≤ (j : Int) := by omega
              obtain ⟨ac, hac⟩ : ∃ ac, acc ++ pk G cs j = ac := ⟨_, rfl⟩
              rw [hac] at HI ⊢
              have HAC := Lib.hid hac
              have HACL := Lib.hid (show ac.length ≤ 200 by have := HLE.out; have := HPL.out; have := HLG.out; rw [← hac, List.length_append]; omega)
              clear hac
              go_upto_region 16 with fail
              refine forget (fun Y => In1 w3 w5 b L'.length D (fun z => left z && !z.sameKey (nk x)) cnt1 ac (.slice A ac.length c) (.slice A3 cs.length c3) cs Y ∧ Row Y wr.heap.size 74 #[.string sn, .int .i64 st, .int .i64 (sd : Nat), .int .i64 (si : Nat)]) ⟨HI.out.under ((Below.refl _ _).alloc (Nat.le_refl _) _), Row.new _ _ _⟩ ?_
              obtain ⟨gx, hgx⟩ : ∃ gx, wr.heap.size = gx := ⟨_, rfl⟩
              rintro Y ⟨hI, rx⟩
              rw [hgx] at rx
              rw [hgx]
              have HI2 := Lib.hid hI
              have c3' := (rx.cell 3).trans rfl
              clear hI rx q0 q1 q2 q3 HI hgx
              go_wp2_with fail
              refine (inC_any Y _ cs si HI2.out.il.zero).mono ?_
              rintro e w7 ⟨rfl, rfl⟩
              by_cases hm : si ∈ cs
              · have HE := Lib.hid (HIN.out hm)
                rw [decide_eq_true hm]
                clear HIN HOUT hm
                go_wp2_with fail
                go_roundw
                case rel => exact ⟨j + 1, c, A, by omega, by go_num, by rw [HE.out, HAC.out], by rw [HE.out, HAC.out]; exact HI2⟩
                case measure => simp [intOf]; omega
              · have HE := Lib.hid (HOUT.out hm)
                rw [decide_eq_false hm]
                clear HIN HOUT hm
                have HI3 := Lib.hid (HI2.out.under ((Below.refl _ _).alloc (Nat.le_refl _) (.cells #[.int .i64 (si : Nat)] 3)))
                go_wp2_with (at_builtin; refine wpList_append_lies _ rfl (.tmp 52) (.tmp 55) 23 rfl (w3.heap.size + 1) 3 i0 _ 1 8 Tryz.underlying23 hi hz0 hz1 hz2 rfl (by decide) (.slice A ac.length c) ac.length (ic ac) rfl HI3.out.ow ⟨Y.heap.size, 0, none⟩ 1 1 [.int .i64 (si : Nat)] rfl rfl (World.news_of_block (cs := #[.int .i64 (si : Nat)]) (t := 3) (fr := (0, 0)) (heap_alloc_new Y _)) (fun u hu => by rw [List.mem_singleton.1 hu]; rfl) (by omega) (by have := HACL.out; unfold maxLen; omega) (by have := HACL.out; omega) HI3.out.s1 (Y.heap.size + 1) (by simp) ?_; intro g' cap' w8 hown8 hgrow8 hat8 hlt8; have H8 := Lib.hid (HI3.out.app hown8 hgrow8 (hat8.imp_right (fun e => by rw [e]; simp))); clear hown8 hgrow8 hat8 hlt8)
                go_wp2_with fail
                go_roundw
                case rel => exact ⟨j + 1, cap', some ⟨g', 0, none⟩, by omega, by go_num, by rw [HE.out, ← List.append_assoc, HAC.out, List.length_append]; rfl, by rw [HE.out, ← List.append_assoc, HAC.out]; simpa using H8⟩
                case measure => simp [intOf]; omega
            · have k0 : ¬ (j : Int) < (G.length : Int) := by omega
              obtain rfl : j = G.length := by omega
              have HE := Lib.hid HST.out
              have HPL := Lib.hid (pk_len G cs G.length)
              go_wp2_with fail
              go_roundw
              case rel => exact ⟨_, cnt1, _, Lib.hid HI.out.rg, Lib.hid HI.out.ow, HE, Lib.hid (by have := HLE.out; have := HPL.out; have := HLG.out; have := HCN.out; rw [List.length_append]; omega), Lib.hid ⟨HI.out.bw, HI.out.s1⟩⟩
              case measure => rw [HI.out.rg.left_eq, HR.out.left_eq]; have := HCN.out; omega
  · have HN := Lib.hid hn; clear hn
    have HB := Lib.hid hb; clear hb
    go_wp2_with fail
    go_ret2
    exact ⟨[], 1, _, .inl ⟨HN.out, rfl, rfl⟩, rfl, il_nil _, HB.out⟩
end Go.Proofs.YtejoabaanclcbaaGreat.Tk


namespace Go.Proofs.YtejoabaanclcbaaGreat.Tk
open Go.RowKit Go.Maps

theorem asc_lt {L : List Sg} : ascP L ↔ L.Pairwise (fun x y => x.t < y.t) := by
  constructor
  · intro h
    rw [List.pairwise_iff_getElem]
    have key : ∀ d i, ∀ h2 : i + d + 1 < L.length, L[i].t < L[i + d + 1].t := by
      intro d
      induction d with
      | zero => intro i h2; exact h i (by omega) (by omega)
      | succ d ih =>
        intro i h2
        have a := ih i (by omega)
        have b := h (i + d + 1) (by omega) (by omega)
        have e : L[i + (d + 1) + 1] = L[i + d + 1 + 1] := by congr 1
        rw [e]
        omega
    intro i j hi hj hij
    have := key (j - i - 1) i (by omega)
    have e : L[i + (j - i - 1) + 1]'(by omega) = L[j] := by congr 1; omega
    rw [e] at this
    exact this
  · intro h i h1 h2
    exact List.pairwise_iff_getElem.1 h i (i + 1) (by omega) (by omega) (by omega)
theorem gr_perm {L L' : List Sg} (h : L'.Perm L) (k : ByteArray) : (gr L' k).Perm (gr L k) := h.filter _
theorem gr_up {L : List Sg} (h : L.Pairwise (fun x y => x.t ≤ y.t)) (k : ByteArray) : (gr L k).Pairwise (fun x y => x.t ≤ y.t) := h.filter _
theorem asc_perm {G G' : List Sg} (hp : G'.Perm G) (hu : G'.Pairwise (fun x y => x.t ≤ y.t)) (h : ascP G) : ascP G' := by
  rw [asc_lt] at h ⊢
  have h1 : G.Pairwise (fun x y => x.t ≠ y.t) := h.imp fun h => by omega
  have h2 : G'.Pairwise (fun x y => x.t ≠ y.t) := hp.symm.pairwise h1 (fun {_ _} h => Ne.symm h)
  exact List.Pairwise.imp₂ (fun _ _ a b => by omega) hu h2
theorem asc_eq {G G' : List Sg} (hp : G'.Perm G) (h : ascP G) (h' : ascP G') : G' = G := by
  rw [asc_lt] at h h'
  exact hp.eq_of_pairwise (le := fun x y : Sg => x.t < y.t) (fun a b _ _ h1 h2 => by omega) h' h
theorem up_eq {l l' : List Nat} (h : l.Pairwise (fun x y => x < y)) (h' : l'.Pairwise (fun x y => x < y)) (hm : ∀ i, i ∈ l ↔ i ∈ l') : l = l' := by
  have n1 : l.Nodup := h.imp fun h => by omega
  have n2 : l'.Nodup := h'.imp fun h => by omega
  have hp : l.Perm l' := (List.perm_ext_iff_of_nodup n1 n2).2 hm
  exact hp.eq_of_pairwise (le := fun x y : Nat => x < y) (fun a b _ _ h1 h2 => by omega) h h'
theorem susL_one {h : Int} {L : List Sg} {l l' : List Nat} (h1 : SusL h L l) (h2 : SusL h L l') : l = l' := by
  obtain ⟨A, a1, a2, a3, a4, a5⟩ := h1
  obtain ⟨B, b1, b2, b3, b4, b5⟩ := h2
  have hab : A.Perm B := a1.trans b1.symm
  have hg : ∀ k, gr A k = gr B k := fun k => asc_eq (gr_perm hab k) (b3 k) (a3 k)
  refine up_eq a4 b4 fun i => ?_
  rw [a5 i, b5 i]
  constructor
  · rintro ⟨x, hx, e, ho⟩; exact ⟨x, hab.mem_iff.1 hx, e, by rw [← hg]; exact ho⟩
  · rintro ⟨x, hx, e, ho⟩; exact ⟨x, hab.mem_iff.2 hx, e, by rw [hg]; exact ho⟩
theorem susT_one {h : Int} {R : List Rq} {l l' : List Nat} {c c' : Int} (h1 : SusT h R l c) (h2 : SusT h R l' c') : l = l' ∧ c = c' := by
  have hx : ∀ {m : List Nat}, (∃ L', L'.Perm (sgl sea 0 R) ∧ L'.Pairwise (fun x y => x.t ≤ y.t) ∧ ∃ k, ¬ ascP (gr L' k)) → SusL h (sgl sea 0 R) m → False := by
    rintro m ⟨A, a1, a2, k, a3⟩ ⟨B, b1, b2, b3, -⟩
    exact a3 (asc_perm (gr_perm (a1.trans b1.symm) k) (gr_up a2 k) (b3 k))
  rcases h1 with ⟨a, rfl, rfl⟩ | ⟨a, b, rfl, rfl⟩ | ⟨a, b, rfl⟩ <;> rcases h2 with ⟨a', rfl, rfl⟩ | ⟨a', b', rfl, rfl⟩ | ⟨a', b', rfl⟩
  · exact ⟨rfl, rfl⟩
  · exact absurd a' a
  · exact absurd a' a
  · exact absurd a a'
  · exact ⟨rfl, rfl⟩
  · exact (hx b b').elim
  · exact absurd a a'
  · exact (hx b' b).elim
  · exact ⟨susL_one b b', rfl⟩
end Go.Proofs.YtejoabaanclcbaaGreat.Tk


namespace Go.Proofs.YtejoabaanclcbaaGreat.Tk
open Go.RowKit Go.Maps

def rel (f : Nat → Nat) (x : Sg) : Sg := ⟨x.nm, x.t, x.nd, f x.ix⟩
/-- A numbering that keeps numbers of L apart. -/
def Apart (f : Nat → Nat) (L : List Sg) : Prop := ∀ x ∈ L, ∀ y ∈ L, f x.ix = f y.ix → x.ix = y.ix
theorem pw_nth {l : List Nat} (h : l.Pairwise (fun x y => x < y)) : ∀ i, ∀ hi : i < l.length, i ≤ l[i]
  | 0, _ => Nat.zero_le _
  | i + 1, hi => by
    have h1 := pw_nth h i (by omega)
    have h2 := List.pairwise_iff_getElem.1 h i (i + 1) (by omega) hi (by omega)
    omega
/-- No error where all can be examined and no two sightings have one time. -/
theorem sus_ok {h : Int} {R : List Rq} {l : List Nat} {c : Int} (ht : SusT h R l c) (hh : 0 ≤ h ∧ h ≤ 1000) (ho : oks sea R) (hd : (sgl sea 0 R).Pairwise (fun x y => x.nm = y.nm → x.t ≠ y.t)) : c = 0 ∧ SusL h (sgl sea 0 R) l := by
  rcases ht with ⟨a, -⟩ | ⟨-, ⟨A, a1, a2, k, a3⟩, -⟩ | ⟨-, b, rfl⟩
  · exact absurd ⟨hh, ho⟩ a
  · refine absurd ?_ a3
    have h1 : A.Pairwise (fun x y => x.nm = y.nm → x.t ≠ y.t) := a1.symm.pairwise hd (fun {_ _} h e => Ne.symm (h e.symm))
    have h2 : (gr A k).Pairwise (fun x y => x.nm = y.nm → x.t ≠ y.t) := h1.filter _
    have h3 := gr_up a2 k
    rw [asc_lt]
    refine List.Pairwise.imp₂ (R := fun x y => x.t ≤ y.t ∧ x.nm = k ∧ y.nm = k) (fun _ _ a b => ?_) ?_ h2
    · have := a.2.1.trans a.2.2.symm
      have := b this
      omega
    · refine List.Pairwise.imp_of_mem (fun {x y} hx hy h => ⟨h, ?_, ?_⟩) h3
      · exact of_decide_eq_true (List.mem_filter.1 hx).2
      · exact of_decide_eq_true (List.mem_filter.1 hy).2
  · exact ⟨rfl, b⟩
end Go.Proofs.YtejoabaanclcbaaGreat.Tk

