/- The walk of GridLocates: for every list the law returns true, and what lay in memory is as it was. -/
import Derived.Test.YtehehhehilgnkaaLocM
import Derived.Test.YtehehhehilgnkaaRfB
import Derived.Test.YtehehhehilgnkaaHop
import Derived.Test.YtehehhehilgnkaaNearLaw
import Derived.StillTailTactics
namespace Go.Proofs.Ytehehhehilgnkaa
open Go.RowKit

theorem wt_wd (n f a b c v : Nat) : Ico.wt f (wd n a) (wd n b) (wd n c) v = Lat.wd' n (Lat.wn f a b c v) := by
  unfold Ico.wt Lat.wn
  split
  · rfl
  · split
    · rfl
    · split
      · rfl
      · simp [Lat.wd']
theorem wt_nd (n k v : Nat) : Ico.wt (Lat.nd n k).1 (wd n (Lat.nd n k).2.1) (wd n (Lat.nd n k).2.2) (wd n (n - (Lat.nd n k).2.1 - (Lat.nd n k).2.2)) v = Lat.wtn n k v := wt_wd n _ _ _ _ v
theorem waAt (f : Nat) (a b c : Int) (v : Nat) (hv : v < 12) : (wa f a b c)[v]? = some (.int .i64 (Ico.wt f a b c v)) := by
  rcases (by omega : v = 0 ∨ v = 1 ∨ v = 2 ∨ v = 3 ∨ v = 4 ∨ v = 5 ∨ v = 6 ∨ v = 7 ∨ v = 8 ∨ v = 9 ∨ v = 10 ∨ v = 11) with rfl | rfl | rfl | rfl | rfl | rfl | rfl | rfl | rfl | rfl | rfl | rfl <;> rfl
/-- Block g holds twelve numbers. -/
def Ac (w : World) (g : Nat) (D : Nat → Int) : Prop := ∃ cs, Row w g 53 cs ∧ cs.size = 12 ∧ ∀ i, i < 12 → cs[i]? = some (.int .i64 (D i))
section
variable {w w' : World} {g : Nat} {D D' : Nat → Int}
theorem Ac.at_ (h : Ac w g D) {i : Nat} (hi : i < 12) : w.cell? ⟨g, i, none⟩ = some (.int .i64 (D i)) ∧ w.frozen? ⟨g, i, none⟩ = false := by
  obtain ⟨cs, h1, h2, h3⟩ := h
  exact ⟨(h1.cell i).trans (h3 i hi), h1.thaw i⟩
theorem Ac.under (h : Ac w g D) (hb : Below w.heap.size w w') : Ac w' g D := by
  obtain ⟨cs, h1, h2, h3⟩ := h
  exact ⟨cs, h1.under hb, h2, h3⟩
theorem Ac.drew (h : Ac w g D) : Ac w.drew g D := h
theorem Ac.same (h : Ac w g D) (e : ∀ i, i < 12 → D i = D' i) : Ac w g D' := by
  obtain ⟨cs, h1, h2, h3⟩ := h
  exact ⟨cs, h1, h2, fun i hi => by rw [h3 i hi, e i hi]⟩
theorem Ac.put (h : Ac w g D) {a : Nat} {x : Int} (ha : a < 12) : Ac (w.setCell ⟨g, a, none⟩ (.int .i64 x)) g (fun i => if i = a then x else D i) := by
  obtain ⟨cs, h1, h2, h3⟩ := h
  refine ⟨_, h1.put a _, by simpa using h2, fun i hi => ?_⟩
  by_cases e : i = a
  · subst e
    rw [Array.getElem?_setIfInBounds, if_pos rfl, if_pos (by omega)]
    simp
  · rw [Array.getElem?_setIfInBounds, if_neg (fun e' => e e'.symm), h3 i hi]
    simp [e]
theorem Ac.lt (h : Ac w g D) : g < w.heap.size := by
  obtain ⟨cs, h1, -⟩ := h
  exact h1.lt
end
/-- What is known inside: the place, the shares, the nodes, the sums. -/
structure Lc (W : World) (n gp gL gn cp ga : Nat) (f : Nat) (A B C : Int) (L : List (Nat × Int)) (D : Nat → Int) (w : World) : Prop where
  below : Below W.heap.size W w
  rp : Row w gp 23 #[.int .i64 f, .int .i64 A, .int .i64 B, .int .i64 C]
  shs : Shs w gL L
  ll : gL < w.heap.size
  nds : w.ownsRow W.heap.size 23 4 (.slice (some ⟨gn, 0, none⟩) (cn n) cp) (cn n) (ncs n (Lat.nodes n))
  acc : Ac w ga D
  ne : W.heap.size ≤ ga ∧ gL ≠ ga
section
variable {W w w' : World} {n gp gL gn cp ga f : Nat} {A B C : Int} {L : List (Nat × Int)} {D D' : Nat → Int}
theorem Lc.under (h : Lc W n gp gL gn cp ga f A B C L D w) (hb : Below w.heap.size w w') : Lc W n gp gL gn cp ga f A B C L D w' :=
  ⟨h.below.trans (hb.mono h.below.size), h.rp.under hb, h.shs.under h.ll hb, Nat.lt_of_lt_of_le h.ll hb.size, own_under h.nds hb, h.acc.under hb, h.ne⟩
theorem Lc.drew (h : Lc W n gp gL gn cp ga f A B C L D w) : Lc W n gp gL gn cp ga f A B C L D w.drew := h.under ⟨rfl, rfl, rfl, Nat.le_refl _, fun _ _ => rfl⟩
theorem Lc.put (h : Lc W n gp gL gn cp ga f A B C L D w) {a : Nat} {x : Int} (ha : a < 12) (e : ∀ i, i < 12 → (if i = a then x else D i) = D' i) : Lc W n gp gL gn cp ga f A B C L D' (w.setCell ⟨ga, a, none⟩ (.int .i64 x)) := by
  have hs := grown_one w ga a (.int .i64 x)
  obtain ⟨cs, c1, c2, c3⟩ := id h.acc
  refine ⟨below_by h.below h.below.size h.ne.1 hs, h.rp.grown hs (fun e => ?_), h.shs.far h.ll (fun e => h.ne.2 (Option.some.inj e)) hs, Nat.lt_of_lt_of_le h.ll hs.size, h.nds.kept hs (.inr ?_), (h.acc.put ha).same e, h.ne⟩
  · have e := Option.some.inj e
    have a := h.rp
    rw [e] at a
    unfold Row at a c1
    rw [a] at c1
    injection c1 with c1
    injection c1 with _ c1
    exact absurd c1 (by decide)
  · have := own_ne h.nds c1 (by decide)
    exact fun e => this e.symm
theorem Lc.same (h : Lc W n gp gL gn cp ga f A B C L D w) (e : ∀ i, i < 12 → D i = D' i) : Lc W n gp gL gn cp ga f A B C L D' w := ⟨h.below, h.rp, h.shs, h.ll, h.nds, h.acc.same e, h.ne⟩
end
/-- What the first k shares give a vertex; .. with the vertices below j of the next share. -/
def acs (n : Nat) (L : List (Nat × Int)) (k v : Nat) : Int := Lat.sI (fun x => x.2 * Lat.wtn n x.1 v) (L.take k)
def acj (n : Nat) (L : List (Nat × Int)) (k j : Nat) (x : Nat × Int) (v : Nat) : Int := acs n L k v + (if v < j then x.2 * Lat.wtn n x.1 v else 0)
theorem acs_succ {n : Nat} {L : List (Nat × Int)} {k : Nat} (hk : k < L.length) (v : Nat) (hv : v < 12) : acj n L k 12 L[k] v = acs n L (k + 1) v := by
  unfold acj acs
  rw [List.take_succ_eq_append_getElem hk, Lat.sI_app, if_pos hv]
  simp [Lat.sI]
theorem acj_succ (n : Nat) (L : List (Nat × Int)) (k j : Nat) (x : Nat × Int) (v : Nat) : (if v = j then acj n L k j x j + x.2 * Lat.wtn n x.1 j else acj n L k j x v) = acj n L k (j + 1) x v := by
  unfold acj
  by_cases e : v = j
  · subst e
    rw [if_pos rfl, if_neg (Nat.lt_irrefl _), if_pos (Nat.lt_succ_self _)]; omega
  · rw [if_neg e]
    congr 1
    by_cases h : v < j
    · rw [if_pos h, if_pos (by omega)]
    · rw [if_neg h, if_neg (by omega)]
theorem wtn_bd {n k : Nat} (hn : Lat.frq n) (hk : k < cn n) (v : Nat) : 0 ≤ Lat.wtn n k v ∧ Lat.wtn n k v ≤ 840 := by
  rw [← wt_nd]
  exact Ico.wt_bd (nd_vld hn hk) v
theorem mul_bd {u t : Int} (h1 : 0 ≤ u) (h2 : u ≤ 840) (h3 : 0 ≤ t) (h4 : t ≤ 840) : 0 ≤ u * t ∧ u * t ≤ 705600 :=
  ⟨Int.mul_nonneg h1 h3, Int.le_trans (Int.mul_le_mul_of_nonneg_right h2 h3) (by omega)⟩
theorem acs_bd {n : Nat} {L : List (Nat × Int)} (hn : Lat.frq n) (hL : ∀ x ∈ L, x.1 < cn n ∧ 0 < x.2 ∧ x.2 ≤ 840) (k v : Nat) (hk : k ≤ 3) : 0 ≤ acs n L k v ∧ acs n L k v ≤ 705600 * k := by
  induction k with
  | zero => simp [acs, Lat.sI]
  | succ k ih =>
    have ih := ih (by omega)
    by_cases h : k < L.length
    · have e : acs n L (k + 1) v = acs n L k v + L[k].2 * Lat.wtn n L[k].1 v := by
        unfold acs
        rw [List.take_succ_eq_append_getElem h, Lat.sI_app]
        simp [Lat.sI]
      have hx := hL L[k] (List.getElem_mem h)
      have hw := wtn_bd hn hx.1 v
      have := mul_bd (by omega) hx.2.2 hw.1 hw.2
      omega
    · have e : acs n L (k + 1) v = acs n L k v := by
        unfold acs
        rw [List.take_of_length_le (by omega), List.take_of_length_le (by omega)]
      omega
theorem sum_succ {L : List (Nat × Int)} {k : Nat} (hk : k < L.length) : Lat.sI (fun x => x.2) (L.take (k + 1)) = Lat.sI (fun x => x.2) (L.take k) + L[k].2 := by
  rw [List.take_succ_eq_append_getElem hk, Lat.sI_app]
  simp [Lat.sI]
theorem sum_bd {L : List (Nat × Int)} (hL : ∀ x ∈ L, 0 < x.2 ∧ x.2 ≤ 840) (k : Nat) (hk : k ≤ 3) : 0 ≤ Lat.sI (fun x => x.2) (L.take k) ∧ Lat.sI (fun x => x.2) (L.take k) ≤ 840 * k := by
  induction k with
  | zero => simp [Lat.sI]
  | succ k ih =>
    have ih := ih (by omega)
    by_cases h : k < L.length
    · have := sum_succ h
      have hx := hL L[k] (List.getElem_mem h)
      omega
    · rw [List.take_of_length_le (by omega)] at ih ⊢
      omega
theorem ac_made (w : World) : Ac (w.alloc (.cells z12 53)) w.heap.size (fun _ => 0) :=
  ⟨_, Row.new _ _ _, rfl, fun i hi => z12_at i hi⟩
theorem hd_other {f : Nat} {A B C : Int} {n : Nat} (h1 : 1 ≤ n) (h5 : n ≤ 5) (hv : Ico.Vld f A B C) {g : Nat} (hg : g ∈ Ico.fcs f A B C 20) :
    Ico.Vld g (Ico.wt f A B C (Ico.cor g 0)) (Ico.wt f A B C (Ico.cor g 1)) (Ico.wt f A B C (Ico.cor g 2)) ∧ Lat.loc n g (Ico.wt f A B C (Ico.cor g 0)) (Ico.wt f A B C (Ico.cor g 1)) (Ico.wt f A B C (Ico.cor g 2)) = Lat.loc n f A B C := by
  obtain ⟨h, ho⟩ := Ico.mem_fcs.1 hg
  have hw := Ico.vld_on hv h ho
  exact ⟨hw, (Lat.loc_same h1 h5 hv hw (fun v => (Ico.wt_on hv h ho v).symm)).symm⟩
set_option maxRecDepth 100000 in
set_option maxHeartbeats 8000000 in
theorem gridLocates_any (v : Value) (w : World) (hl : ListIn w v) :
    Calls Try.prog 5 #[v] w fun e w' => e = .returned (.bool true) ∧ Below w.heap.size w w' := by
  go_enter Try.func5, Try.ntmps5
  go_wp2_with fail
  refine (new_any _ _ hl).mono ?_
  rintro e w1 ⟨rfl, s1, -⟩
  go_wp2_with fail
  refine (range_any _ _ _ _ _ s1 (by omega) (by omega) (by omega) (by omega)).mono ?_
  rintro e w2 ⟨n', ⟨n1, n2⟩, rfl, s2, -⟩
  obtain ⟨n, rfl⟩ := Int.eq_ofNat_of_zero_le (show 0 ≤ n' by omega)
  have h15 : 1 ≤ n ∧ n ≤ 5 := ⟨by omega, by omega⟩
  have hn : Lat.frq n := ⟨by omega, by omega⟩
  go_wp2_with fail
  refine (somewhere_any _ _ _ s2).mono ?_
  rintro e w3 ⟨f, x, y, z, hv, rfl, s3, -⟩
  have HN := Lib.hid hn; clear hn
  have H15 := Lib.hid h15; clear h15
  have HV := Lib.hid hv; clear hv
  go_upto_region 4 with fail
  refine forget (fun Y => Below w.heap.size w Y ∧ Row Y w3.heap.size 23 #[.int .i64 f, .int .i64 x, .int .i64 y, .int .i64 z]) ⟨s3.below.alloc s3.below.size _, Row.new _ _ _⟩ ?_
  clear s1 s2 s3 hl
  generalize w3.heap.size = gp at *
  rintro Y ⟨bY, rp⟩
  obtain ⟨p0, p1, p2, p3⟩ := row4 rp
  go_wp2_with fail
  refine (locate_yes n f x y z _ HN.out HV.out).mono ?_
  rintro e w5 ⟨u, rfl, gL, cap, rfl, c1, c2, hb5, -, lg, hS⟩
  have H5 := Lib.hid (And.intro (bY.trans (hb5.mono bY.size)) (And.intro (rp.under hb5) (And.intro hS lg)))
  clear bY rp hb5 hS lg p0 p1 p2 p3
  have hlen := Lat.loc_pos HN.out HV.out
  have HIN := Lib.hid (fun q (hq : q ∈ Lat.loc n f x y z) => (show q.1 < cn n ∧ 0 < q.2 ∧ q.2 ≤ 840 from Lat.loc_in HN.out HV.out q hq))
  have HSRT : Hid ((Lat.loc n f x y z).Pairwise (fun a b : Nat × Int => a.1 < b.1)) := Lib.hid (by
    have h1 : (Lat.loc n f x y z).Pairwise (fun a b : Nat × Int => a.1 ≤ b.1) := Lat.srt_sorted _
    have h2 : (Lat.loc n f x y z).Pairwise (fun a b : Nat × Int => a.1 ≠ b.1) := ((Lat.srt_perm _).symm.pairwise_iff (fun {a b} (h : a.1 ≠ b.1) => h.symm)).1 (Lat.shl_ne HN.out HV.out)
    exact (h1.and h2).imp (fun h => by omega))
  have HSUM := Lib.hid (fun v => Lat.loc_sum HN.out HV.out v)
  have HALL := Lib.hid (Lat.loc_all HN.out HV.out)
  have HNEAR := Lib.hid (fun a b (ha : a ∈ Lat.loc n f x y z) (hb : b ∈ Lat.loc n f x y z) (hne : a.1 ≠ b.1) => Lat.loc_near HN.out HV.out ha hb hne)
  have HOTH := Lib.hid (fun g (hg : g ∈ Ico.fcs f x y z 20) => hd_other H15.out.1 H15.out.2 HV.out hg)
  generalize Lat.loc n f x y z = L at *
  obtain ⟨l0, l3⟩ := hlen
  have l0' : 0 < (L.length : Int) := by omega
  have l3' : (L.length : Int) ≤ 3 := by omega
  have z1 : ((L.length : Int) == 0) = false := beq_eq_false_iff_ne.2 (by omega)
  have hc : 12 ≤ (cn n : Int) ∧ (cn n : Int) ≤ 252 := by rcases Lat.five_of H15.out.1 H15.out.2 with e | e | e | e | e <;> (rw [e]; decide)
  obtain ⟨hc1, hc2⟩ := hc
  go_wp2_with fail
  refine (nodes_yes n _ HN.out).mono ?_
  rintro e w6 ⟨gn, cap6, rfl, hb6, hown⟩
  have H6 := Lib.hid (And.intro (H5.out.1.trans (hb6.mono H5.out.1.size)) (And.intro (H5.out.2.1.under hb6) (And.intro (H5.out.2.2.1.under H5.out.2.2.2 hb6) (And.intro (Nat.lt_of_lt_of_le H5.out.2.2.2 hb6.size) (hown.mono H5.out.1.size)))))
  clear hb6 hown H5
  go_upto_region 10 with fail
  have hM : Lc w n gp gL gn cap6 w6.heap.size f x y z L (acs n L 0) (w6.alloc (.cells z12 53)) :=
    ⟨H6.out.1.alloc H6.out.1.size _, H6.out.2.1.alloc _, H6.out.2.2.1.under H6.out.2.2.2.1 ((Below.refl _ _).alloc (Nat.le_refl _) _), by have := H6.out.2.2.2.1; simp; omega, H6.out.2.2.2.2.alloc _, (ac_made w6).same (fun i _ => by simp [acs, Lat.sI]), H6.out.1.size, by have := H6.out.2.2.2.1; omega⟩
  refine forget (fun Y => Lc w n gp gL gn cap6 w6.heap.size f x y z L (acs n L 0) Y) hM ?_
  clear hM H6
  generalize w6.heap.size = ga at *
  rintro Y hY
  have HY := Lib.hid hY; clear hY
  go_wp2_with fail
  go_loopw [10, 62] (fun s t wr => ∃ k : Nat, k ≤ L.length ∧ t = .int .i64 k ∧ s = .int .i64 (Lat.sI (fun x => x.2) (L.take k)) ∧ Lc w n gp gL gn cap6 ga f x y z L (acs n L k) wr) (fun _ t _ => L.length - (intOf t).toNat)
  case atStart => exact ⟨0, by omega, rfl, rfl, HY.out⟩
  case round =>
    clear HY
    obtain ⟨k, hk, rfl, rfl, M⟩ := hrel
    by_cases hlt : k < L.length
    · have k0 : (0 : Int) ≤ (k : Int) := by omega
      have k1 : (k : Int) < (L.length : Int) := by omega
      obtain ⟨q0, q1⟩ := M.shs k hlt
      have HX := Lib.hid (HIN.out L[k] (List.getElem_mem hlt))
      have HPRV := Lib.hid (fun (j : Nat) (hj : j < k) => List.pairwise_iff_getElem.1 HSRT.out j k (by omega) hlt hj)
      have HSS := Lib.hid (sum_succ hlt)
      have HAS := Lib.hid (fun v (hv : v < 12) => acs_succ (n := n) hlt v hv)
      obtain ⟨sb0, sb1⟩ := sum_bd (L := L) (fun q hq => (HIN.out q hq).2) k (by omega)
      have HAB := Lib.hid (fun v => acs_bd HN.out HIN.out k v (by omega))
      generalize hx : L[k] = x0 at *
      have HXE := Lib.hid hx; clear hx
      obtain ⟨kn, u⟩ := x0
      simp only at q0 q1
      generalize Lat.sI (fun x => x.2) (L.take k) = sm at *
      have u1 : 1 ≤ u := by have := HX.out.2.1; simp only at this; omega
      have u2 : u ≤ 840 := HX.out.2.2
      have kn0 : (0 : Int) ≤ (kn : Int) := by omega
      have kn1 : (kn : Int) < (cn n : Int) := by have := HX.out.1; simp only at this; omega
      have hk3 : (k : Int) ≤ 2 := by omega
      have HM := Lib.hid M; clear M
      go_upto_region 13 with fail
      refine forget (fun V => Lc w n gp gL gn cap6 ga f x y z L (acj n L k 0 (kn, u)) V ∧ Row V wr.heap.size 55 #[.int .i64 (kn : Int), .int .i64 u]) ⟨(HM.out.under ((Below.refl _ _).alloc (Nat.le_refl _) _)).same (fun i _ => by simp [acj]), Row.new _ _ _⟩ ?_
      clear HM q0 q1
      generalize wr.heap.size = gx at *
      rintro V ⟨M, r⟩
      obtain ⟨q0, q1⟩ : V.cell? ⟨gx, 0, none⟩ = some (.int .i64 (kn : Int)) ∧ V.cell? ⟨gx, 1, none⟩ = some (.int .i64 u) := ⟨(r.cell 0).trans rfl, (r.cell 1).trans rfl⟩
      have HM := Lib.hid (And.intro M r)
      clear M r
      go_cut [96] from 67 to 96 (fun t wc => t = .bool false ∧ Lc w n gp gL gn cap6 ga f x y z L (acj n L k 0 (kn, u)) wc ∧ Row wc gx 55 #[.int .i64 (kn : Int), .int .i64 u])
      case first =>
        have kn2 : ¬ (cn n ≤ kn) := by omega
        have kn3 : kn < cn n := by omega
        by_cases hk0 : k = 0
        · have d0 : decide ((0 : Int) < (k : Int)) = false := decide_eq_false (by omega)
          have d1 : ¬ ((0 : Int) < (k : Int)) := by omega
          have d2 : ¬ (0 < k) := by omega
          clear hk0
          have e1 : decide (u < 1) = false := decide_eq_false (by omega)
          have e2 : decide ((kn : Int) < 0) = false := decide_eq_false (by omega)
          have e3 : decide ((cn n : Int) ≤ (kn : Int)) = false := decide_eq_false (by omega)
          have e4 : decide (cn n ≤ kn) = false := decide_eq_false kn2
          go_quiet (fail)
          go_wp2_with fail
          go_meet
          exact ⟨rfl, HM.out.1.under ⟨rfl, rfl, rfl, Nat.le_refl _, fun _ _ => rfl⟩, HM.out.2⟩
        · have hkp : (0 : Int) < (k : Int) := by omega
          obtain ⟨r0, -⟩ := HM.out.1.shs (k - 1) (by omega)
          have hp := HPRV.out (k - 1) (by omega)
          generalize L[k - 1] = px at *
          obtain ⟨pn, pu⟩ := px
          simp only at r0 hp
          have hp' : ¬ ((kn : Int) ≤ (pn : Int)) := by omega
          have hp2 : ¬ (kn ≤ pn) := by omega
          have hkq : 0 < k := by omega
          have w1 : IntKind.i64.wrap ((k : Int) - 1) = (k : Int) - 1 := IntWalk.i64_in _ (by omega)
          have w2 : ((k : Int) - 1).toNat = k - 1 := by omega
          have w3 : (0 : Int) ≤ (k : Int) - 1 := by omega
          have w4 : (k : Int) - 1 < (L.length : Int) := by omega
          have d0 : decide ((0 : Int) < (k : Int)) = true := decide_eq_true hkp
          clear hp
          have e1 : decide (u < 1) = false := decide_eq_false (by omega)
          have e2 : decide ((kn : Int) < 0) = false := decide_eq_false (by omega)
          have e3 : decide ((cn n : Int) ≤ (kn : Int)) = false := decide_eq_false (by omega)
          have e4 : decide (cn n ≤ kn) = false := decide_eq_false kn2
          have e5 : decide ((kn : Int) ≤ (pn : Int)) = false := decide_eq_false hp'
          have e6 : decide (kn ≤ pn) = false := decide_eq_false hp2
          go_quiet (fail)
          go_wp2_with fail
          go_meet
          exact ⟨rfl, HM.out.1.under ⟨rfl, rfl, rfl, Nat.le_refl _, fun _ _ => rfl⟩, HM.out.2⟩
      case rest =>
        obtain ⟨rfl, M, r⟩ := hcut
        clear HM q0 q1 HPRV
        obtain ⟨q0, q1⟩ : wc.cell? ⟨gx, 0, none⟩ = some (.int .i64 (kn : Int)) ∧ wc.cell? ⟨gx, 1, none⟩ = some (.int .i64 u) := ⟨(r.cell 0).trans rfl, (r.cell 1).trans rfl⟩
        have hkn : kn < cn n := HX.out.1
        obtain ⟨d0, d1, d2, d3⟩ := nd_cells HN.out M.nds kn hkn
        have HWN := Lib.hid (fun v => wt_nd n kn v)
        have HF := Lib.hid (Lat.nd_in HN.out hkn).1
        have HWB := Lib.hid (fun v => wtn_bd HN.out hkn v)
        clear hkn
        generalize (Lat.nd n kn).1 = f' at *
        generalize wd n (Lat.nd n kn).2.1 = x' at *
        generalize wd n (Lat.nd n kn).2.2 = y' at *
        generalize wd n (n - (Lat.nd n kn).2.1 - (Lat.nd n kn).2.2) = z' at *
        have HM := Lib.hid (And.intro M r); clear M r
        have s1 : IntKind.i64.wrap (sm + u) = sm + u := IntWalk.i64_in _ (by omega)
        go_wp2_with fail
        refine (refWeights_any f' x' y' z' _ HF.out).mono ?_
        rintro e w7 ⟨rfl, hb7⟩
        have HM7 := Lib.hid (And.intro (HM.out.1.under hb7) (HM.out.2.under hb7))
        clear hb7 HM q0 q1 d0 d1 d2 d3 s1
        go_upto_region 18 with fail
        refine forget (fun V => (Lc w n gp gL gn cap6 ga f x y z L (acj n L k 0 (kn, u)) V ∧ Row V gx 55 #[.int .i64 (kn : Int), .int .i64 u]) ∧ Row V w7.heap.size 53 (wa f' x' y' z') ∧ ga < w7.heap.size) ⟨⟨HM7.out.1.under ((Below.refl _ _).alloc (Nat.le_refl _) _), HM7.out.2.alloc _⟩, Row.new _ _ _, HM7.out.1.acc.lt⟩ ?_
        clear HM7
        generalize w7.heap.size = gw at *
        rintro V2 ⟨M2, r2, hgw⟩
        have HGW := Lib.hid hgw; clear hgw
        have HM := Lib.hid (And.intro M2 r2); clear M2 r2
        go_wp2_with fail
        go_loopw [15] (fun t wr => ∃ j : Nat, j ≤ 12 ∧ t = .int .i64 j ∧ (Lc w n gp gL gn cap6 ga f x y z L (acj n L k j (kn, u)) wr ∧ Row wr gx 55 #[.int .i64 (kn : Int), .int .i64 u]) ∧ Row wr gw 53 (wa f' x' y' z')) (fun t _ => 12 - (intOf t).toNat)
        case atStart => exact ⟨0, by omega, rfl, HM.out.1, HM.out.2⟩
        case round =>
          clear HM
          obtain ⟨j, hj, rfl, ⟨M, r⟩, rw'⟩ := hrel
          by_cases hlj : j < 12
          · have j0 : (0 : Int) ≤ (j : Int) := by omega
            have j1 : (j : Int) < 12 := by omega
            obtain ⟨a0, a1⟩ := M.acc.at_ hlj
            have q1 : wr.cell? ⟨gx, 1, none⟩ = some (.int .i64 u) := (r.cell 1).trans rfl
            have t0 := (rw'.cell j).trans (wa_at f' x' y' z' j hlj)
            rw [HWN.out j] at t0
            obtain ⟨t1, t2⟩ := HWB.out j
            have hacj : acj n L k j (kn, u) j = acs n L k j := by simp [acj]
            have hab := HAB.out j
            rw [← hacj] at hab
            obtain ⟨ab0, ab1⟩ := hab
            have HAJ := Lib.hid (fun i => acj_succ n L k j (kn, u) i)
            have HMM := Lib.hid (And.intro M (And.intro r rw'))
            clear M r rw' hacj
            simp only at HAJ
            generalize acj n L k j (kn, u) j = av at *
            generalize hm : Lat.wtn n kn j = tw at *
            clear hm
            obtain ⟨m0, m1⟩ := mul_bd (show 0 ≤ u by omega) u2 t1 t2
            have x1 : IntKind.i64.wrap (u * tw) = u * tw := IntWalk.i64_in _ (by omega)
            have x2 : IntKind.i64.wrap (av + u * tw) = av + u * tw := IntWalk.i64_in _ (by omega)
            go_upto_region 20 with fail
            go_still_tail 11, (by kernel_rfl)
            change wpList _ _ _ _ _ wr.drew
            have HP : Hid ((Lc w n gp gL gn cap6 ga f x y z L (acj n L k (j + 1) (kn, u)) (wr.drew.setCell ⟨ga, j, none⟩ (.int .i64 (av + u * tw))) ∧ Row (wr.drew.setCell ⟨ga, j, none⟩ (.int .i64 (av + u * tw))) gx 55 #[.int .i64 (kn : Int), .int .i64 u]) ∧ Row (wr.drew.setCell ⟨ga, j, none⟩ (.int .i64 (av + u * tw))) gw 53 (wa f' x' y' z')) := Lib.hid ⟨⟨HMM.out.1.drew.put hlj (fun i _ => HAJ.out i), HMM.out.2.1.drew.far (p := ⟨ga, j, none⟩) (fun e => by
              have e : ga = gx := e
              obtain ⟨cs, c1, -⟩ := HMM.out.1.acc
              have c2 := HMM.out.2.1
              rw [e] at c1
              unfold Row at c1 c2
              rw [c1] at c2
              injection c2 with c2
              injection c2 with _ c2
              exact absurd c2 (by decide)) _⟩, HMM.out.2.2.drew.far (p := ⟨ga, j, none⟩) (fun e => by have e : ga = gw := e; have := HGW.out; omega) _⟩
            go_wp2_with fail
            go_roundw
            case rel => exact ⟨j + 1, by omega, by go_num, HP.out.1, HP.out.2⟩
            case measure => simp [intOf]; omega
          · have j1 : ¬ ((j : Int) < 12) := by omega
            obtain rfl : j = 12 := by omega
            have HMM := Lib.hid (M.same (fun v hv => HAS.out v hv)); clear M r rw'
            go_wp2_with fail
            go_roundw
            case rel => exact ⟨k + 1, by omega, by go_num, by rw [HSS.out], HMM.out⟩
            case measure => simp [intOf]; omega
    · have k1 : ¬ ((k : Int) < (L.length : Int)) := by omega
      have hke : k = L.length := by omega
      have hM : Lc w n gp gL gn cap6 ga f x y z L (fun v => 840 * Ico.wt f x y z v) wr := M.same (fun v _ => by
        rw [hke]
        unfold acs
        rw [List.take_length]
        exact HSUM.out v)
      rw [hke, List.take_length, HALL.out]
      obtain ⟨p0, p1, p2, p3⟩ := row4 hM.rp
      have HM := Lib.hid hM; clear hM M hke
      rw [show k = L.length by omega] at k1
      go_wp2_with fail
      refine (refWeights_any f x y z _ HV.out.1).mono ?_
      rintro e w7 ⟨rfl, hb7⟩
      have HM7 := Lib.hid (HM.out.under hb7)
      clear hb7 HM p0 p1 p2 p3
      go_upto_region 24 with fail
      refine forget (fun V => Lc w n gp gL gn cap6 ga f x y z L (fun v => 840 * Ico.wt f x y z v) V ∧ Row V w7.heap.size 53 (wa f x y z)) ⟨HM7.out.under ((Below.refl _ _).alloc (Nat.le_refl _) _), Row.new _ _ _⟩ ?_
      clear HM7 k1 hk hlt
      generalize w7.heap.size = go at *
      rintro V ⟨M, r⟩
      have HM := Lib.hid (And.intro M r); clear M r
      go_wp2_with fail
      go_loopw [17] (fun t wr => ∃ v : Nat, v ≤ 12 ∧ t = .int .i64 v ∧ Lc w n gp gL gn cap6 ga f x y z L (fun v => 840 * Ico.wt f x y z v) wr ∧ Row wr go 53 (wa f x y z)) (fun t _ => 12 - (intOf t).toNat)
      case atStart => exact ⟨0, by omega, rfl, HM.out.1, HM.out.2⟩
      case round =>
        clear HM
        obtain ⟨j, hj, rfl, M, r⟩ := hrel
        by_cases hlj : j < 12
        · have j0 : (0 : Int) ≤ (j : Int) := by omega
          have j1 : (j : Int) < 12 := by omega
          obtain ⟨a0, a1⟩ := M.acc.at_ hlj
          have t0 := (r.cell j).trans (wa_at f x y z j hlj)
          obtain ⟨t1, t2⟩ := Ico.wt_bd HV.out j
          try simp only at a0
          generalize Ico.wt f x y z j = tw at *
          have x1 : IntKind.i64.wrap (840 * tw) = 840 * tw := IntWalk.i64_in _ (by omega)
          have HMM := Lib.hid (And.intro M r); clear M r
          go_upto_region 26 with fail
          go_still_tail 7, (by kernel_rfl)
          change wpList _ _ _ _ _ wr.drew
          go_wp2_with fail
          go_roundw
          case rel => exact ⟨j + 1, by omega, by go_num, HMM.out.1.drew, HMM.out.2⟩
          case measure => simp [intOf]; omega
        · have j1 : ¬ ((j : Int) < 12) := by omega
          obtain ⟨p0, p1, p2, p3⟩ := row4 M.rp
          have HM := Lib.hid M; clear M r
          go_wp2_with fail
          refine (refAddresses_open f x y z _ HV.out).mono ?_
          rintro e w8 ⟨gq, capq, rfl, hb8, hgq, hql, hq1, hq2, hHas⟩
          have HM8 := Lib.hid (And.intro (HM.out.under hb8) (And.intro hHas hql))
          have hfl : ((Ico.fcs f x y z 20).length : Int) ≤ 20 := by have := Ico.fcs_len_le f x y z 20; omega
          clear hb8 HM p0 p1 p2 p3 j1 hj hlj hHas
          go_wp2_with fail
          go_loopw [144] (fun t wr => ∃ i : Nat, i ≤ (Ico.fcs f x y z 20).length ∧ t = .int .i64 i ∧ Lc w n gp gL gn cap6 ga f x y z L (fun v => 840 * Ico.wt f x y z v) wr ∧ Has wr f x y z gq ∧ gq < wr.heap.size) (fun t _ => (Ico.fcs f x y z 20).length - (intOf t).toNat)
          case atStart => exact ⟨0, by omega, rfl, HM8.out.1, HM8.out.2.1, HM8.out.2.2⟩
          case round =>
            clear HM8
            obtain ⟨i, hi, rfl, M, hH, hG⟩ := hrel
            by_cases hlt : i < (Ico.fcs f x y z 20).length
            · have i0 : (0 : Int) ≤ (i : Int) := by omega
              have i1 : (i : Int) < ((Ico.fcs f x y z 20).length : Int) := by omega
              obtain ⟨c0, c1', c2', c3⟩ := hH i hlt
              have HO := Lib.hid (HOTH.out _ (List.getElem_mem hlt))
              generalize (Ico.fcs f x y z 20)[i] = g' at *
              generalize Ico.wt f x y z (Ico.cor g' 0) = xa' at *
              generalize Ico.wt f x y z (Ico.cor g' 1) = xb' at *
              generalize Ico.wt f x y z (Ico.cor g' 2) = xc' at *
              have HM := Lib.hid (And.intro M (And.intro hH hG)); clear M hH hG
              go_upto_region 32 with fail
              refine forget (fun V => (Lc w n gp gL gn cap6 ga f x y z L (fun v => 840 * Ico.wt f x y z v) V ∧ Has V f x y z gq ∧ gq < V.heap.size) ∧ Row V wr.heap.size 23 #[.int .i64 g', .int .i64 xa', .int .i64 xb', .int .i64 xc']) ⟨⟨HM.out.1.under ((Below.refl _ _).alloc (Nat.le_refl _) _), HM.out.2.1.under HM.out.2.2 ((Below.refl _ _).alloc (Nat.le_refl _) _), by have := HM.out.2.2; simp; omega⟩, Row.new _ _ _⟩ ?_
              clear HM c0 c1' c2' c3
              generalize wr.heap.size = gy at *
              rintro V ⟨hV, r⟩
              obtain ⟨p0, p1, p2, p3⟩ := row4 r
              have HM := Lib.hid hV; clear hV r
              go_wp2_with fail
              refine (locate_yes n g' xa' xb' xc' _ HN.out HO.out.1).mono ?_
              rintro e w9 ⟨u9, rfl, hr⟩
              rw [HO.out.2] at hr
              have hb9 : Below V.heap.size V w9 := by obtain ⟨_, _, _, _, _, h4, _⟩ := hr; exact h4
              have HM9 := Lib.hid (And.intro (HM.out.1.under hb9) (And.intro (HM.out.2.1.under HM.out.2.2 hb9) (Nat.lt_of_lt_of_le HM.out.2.2 hb9.size)))
              have HS9 := Lib.hid (ShIn.of hr)
              have HX9 : Hid (ShIn w9 (.slice (some ⟨gL, 0, none⟩) L.length cap) L) := Lib.hid ⟨_, cap, rfl, c1, c2, fun q hq => ⟨gL, rfl, HM9.out.1.ll, (HM9.out.1.shs q hq).1, (HM9.out.1.shs q hq).2⟩⟩
              clear hb9 hr HM p0 p1 p2 p3
              obtain ⟨A9, c9, e9, -⟩ := id HS9.out
              subst e9
              go_wp2_with fail
              refine (shareq_any _ _ _ _ _ HX9.out HS9.out).mono ?_
              rintro e w10 ⟨rfl, hb10⟩
              rw [show decide (L = L) = true from decide_eq_true rfl]
              have HM10 := Lib.hid (And.intro (HM9.out.1.under hb10) (And.intro (HM9.out.2.1.under HM9.out.2.2 hb10) (Nat.lt_of_lt_of_le HM9.out.2.2 hb10.size)))
              clear hb10 HM9 HS9 HX9
              go_wp2_with fail
              go_roundw
              case rel => exact ⟨i + 1, by omega, by go_num, HM10.out.1, HM10.out.2.1, HM10.out.2.2⟩
              case measure => simp [intOf]; omega
            · have i1 : ¬ ((i : Int) < ((Ico.fcs f x y z 20).length : Int)) := by omega
              have HM := Lib.hid M; clear M hH hG
              go_upto_region 37 with fail
              clear i1 hi hlt hfl
              go_wp2_with fail
              go_loopw [24] (fun t wr => ∃ i : Nat, 1 ≤ i ∧ i ≤ L.length ∧ t = .int .i64 i ∧ Lc w n gp gL gn cap6 ga f x y z L (fun v => 840 * Ico.wt f x y z v) wr) (fun t _ => L.length - (intOf t).toNat)
              case atStart => exact ⟨1, by omega, by omega, rfl, HM.out⟩
              case round =>
                clear HM
                obtain ⟨i, hi1, hi, rfl, M⟩ := hrel
                by_cases hlt : i < L.length
                · have i0 : (0 : Int) ≤ (i : Int) := by omega
                  have i1 : (i : Int) < (L.length : Int) := by omega
                  obtain ⟨q0, -⟩ := M.shs 0 l0
                  obtain ⟨q1, -⟩ := M.shs i hlt
                  have ha := (HIN.out L[0] (List.getElem_mem l0)).1
                  have hb := (HIN.out L[i] (List.getElem_mem hlt)).1
                  have hne : L[0].1 ≠ L[i].1 := by have := List.pairwise_iff_getElem.1 HSRT.out 0 i l0 hlt (by omega); omega
                  have hd : Lat.Dist n L[0].1 L[i].1 1 := by
                    obtain ⟨d, hd⟩ := Lat.dist_all HN.out ha hb
                    have e1 := (Lat.dist_near HN.out ha hd).2 (HNEAR.out _ _ (List.getElem_mem l0) (List.getElem_mem hlt) hne)
                    rw [← e1]; exact hd
                  have HD := Lib.hid (And.intro ha (And.intro hb hd)); clear ha hb hd hne
                  have HK := Lib.hid (fun (W' : World) (hb : Below wr.drew.heap.size wr.drew W') => And.intro ((M.drew.under hb).shs 0 l0).1 ((M.drew.under hb).shs i hlt).1)
                  generalize L[0].1 = a at *
                  generalize L[i].1 = b at *
                  have HM := Lib.hid M; clear M
                  go_upto_region 39 with fail
                  go_region_held3 (fun w' => w'.cell? ⟨gL, 0 * 2, none⟩ = some (.int .i64 (a : Int)) ∧ w'.cell? ⟨gL, i * 2, none⟩ = some (.int .i64 (b : Int)))
                    (first | go_keep | exact hk11 | exact ⟨hk11.1, hk11.2⟩)
                    ((go_at_call 28; refine (hops_yes n a b 1 _ HN.out HD.out.1 HD.out.2.1 HD.out.2.2 (by omega)).mono ?_; rintro e w11 ⟨rfl, hb11⟩; have hk11 := HK.out _ hb11))
                  have HM11 := Lib.hid (HM.out.drew.under hb11); clear hb11 HM
                  go_wp2_with fail
                  go_roundw
                  case rel => exact ⟨i + 1, by omega, by omega, by go_num, HM11.out⟩
                  case measure => simp [intOf]; omega
                · have i1 : ¬ ((i : Int) < (L.length : Int)) := by omega
                  have HM := Lib.hid M.below; clear M
                  go_wp2_with fail
                  refine (awake_from (w0 := w) _ HM.out).mono ?_
                  rintro e w12 ⟨rfl, hb12⟩
                  have B12 := Lib.hid hb12; clear hb12
                  go_wp2_with fail
                  go_ret
                  exact ⟨rfl, B12.out⟩
end Go.Proofs.Ytehehhehilgnkaa
