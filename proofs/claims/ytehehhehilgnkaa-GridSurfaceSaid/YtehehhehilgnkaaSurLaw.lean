/- The walk of GridSurface: for every number the law returns true, and what lay in memory is as it was. -/
import Derived.Test.YtehehhehilgnkaaSurN
import Derived.Test.YtehehhehilgnkaaCel2
import Derived.Test.YtehehhehilgnkaaShr
import Derived.Laws.StructEq
import Derived.ChangeKeysEq
namespace Go.Proofs.Ytehehhehilgnkaa
open Go.RowKit

theorem eq_edge (a b a' b' : Int) (w : World) :
    (Op.equalIn 10000 49 (.agg #[.int .i64 a, .int .i64 b]) (.agg #[.int .i64 a', .int .i64 b'])).run Try.prog w = .ok (a == a' && b == b') w := by
  have u3 := Try.underlying3
  have a3 := Try.isAgg3
  have z3 := Try.sizeOf3
  have hS : Try.prog.underlying 49 = some (.struct (Try.prog.fieldsOf 49)) := by kernel_rfl
  rw [show (10000 : Nat) = 9999 + 1 from rfl, run_equalIn_agg w 9999 49 _ _ hS (by kernel_rfl)]
  simp only [Program.fieldsOf, Try.underlying49]
  go_simp
  by_cases h1 : a = a' <;> by_cases h2 : b = b' <;> simp [h1, h2]
/-- Block g holds m numbers. -/
def Di (w : World) (g m : Nat) (D : Nat → Nat) : Prop := ∃ cs, Row w g 3 cs ∧ cs.size = m ∧ ∀ i, i < m → cs[i]? = some (.int .i64 (D i : Int))
section
variable {w w' : World} {g m : Nat} {D D' : Nat → Nat}
theorem Di.at_ (h : Di w g m D) {i : Nat} (hi : i < m) : w.cell? ⟨g, i, none⟩ = some (.int .i64 (D i : Int)) ∧ w.frozen? ⟨g, i, none⟩ = false := by
  obtain ⟨cs, h1, h2, h3⟩ := h
  exact ⟨(h1.cell i).trans (h3 i hi), h1.thaw i⟩
theorem Di.under (h : Di w g m D) (hb : Below w.heap.size w w') : Di w' g m D := by
  obtain ⟨cs, h1, h2, h3⟩ := h
  exact ⟨cs, h1.under hb, h2, h3⟩
theorem Di.far (h : Di w g m D) {p : Addr} (hp : p.block ≠ g) (u : Value) : Di (w.setCell p u) g m D := by
  obtain ⟨cs, h1, h2, h3⟩ := h
  exact ⟨cs, h1.far hp u, h2, h3⟩
theorem Di.same (h : Di w g m D) (e : ∀ i, i < m → D i = D' i) : Di w g m D' := by
  obtain ⟨cs, h1, h2, h3⟩ := h
  exact ⟨cs, h1, h2, fun i hi => by rw [h3 i hi, e i hi]⟩
theorem Di.put (h : Di w g m D) {a : Nat} {x : Nat} (ha : a < m) : Di (w.setCell ⟨g, a, none⟩ (.int .i64 (x : Int))) g m (fun i => if i = a then x else D i) := by
  obtain ⟨cs, h1, h2, h3⟩ := h
  refine ⟨_, h1.put a _, by simpa using h2, fun i hi => ?_⟩
  by_cases e : i = a
  · subst e
    rw [Array.getElem?_setIfInBounds, if_pos rfl, if_pos (by omega)]
    simp
  · rw [Array.getElem?_setIfInBounds, if_neg (fun e' => e e'.symm), h3 i hi]
    simp [e]
theorem Di.lt (h : Di w g m D) : g < w.heap.size := by
  obtain ⟨cs, h1, -⟩ := h
  exact h1.lt
theorem di_made (w : World) (m : Nat) : Di (w.alloc (.cells (madeCells #[.int .i64 0] m) 3)) w.heap.size m (fun _ => 0) :=
  ⟨_, Row.new _ _ _, size_madeCells _ _, fun i hi => by simp [madeCells, hi, Nat.mod_one]⟩
end
/-- What is known inside: the edges, the cells, how often each node was an end, each edge a side. -/
structure Su (W : World) (n ge gc gd gs : Nat) (E : List (Nat × Nat)) (L : List Lat.Tr) (D S : Nat → Nat) (w : World) : Prop where
  below : Below W.heap.size W w
  ed : EdIn w ge E
  ce : TrIn w gc L
  dg : Di w gd (cn n) D
  sd : Di w gs E.length S
  bs : W.heap.size ≤ gd ∧ ge < gd ∧ gc < gd ∧ gd < gs
section
variable {W w w' : World} {n ge gc gd gs : Nat} {E : List (Nat × Nat)} {L : List Lat.Tr} {D S D' S' : Nat → Nat}
theorem Su.under (h : Su W n ge gc gd gs E L D S w) (hb : Below w.heap.size w w') : Su W n ge gc gd gs E L D S w' := ⟨h.below.trans (hb.mono h.below.size), h.ed.under hb, h.ce.under hb, h.dg.under hb, h.sd.under hb, h.bs⟩
theorem Su.putD (h : Su W n ge gc gd gs E L D S w) {a x : Nat} (ha : a < cn n) (e : ∀ i, i < cn n → (if i = a then x else D i) = D' i) : Su W n ge gc gd gs E L D' S (w.setCell ⟨gd, a, none⟩ (.int .i64 (x : Int))) :=
  have hs := grown_one w gd a (.int .i64 (x : Int))
  have hb := h.bs
  ⟨below_by h.below h.below.size hb.1 hs, h.ed.grown hs (fun e => by have := Option.some.inj e; omega), h.ce.grown hs (fun e => by have := Option.some.inj e; omega), (h.dg.put ha).same e, h.sd.far (p := ⟨gd, a, none⟩) (by simp; omega) _, hb⟩
theorem Su.putS (h : Su W n ge gc gd gs E L D S w) {a x : Nat} (ha : a < E.length) (e : ∀ i, i < E.length → (if i = a then x else S i) = S' i) : Su W n ge gc gd gs E L D S' (w.setCell ⟨gs, a, none⟩ (.int .i64 (x : Int))) :=
  have hs := grown_one w gs a (.int .i64 (x : Int))
  have hb := h.bs
  ⟨below_by h.below h.below.size (by omega) hs, h.ed.grown hs (fun e => by have := Option.some.inj e; omega), h.ce.grown hs (fun e => by have := Option.some.inj e; omega), h.dg.far (p := ⟨gs, a, none⟩) (by simp; omega) _, (h.sd.put ha).same e, hb⟩
theorem Su.sameS (h : Su W n ge gc gd gs E L D S w) (e : ∀ i, i < E.length → S i = S' i) : Su W n ge gc gd gs E L D S' w := ⟨h.below, h.ed, h.ce, h.dg, h.sd.same e, h.bs⟩
theorem Su.sameD (h : Su W n ge gc gd gs E L D S w) (e : ∀ i, i < cn n → D i = D' i) : Su W n ge gc gd gs E L D' S w := ⟨h.below, h.ed, h.ce, h.dg.same e, h.sd, h.bs⟩
end
/-- How often each edge has been a side. -/
def sds (E : List (Nat × Nat)) (L : List Lat.Tr) (k i : Nat) : Nat := (L.take k).countP (fun c => Lat.isd c (E.getD i (0, 0)))
def sdj (E : List (Nat × Nat)) (L : List Lat.Tr) (k j : Nat) (c : Lat.Tr) (i : Nat) : Nat := sds E L k i + (if i < j ∧ Lat.isd c (E.getD i (0, 0)) = true then 1 else 0)
theorem sdj_zero (E : List (Nat × Nat)) (L : List Lat.Tr) (k : Nat) (c : Lat.Tr) (i : Nat) : sds E L k i = sdj E L k 0 c i := by simp [sdj]
theorem sdj_end {E : List (Nat × Nat)} {L : List Lat.Tr} {k i : Nat} (hk : k < L.length) (hi : i < E.length) : sdj E L k E.length L[k] i = sds E L (k + 1) i := by
  unfold sdj sds
  rw [List.take_succ_eq_append_getElem hk, List.countP_append, List.countP_cons, List.countP_nil]
  by_cases h : Lat.isd L[k] (E.getD i (0, 0)) = true
  · rw [if_pos ⟨hi, h⟩, if_pos h]
  · rw [if_neg (fun e => h e.2), if_neg h]
theorem sdj_no {E : List (Nat × Nat)} {L : List Lat.Tr} {k j : Nat} {c : Lat.Tr} (hj : j < E.length) (h : Lat.isd c E[j] = false) (i : Nat) : sdj E L k j c i = sdj E L k (j + 1) c i := by
  unfold sdj
  have hg : E.getD j (0, 0) = E[j] := by rw [List.getD_eq_getElem?_getD, List.getElem?_eq_getElem hj]; rfl
  congr 1
  by_cases e : i = j
  · subst e
    rw [if_neg (fun q => absurd q.1 (Nat.lt_irrefl _)), if_neg (fun q => by have := q.2; rw [hg, h] at this; cases this)]
  · by_cases hq : i < j ∧ Lat.isd c (E.getD i (0, 0)) = true
    · rw [if_pos hq, if_pos ⟨by omega, hq.2⟩]
    · rw [if_neg hq, if_neg (fun q => hq ⟨by omega, q.2⟩)]
theorem sdj_yes {E : List (Nat × Nat)} {L : List Lat.Tr} {k j : Nat} {c : Lat.Tr} (hj : j < E.length) (h : Lat.isd c E[j] = true) (i : Nat) : (if i = j then sdj E L k j c j + 1 else sdj E L k j c i) = sdj E L k (j + 1) c i := by
  have hg : E.getD j (0, 0) = E[j] := by rw [List.getD_eq_getElem?_getD, List.getElem?_eq_getElem hj]; rfl
  by_cases e : i = j
  · subst e
    rw [if_pos rfl]
    unfold sdj
    rw [if_neg (fun q => absurd q.1 (Nat.lt_irrefl _)), if_pos ⟨Nat.lt_succ_self _, by rw [hg]; exact h⟩]
  · rw [if_neg e]
    unfold sdj
    congr 1
    by_cases hq : i < j ∧ Lat.isd c (E.getD i (0, 0)) = true
    · rw [if_pos hq, if_pos ⟨by omega, hq.2⟩]
    · rw [if_neg hq, if_neg (fun q => hq ⟨by omega, q.2⟩)]
theorem fnd3_yes {E : List (Nat × Nat)} {j : Nat} {c : Lat.Tr} (hj : j < E.length) (h : Lat.isd c E[j] = true) : (E.take (j + 1)).countP (Lat.isd c) = (E.take j).countP (Lat.isd c) + 1 := by
  rw [List.take_succ_eq_append_getElem hj, List.countP_append, List.countP_cons, List.countP_nil, if_pos h]
theorem fnd3_no {E : List (Nat × Nat)} {j : Nat} {c : Lat.Tr} (hj : j < E.length) (h : Lat.isd c E[j] = false) : (E.take (j + 1)).countP (Lat.isd c) = (E.take j).countP (Lat.isd c) := by
  rw [List.take_succ_eq_append_getElem hj, List.countP_append, List.countP_cons, List.countP_nil, if_neg (by rw [h]; decide)]; rfl
theorem five_succ (n k : Nat) : (List.range (k + 1)).countP (fun i => Nat.beq (Lat.nbs n i).length 5) = (List.range k).countP (fun i => Nat.beq (Lat.nbs n i).length 5) + (if (Lat.nbs n k).length = 5 then 1 else 0) := by
  rw [List.range_succ, List.countP_append, List.countP_cons, List.countP_nil]
  congr 1
  by_cases h : (Lat.nbs n k).length = 5
  · rw [if_pos h, h]; rfl
  · rw [if_neg h, if_neg (fun e => h (Nat.eq_of_beq_eq_true e))]
attribute [local go_sem] eq_edge
set_option maxRecDepth 100000 in
set_option maxHeartbeats 8000000 in
theorem gridSurface_any (kx : Int) (w : World) (hk : I64 kx) :
    Calls Try.prog 4 #[.int .i64 kx] w fun e w' => e = .returned (.bool true) ∧ Below w.heap.size w w' := by
  obtain ⟨m, hm⟩ := Int.eq_ofNat_of_zero_le (Int.emod_nonneg kx (show (5 : Int) ≠ 0 by omega))
  have hm5 := Int.emod_lt_of_pos kx (show (0 : Int) < 5 by omega)
  obtain ⟨n, hn⟩ : ∃ n : Nat, n = 1 + m := ⟨_, rfl⟩
  have hnn : 1 + (m : Int) = (n : Int) := by omega
  have h15 : 1 ≤ n ∧ n ≤ 5 := ⟨by omega, by omega⟩
  have H15 := Lib.hid h15
  have HN := Lib.hid (show Lat.frq n from ⟨by omega, by omega⟩)
  have HKM := Lib.hid hm
  have HK := Lib.hid hk
  have n1 : 1 ≤ (n : Int) := by omega
  have n5 : (n : Int) ≤ 5 := by omega
  have m0 : 0 ≤ (m : Int) := by omega
  have m5 : (m : Int) < 5 := by omega
  have hc : 12 ≤ (cn n : Int) ∧ (cn n : Int) ≤ 252 := by rcases Lat.five_of h15.1 h15.2 with e | e | e | e | e <;> (rw [e]; decide)
  obtain ⟨hc1, hc2⟩ := hc
  have hel := Lat.edg_len HN.out
  have HEL := Lib.hid hel
  have he : 30 ≤ ((Lat.edg n).length : Int) ∧ ((Lat.edg n).length : Int) ≤ 750 := by
    rw [hel]
    rcases Lat.five_of h15.1 h15.2 with e | e | e | e | e <;> (rw [e]; decide)
  obtain ⟨he1, he2⟩ := he
  have hq0 : 10 * (n : Int) * (n : Int) + 2 = (cn n : Int) := rfl
  have hq1 : 10 * (n : Int) * (n : Int) ≤ 250 := by omega
  have hq2 : 0 ≤ 10 * (n : Int) * (n : Int) := by omega
  have HLEN := Lib.hid (fun (L : List Lat.Tr) (hL : Lat.IsCels (Lat.cls n 20) L) => (show (cn n : Int) - ((Lat.edg n).length : Int) + (L.length : Int) = 2 ∧ (L.length : Int) ≤ 500 ∧ 0 < (L.length : Int) from by
    have h1 := Lat.cels_len hL
    rw [Lat.cls_len] at h1
    rw [hel, h1]
    rcases Lat.five_of h15.1 h15.2 with e | e | e | e | e <;> (rw [e]; decide)))
  have hmk1 := run_make_row' (P := Try.prog) 24 3 (.int .i64 0) 8 Try.underlying24 infoInt0 rfl .i64 .i64 (cn n) (by omega) (by omega)
  have hmk2 := run_make_row' (P := Try.prog) 24 3 (.int .i64 0) 8 Try.underlying24 infoInt0 rfl .i64 .i64 (Lat.edg n).length (by omega) (by omega)
  clear hm hn h15 hk hel hm5
  go_enter Try.func4, Try.ntmps4
  go_wp2_with fail
  refine (mod_any _ _ _ HK.out (by omega) (by omega)).mono ?_
  rintro e w1 ⟨rfl, rfl⟩
  rw [HKM.out]
  go_wp2_with fail
  refine (nodes_yes n _ HN.out).mono ?_
  rintro e w3 ⟨gn, cap3, rfl, hb3, -⟩
  have B3 := Lib.hid hb3; clear hb3
  go_wp2_with fail
  refine (edges_yes n _ HN.out).mono ?_
  rintro e w4 ⟨ge, cap4, rfl, c1, c2, hb4, hge, hed⟩
  have H4 := Lib.hid (And.intro (B3.out.trans (hb4.mono B3.out.size)) hed); clear hb4 hge hed B3
  have HDEG := Lib.hid (fun i (hi : i < cn n) => Lat.deg_all H15.out.1 H15.out.2 hi)
  have HD56 := Lib.hid (fun i (hi : i < cn n) => Lat.deg_56 H15.out.1 H15.out.2 hi)
  have HFIV := Lib.hid (show (List.range (cn n)).countP (fun i => Nat.beq (Lat.nbs n i).length 5) = 12 from Lat.deg_five H15.out.1 H15.out.2)
  have HMEM := Lib.hid (fun (p : Nat × Nat) (hp : p ∈ Lat.edg n) => (show p.1 < p.2 ∧ p.2 < cn n from by
    obtain ⟨a, b, c⟩ := Lat.edg_mem.1 (show (p.1, p.2) ∈ Lat.edg n from hp)
    exact ⟨c, (Lat.nbs_in HN.out a b).1⟩))
  have HTWO := Lib.hid (fun (L : List Lat.Tr) (hL : Lat.IsCels (Lat.cls n 20) L) (p : Nat × Nat) (hp : p ∈ Lat.edg n) => Lat.side_two H15.out.1 H15.out.2 hL hp)
  have HTHR := Lib.hid (fun (L : List Lat.Tr) (hL : Lat.IsCels (Lat.cls n 20) L) (t : Lat.Tr) (ht : t ∈ L) => Lat.side_three HN.out hL ht)
  have HCLT := Lib.hid (fun (L : List Lat.Tr) (hL : Lat.IsCels (Lat.cls n 20) L) (t : Lat.Tr) (ht : t ∈ L) => Lat.cels_lt HN.out hL ht)
  generalize Lat.edg n = E at *
  go_wp2_with fail
  refine (cells_yes n _ HN.out).mono ?_
  rintro e w5 ⟨gc, cap5, L, rfl, c3, c4, hb5, hgc, htr, hL⟩
  have H5 := Lib.hid (And.intro (H4.out.1.trans (hb5.mono H4.out.1.size)) (And.intro (H4.out.2.under hb5) htr)); clear hb5 hgc htr H4
  obtain ⟨l1, l2, l3⟩ := HLEN.out L hL
  have HL := Lib.hid hL; clear hL
  go_upto_region 9 with fail
  have hS : Su w n ge gc w5.heap.size (w5.heap.size + 1) E L (fun i => (Lat.ends (E.take 0)).count i) (fun _ => 0) ((w5.alloc (.cells (madeCells #[.int .i64 0] (cn n)) 3)).alloc (.cells (madeCells #[.int .i64 0] E.length) 3)) := by
    have x1 : Below w5.heap.size w5 (w5.alloc (.cells (madeCells #[.int .i64 0] (cn n)) 3)) := (Below.refl _ _).alloc (Nat.le_refl _) _
    have x2 : Below (w5.alloc (.cells (madeCells #[.int .i64 0] (cn n)) 3)).heap.size (w5.alloc (.cells (madeCells #[.int .i64 0] (cn n)) 3)) ((w5.alloc (.cells (madeCells #[.int .i64 0] (cn n)) 3)).alloc (.cells (madeCells #[.int .i64 0] E.length) 3)) := (Below.refl _ _).alloc (Nat.le_refl _) _
    have d1 := di_made w5 (cn n)
    have d2 := di_made (w5.alloc (.cells (madeCells #[.int .i64 0] (cn n)) 3)) E.length
    rw [show (w5.alloc (.cells (madeCells #[.int .i64 0] (cn n)) 3)).heap.size = w5.heap.size + 1 by simp] at d2
    exact ⟨(H5.out.1.trans (x1.mono H5.out.1.size)).trans (x2.mono (Nat.le_trans H5.out.1.size x1.size)), (H5.out.2.1.under x1).under x2, (H5.out.2.2.under x1).under x2, (d1.under x2).same (fun i _ => by simp [Lat.ends]), d2, H5.out.1.size, H5.out.2.1.lt, H5.out.2.2.1, by omega⟩
  refine forget (fun Y => Su w n ge gc w5.heap.size (w5.heap.size + 1) E L (fun i => (Lat.ends (E.take 0)).count i) (fun _ => 0) Y) hS ?_
  clear hS H5 hmk1 hmk2 l1
  generalize w5.heap.size = gd at *
  generalize hgs : gd + 1 = gs at *
  clear hgs
  rintro Y hY
  have HY := Lib.hid hY; clear hY
  go_wp2_with fail
  go_loopw [79] (fun t wr => ∃ k : Nat, k ≤ E.length ∧ t = .int .i64 k ∧ Su w n ge gc gd gs E L (fun i => (Lat.ends (E.take k)).count i) (fun _ => 0) wr) (fun t _ => E.length - (intOf t).toNat)
  case atStart => exact ⟨0, by omega, rfl, HY.out⟩
  case round =>
    clear HY
    obtain ⟨k, hk, rfl, M⟩ := hrel
    by_cases hlt : k < E.length
    · have k0 : (0 : Int) ≤ (k : Int) := by omega
      have k1 : (k : Int) < (E.length : Int) := by omega
      obtain ⟨p0, p1⟩ := M.ed.at_ k hlt
      have HP := Lib.hid (HMEM.out E[k] (List.getElem_mem hlt))
      have HE := Lib.hid (Lat.ends_succ hlt)
      generalize E[k] = p at *
      obtain ⟨a, b⟩ := p
      simp only at p0 p1
      have a0 : (0 : Int) ≤ (a : Int) := by omega
      have ab : (a : Int) < (b : Int) := by have := HP.out.1; simp only at this; omega
      have b1 : (b : Int) < (cn n : Int) := by have := HP.out.2; simp only at this; omega
      have HA := Lib.hid (show a < cn n by omega)
      have HB := Lib.hid (show b < cn n by omega)
      have HLE := Lib.hid (show (Lat.ends (E.take k)).length ≤ 2000 by
        unfold Lat.ends
        rw [List.length_flatMap]
        simp only [List.length_cons, List.length_nil, List.map_const', List.sum_replicate_nat, List.length_take]
        omega)
      generalize Lat.ends (E.take k) = X at *
      have HM := Lib.hid M; clear M
      go_upto_region 12 with fail
      refine forget (fun V => Su w n ge gc gd gs E L (fun i => X.count i) (fun _ => 0) V ∧ Row V wr.heap.size 49 #[.int .i64 (a : Int), .int .i64 (b : Int)] ∧ gs < wr.heap.size) ⟨HM.out.under ((Below.refl _ _).alloc (Nat.le_refl _) _), Row.new _ _ _, HM.out.sd.lt⟩ ?_
      clear HM p0 p1
      generalize wr.heap.size = gx at *
      rintro V ⟨M, r, hgx⟩
      obtain ⟨p0, p1⟩ : V.cell? ⟨gx, 0, none⟩ = some (.int .i64 (a : Int)) ∧ V.cell? ⟨gx, 1, none⟩ = some (.int .i64 (b : Int)) := ⟨(r.cell 0).trans rfl, (r.cell 1).trans rfl⟩
      obtain ⟨q0, q1⟩ := M.dg.at_ HA.out
      have HR := Lib.hid (And.intro r hgx); clear r hgx
      have HM := Lib.hid M; clear M
      have x1 : (X.count a : Int) ≤ 2000 := by have := List.count_le_length (a := a) (l := X); have := HLE.out; omega
      go_upto_region 15 with fail
      have hM2 : Su w n ge gc gd gs E L (fun i => (X ++ [a]).count i) (fun _ => 0) (V.setCell ⟨gd, a, none⟩ (.int .i64 ((X.count a : Int) + 1))) := by
        have := HM.out.putD (x := X.count a + 1) (D' := fun i => (X ++ [a]).count i) HA.out (fun i hi => by
          rw [List.count_append, List.count_singleton]
          by_cases e : i = a
          · subst e; simp
          · rw [if_neg e]; simp [Ne.symm e])
        exact this
      have hR2 : Row (V.setCell ⟨gd, a, none⟩ (.int .i64 ((X.count a : Int) + 1))) gx 49 #[.int .i64 (a : Int), .int .i64 (b : Int)] := HR.out.1.far (p := ⟨gd, a, none⟩) (fun e => by have := HM.out.bs.2.2.2; have := HR.out.2; simp at e; omega) _
      refine forget (fun V => Su w n ge gc gd gs E L (fun i => (X ++ [a]).count i) (fun _ => 0) V ∧ Row V gx 49 #[.int .i64 (a : Int), .int .i64 (b : Int)]) ⟨hM2, hR2⟩ ?_
      clear hM2 hR2 HM HR p0 p1 q0 q1
      rintro V2 ⟨M, r⟩
      obtain ⟨p0, p1⟩ : V2.cell? ⟨gx, 0, none⟩ = some (.int .i64 (a : Int)) ∧ V2.cell? ⟨gx, 1, none⟩ = some (.int .i64 (b : Int)) := ⟨(r.cell 0).trans rfl, (r.cell 1).trans rfl⟩
      obtain ⟨q0, q1⟩ := M.dg.at_ HB.out
      have HM := Lib.hid M; clear M r
      have x2 : ((X ++ [a]).count b : Int) ≤ 2001 := by have := List.count_le_length (a := b) (l := X ++ [a]); have := HLE.out; simp only [List.length_append, List.length_singleton] at *; omega
      have HPUT : Hid (Su w n ge gc gd gs E L (fun i => (Lat.ends (E.take (k + 1))).count i) (fun _ => 0) (V2.setCell ⟨gd, b, none⟩ (.int .i64 (((X ++ [a]).count b : Int) + 1)))) := Lib.hid (by
        have := HM.out.putD (x := (X ++ [a]).count b + 1) (D' := fun i => (Lat.ends (E.take (k + 1))).count i) HB.out (fun i hi => by
          rw [HE.out, List.count_append (l₁ := X ++ [a]), List.count_singleton]
          by_cases e : i = b
          · subst e; simp
          · rw [if_neg e]; simp [Ne.symm e])
        exact this)
      generalize (X ++ [a]).count b = cb at *
      go_wp2_with fail
      go_roundw
      case rel => exact ⟨k + 1, by omega, by go_num, HPUT.out⟩
      case measure => simp [intOf]; omega
    · have k1 : ¬ ((k : Int) < (E.length : Int)) := by omega
      have hke : k = E.length := by omega
      have hM : Su w n ge gc gd gs E L (fun i => (Lat.nbs n i).length) (sds E L 0) wr := by
        rw [hke, List.take_length] at M
        exact (M.sameD (fun i hi => HDEG.out i hi)).sameS (fun i _ => by simp [sds])
      have HM := Lib.hid hM; clear M hM hke
      go_wp2_with fail
      clear k1 hk hlt
      go_loopw [117] (fun t wr => ∃ k : Nat, k ≤ L.length ∧ t = .int .i64 k ∧ Su w n ge gc gd gs E L (fun i => (Lat.nbs n i).length) (sds E L k) wr) (fun t _ => L.length - (intOf t).toNat)
      case atStart => exact ⟨0, by omega, rfl, HM.out⟩
      case round =>
        clear HM
        obtain ⟨k, hk, rfl, M⟩ := hrel
        by_cases hlt : k < L.length
        · have k0 : (0 : Int) ≤ (k : Int) := by omega
          have k1 : (k : Int) < (L.length : Int) := by omega
          obtain ⟨c0, c1', c2'⟩ := M.ce.2 k hlt
          have H3 := Lib.hid (HTHR.out L HL.out L[k] (List.getElem_mem hlt))
          have HEND := Lib.hid (fun i (hi : i < E.length) => sdj_end (E := E) hlt hi)
          have HLT := Lib.hid (HCLT.out L HL.out L[k] (List.getElem_mem hlt))
          generalize L[k] = c at *
          obtain ⟨x, y, z⟩ := c
          simp only at c0 c1' c2'
          have xy : (x : Int) < (y : Int) := by have := HLT.out.1; simp only at this; omega
          have yz : (y : Int) < (z : Int) := by have := HLT.out.2.1; simp only at this; omega
          have HM := Lib.hid M; clear M
          go_upto_region 22 with fail
          refine forget (fun V => Su w n ge gc gd gs E L (fun i => (Lat.nbs n i).length) (sdj E L k 0 (x, y, z)) V ∧ Row V wr.heap.size 51 #[.int .i64 (x : Int), .int .i64 (y : Int), .int .i64 (z : Int)] ∧ gs < wr.heap.size) ⟨(HM.out.under ((Below.refl _ _).alloc (Nat.le_refl _) _)).sameS (fun i _ => sdj_zero E L k _ i), Row.new _ _ _, HM.out.sd.lt⟩ ?_
          clear HM c0 c1' c2'
          generalize wr.heap.size = gx at *
          rintro V ⟨M, r, hgx⟩
          have HR := Lib.hid (And.intro r hgx); clear r hgx
          have HM := Lib.hid M; clear M
          go_wp2_with fail
          go_loopw [16, 123] (fun f t wr => ∃ j : Nat, j ≤ E.length ∧ t = .int .i64 j ∧ f = .int .i64 (((E.take j).countP (Lat.isd (x, y, z)) : Nat) : Int) ∧ Su w n ge gc gd gs E L (fun i => (Lat.nbs n i).length) (sdj E L k j (x, y, z)) wr ∧ Row wr gx 51 #[.int .i64 (x : Int), .int .i64 (y : Int), .int .i64 (z : Int)]) (fun _ t _ => E.length - (intOf t).toNat)
          case atStart => exact ⟨0, by omega, rfl, by simp, HM.out, HR.out.1⟩
          case round =>
            clear HM
            obtain ⟨j, hj, rfl, rfl, M, r⟩ := hrel
            by_cases hlj : j < E.length
            · have j0 : (0 : Int) ≤ (j : Int) := by omega
              have j1 : (j : Int) < (E.length : Int) := by omega
              obtain ⟨p0, p1⟩ := M.ed.at_ j hlj
              have HYES := Lib.hid (fun h => And.intro (fun i => sdj_yes (L := L) (k := k) (c := (x, y, z)) hlj h i) (fnd3_yes (c := (x, y, z)) hlj h))
              have HNO := Lib.hid (fun h => And.intro (fun i => sdj_no (L := L) (k := k) (c := (x, y, z)) hlj h i) (fnd3_no (c := (x, y, z)) hlj h))
              have hfl : (((E.take j).countP (Lat.isd (x, y, z)) : Nat) : Int) ≤ 750 := by
                have h1 := List.countP_le_length (p := Lat.isd (x, y, z)) (l := E.take j)
                have h2 := List.length_take_le j E
                omega
              have hsl : ((sdj E L k j (x, y, z) j : Nat) : Int) ≤ 600 := by
                have h1 := List.countP_le_length (p := fun c => Lat.isd c (E.getD j (0, 0))) (l := L.take k)
                have h2 := List.length_take_le k L
                unfold sdj sds
                split <;> omega
              generalize E[j] = p at *
              obtain ⟨a, b⟩ := p
              simp only at p0 p1
              go_upto_region 24 with fail
              refine forget (fun V => Su w n ge gc gd gs E L (fun i => (Lat.nbs n i).length) (sdj E L k j (x, y, z)) V ∧ Row V gx 51 #[.int .i64 (x : Int), .int .i64 (y : Int), .int .i64 (z : Int)] ∧ Row V wr.heap.size 49 #[.int .i64 (a : Int), .int .i64 (b : Int)]) ⟨M.under ((Below.refl _ _).alloc (Nat.le_refl _) _), r.alloc _, Row.new _ _ _⟩ ?_
              clear M r p0 p1
              generalize wr.heap.size = gy at *
              rintro V ⟨M, r, ry⟩
              obtain ⟨p0, p1⟩ : V.cell? ⟨gy, 0, none⟩ = some (.int .i64 (a : Int)) ∧ V.cell? ⟨gy, 1, none⟩ = some (.int .i64 (b : Int)) := ⟨(ry.cell 0).trans rfl, (ry.cell 1).trans rfl⟩
              clear ry
              obtain ⟨c0, c1', c2'⟩ := row3 r
              obtain ⟨q0, q1⟩ := M.sd.at_ hlj
              have HQ := Lib.hid (And.intro M (And.intro r hlj)); clear M r
              generalize hfn : (E.take j).countP (Lat.isd (x, y, z)) = fn at *
              clear hfn
              generalize hsn : sdj E L k j (x, y, z) j = sn at *
              have HSN := Lib.hid hsn; clear hsn
              by_cases h1 : a = x
              · by_cases h2 : b = y
                · have f0 : ((a : Int) == (x : Int)) = true := beq_iff_eq.2 (by omega)
                  have f1 : ((b : Int) == (y : Int)) = true := beq_iff_eq.2 (by omega)
                  have HT : Hid (Lat.isd (x, y, z) (a, b) = true) := Lib.hid (by rw [Lat.isd_iff]; simp only; omega)
                  clear h1 h2
                  have hM2 : Su w n ge gc gd gs E L (fun i => (Lat.nbs n i).length) (sdj E L k (j + 1) (x, y, z)) (V.setCell ⟨gs, j, none⟩ (.int .i64 ((sn : Int) + 1))) := by
                    have := HQ.out.1.putS (x := sn + 1) (S' := sdj E L k (j + 1) (x, y, z)) HQ.out.2.2 (fun i _ => by exact (HYES.out HT.out).1 i)
                    exact this
                  have hR2 : Row (V.setCell ⟨gs, j, none⟩ (.int .i64 ((sn : Int) + 1))) gx 51 #[.int .i64 (x : Int), .int .i64 (y : Int), .int .i64 (z : Int)] := HQ.out.2.1.far (p := ⟨gs, j, none⟩) (fun e => by have := HR.out.2; simp at e; omega) _
                  have H2 := Lib.hid (And.intro hM2 hR2)
                  have HF := Lib.hid ((HYES.out HT.out).2)
                  clear hM2 hR2
                  go_wp2_with fail
                  go_roundw
                  case rel => exact ⟨j + 1, by omega, by go_num, by rw [HF.out]; go_num, H2.out.1, H2.out.2⟩
                  case measure => simp [intOf]; omega
                · by_cases h3 : b = z
                  · have f0 : ((a : Int) == (x : Int)) = true := beq_iff_eq.2 (by omega)
                    have f1 : ((b : Int) == (y : Int)) = false := beq_eq_false_iff_ne.2 (by omega)
                    have f2 : ((b : Int) == (z : Int)) = true := beq_iff_eq.2 (by omega)
                    have f3 : ((a : Int) == (y : Int)) = false := beq_eq_false_iff_ne.2 (by omega)
                    have HT : Hid (Lat.isd (x, y, z) (a, b) = true) := Lib.hid (by rw [Lat.isd_iff]; simp only; omega)
                    clear h1 h2 h3
                    have hM2 : Su w n ge gc gd gs E L (fun i => (Lat.nbs n i).length) (sdj E L k (j + 1) (x, y, z)) (V.setCell ⟨gs, j, none⟩ (.int .i64 ((sn : Int) + 1))) := by
                      have := HQ.out.1.putS (x := sn + 1) (S' := sdj E L k (j + 1) (x, y, z)) HQ.out.2.2 (fun i _ => by exact (HYES.out HT.out).1 i)
                      exact this
                    have hR2 : Row (V.setCell ⟨gs, j, none⟩ (.int .i64 ((sn : Int) + 1))) gx 51 #[.int .i64 (x : Int), .int .i64 (y : Int), .int .i64 (z : Int)] := HQ.out.2.1.far (p := ⟨gs, j, none⟩) (fun e => by have := HR.out.2; simp at e; omega) _
                    have H2 := Lib.hid (And.intro hM2 hR2)
                    have HF := Lib.hid ((HYES.out HT.out).2)
                    clear hM2 hR2
                    go_wp2_with fail
                    go_roundw
                    case rel => exact ⟨j + 1, by omega, by go_num, by rw [HF.out]; go_num, H2.out.1, H2.out.2⟩
                    case measure => simp [intOf]; omega
                  · have f0 : ((a : Int) == (x : Int)) = true := beq_iff_eq.2 (by omega)
                    have f1 : ((b : Int) == (y : Int)) = false := beq_eq_false_iff_ne.2 (by omega)
                    have f2 : ((b : Int) == (z : Int)) = false := beq_eq_false_iff_ne.2 (by omega)
                    have f3 : ((a : Int) == (y : Int)) = false := beq_eq_false_iff_ne.2 (by omega)
                    have HT : Hid (Lat.isd (x, y, z) (a, b) = false) := Lib.hid (by rw [← Bool.not_eq_true, Lat.isd_iff]; simp only; omega)
                    clear h1 h2 h3
                    have hM2 : Su w n ge gc gd gs E L (fun i => (Lat.nbs n i).length) (sdj E L k (j + 1) (x, y, z)) V :=
                      HQ.out.1.sameS (fun i _ => (HNO.out HT.out).1 i)
                    have H2 := Lib.hid (And.intro hM2 HQ.out.2.1)
                    have HF := Lib.hid ((HNO.out HT.out).2)
                    clear hM2
                    go_wp2_with fail
                    go_roundw
                    case rel => exact ⟨j + 1, by omega, by go_num, by rw [HF.out], H2.out.1, H2.out.2⟩
                    case measure => simp [intOf]; omega
              · by_cases h2 : a = y
                · by_cases h3 : b = z
                  · have f0 : ((a : Int) == (x : Int)) = false := beq_eq_false_iff_ne.2 (by omega)
                    have f1 : ((a : Int) == (y : Int)) = true := beq_iff_eq.2 (by omega)
                    have f2 : ((b : Int) == (z : Int)) = true := beq_iff_eq.2 (by omega)
                    have f3 : ((b : Int) == (y : Int)) = false := beq_eq_false_iff_ne.2 (by omega)
                    have HT : Hid (Lat.isd (x, y, z) (a, b) = true) := Lib.hid (by rw [Lat.isd_iff]; simp only; omega)
                    clear h1 h2 h3
                    have hM2 : Su w n ge gc gd gs E L (fun i => (Lat.nbs n i).length) (sdj E L k (j + 1) (x, y, z)) (V.setCell ⟨gs, j, none⟩ (.int .i64 ((sn : Int) + 1))) := by
                      have := HQ.out.1.putS (x := sn + 1) (S' := sdj E L k (j + 1) (x, y, z)) HQ.out.2.2 (fun i _ => by exact (HYES.out HT.out).1 i)
                      exact this
                    have hR2 : Row (V.setCell ⟨gs, j, none⟩ (.int .i64 ((sn : Int) + 1))) gx 51 #[.int .i64 (x : Int), .int .i64 (y : Int), .int .i64 (z : Int)] := HQ.out.2.1.far (p := ⟨gs, j, none⟩) (fun e => by have := HR.out.2; simp at e; omega) _
                    have H2 := Lib.hid (And.intro hM2 hR2)
                    have HF := Lib.hid ((HYES.out HT.out).2)
                    clear hM2 hR2
                    go_wp2_with fail
                    go_roundw
                    case rel => exact ⟨j + 1, by omega, by go_num, by rw [HF.out]; go_num, H2.out.1, H2.out.2⟩
                    case measure => simp [intOf]; omega
                  · have f0 : ((a : Int) == (x : Int)) = false := beq_eq_false_iff_ne.2 (by omega)
                    have f1 : ((a : Int) == (y : Int)) = true := beq_iff_eq.2 (by omega)
                    have f2 : ((b : Int) == (z : Int)) = false := beq_eq_false_iff_ne.2 (by omega)
                    have HT : Hid (Lat.isd (x, y, z) (a, b) = false) := Lib.hid (by rw [← Bool.not_eq_true, Lat.isd_iff]; simp only; omega)
                    clear h1 h2 h3
                    have hM2 : Su w n ge gc gd gs E L (fun i => (Lat.nbs n i).length) (sdj E L k (j + 1) (x, y, z)) V :=
                      HQ.out.1.sameS (fun i _ => (HNO.out HT.out).1 i)
                    have H2 := Lib.hid (And.intro hM2 HQ.out.2.1)
                    have HF := Lib.hid ((HNO.out HT.out).2)
                    clear hM2
                    go_wp2_with fail
                    go_roundw
                    case rel => exact ⟨j + 1, by omega, by go_num, by rw [HF.out], H2.out.1, H2.out.2⟩
                    case measure => simp [intOf]; omega
                · have f0 : ((a : Int) == (x : Int)) = false := beq_eq_false_iff_ne.2 (by omega)
                  have f1 : ((a : Int) == (y : Int)) = false := beq_eq_false_iff_ne.2 (by omega)
                  have HT : Hid (Lat.isd (x, y, z) (a, b) = false) := Lib.hid (by rw [← Bool.not_eq_true, Lat.isd_iff]; simp only; omega)
                  clear h1 h2
                  have hM2 : Su w n ge gc gd gs E L (fun i => (Lat.nbs n i).length) (sdj E L k (j + 1) (x, y, z)) V :=
                    HQ.out.1.sameS (fun i _ => (HNO.out HT.out).1 i)
                  have H2 := Lib.hid (And.intro hM2 HQ.out.2.1)
                  have HF := Lib.hid ((HNO.out HT.out).2)
                  clear hM2
                  go_wp2_with fail
                  go_roundw
                  case rel => exact ⟨j + 1, by omega, by go_num, by rw [HF.out], H2.out.1, H2.out.2⟩
                  case measure => simp [intOf]; omega
            · have j1 : ¬ ((j : Int) < (E.length : Int)) := by omega
              have hje : j = E.length := by omega
              subst hje
              have HJ := Lib.hid (M.sameS (fun i hi => HEND.out i hi)); clear M r
              rw [List.take_length, H3.out]
              go_wp2_with fail
              go_roundw
              case rel => exact ⟨k + 1, by omega, by go_num, HJ.out⟩
              case measure => simp [intOf]; omega
        · have k1 : ¬ ((k : Int) < (L.length : Int)) := by omega
          have hke : k = L.length := by omega
          have hM : Su w n ge gc gd gs E L (fun i => (Lat.nbs n i).length) (fun _ => 2) wr := by
            rw [hke] at M
            exact M.sameS (fun i hi => by
              unfold sds
              rw [List.take_length]
              have hg : E.getD i (0, 0) = E[i] := by rw [List.getD_eq_getElem?_getD, List.getElem?_eq_getElem hi]; rfl
              rw [hg]
              exact HTWO.out L HL.out E[i] (List.getElem_mem hi))
          have HM := Lib.hid hM; clear M hM hke
          go_upto_region 33 with fail
          clear k1 hk hlt
          refine forget (fun V => Su w n ge gc gd gs E L (fun i => (Lat.nbs n i).length) (fun _ => 2) V) HM.out ?_
          clear HM
          rintro V M
          have HM := Lib.hid M; clear M
          go_wp2_with fail
          go_loopw [19, 20] (fun f t wr => ∃ i : Nat, i ≤ cn n ∧ t = .int .i64 i ∧ f = .int .i64 (((List.range i).countP (fun i => Nat.beq (Lat.nbs n i).length 5) : Nat) : Int) ∧ Su w n ge gc gd gs E L (fun i => (Lat.nbs n i).length) (fun _ => 2) wr) (fun _ t _ => cn n - (intOf t).toNat)
          case atStart => exact ⟨0, by omega, rfl, rfl, HM.out⟩
          case round =>
            clear HM
            obtain ⟨i, hi, rfl, rfl, M⟩ := hrel
            have h5l : (((List.range i).countP (fun i => Nat.beq (Lat.nbs n i).length 5) : Nat) : Int) ≤ 252 := by
              have h1 := List.countP_le_length (p := fun i => Nat.beq (Lat.nbs n i).length 5) (l := List.range i)
              rw [List.length_range] at h1
              omega
            by_cases hlt : i < cn n
            · have i0 : (0 : Int) ≤ (i : Int) := by omega
              have i1 : (i : Int) < (cn n : Int) := by omega
              obtain ⟨q0, q1⟩ := M.dg.at_ hlt
              have H5S := Lib.hid (five_succ n i)
              have H56 := Lib.hid (HD56.out i hlt)
              generalize (List.range i).countP (fun i => Nat.beq (Lat.nbs n i).length 5) = f5 at *
              have HM := Lib.hid M; clear M
              rcases H56.out with h | h
              · rw [h] at q0
                have HF := Lib.hid (show (List.range (i + 1)).countP (fun i => Nat.beq (Lat.nbs n i).length 5) = f5 + 1 by rw [H5S.out, if_pos h])
                clear h
                go_wp2_with fail
                go_roundw
                case rel => exact ⟨i + 1, by omega, by go_num, by rw [HF.out]; go_num, HM.out⟩
                case measure => simp [intOf]; omega
              · rw [h] at q0
                have HF := Lib.hid (show (List.range (i + 1)).countP (fun i => Nat.beq (Lat.nbs n i).length 5) = f5 by rw [H5S.out, if_neg (by omega)]; rfl)
                clear h
                go_wp2_with fail
                go_roundw
                case rel => exact ⟨i + 1, by omega, by go_num, by rw [HF.out], HM.out⟩
                case measure => simp [intOf]; omega
            · have i1 : ¬ ((i : Int) < (cn n : Int)) := by omega
              have hie : i = cn n := by omega
              rw [hie, HFIV.out]
              clear h5l
              have HM := Lib.hid M; clear M
              rw [hie] at i1
              clear hie
              go_upto_region 40 with fail
              clear i1 hi hlt
              go_wp2_with fail
              go_loopw [21] (fun t wr => ∃ i : Nat, i ≤ E.length ∧ t = .int .i64 i ∧ Su w n ge gc gd gs E L (fun i => (Lat.nbs n i).length) (fun _ => 2) wr) (fun t _ => E.length - (intOf t).toNat)
              case atStart => exact ⟨0, by omega, rfl, HM.out⟩
              case round =>
                clear HM
                obtain ⟨i, hi, rfl, M⟩ := hrel
                by_cases hlt : i < E.length
                · have i0 : (0 : Int) ≤ (i : Int) := by omega
                  have i1 : (i : Int) < (E.length : Int) := by omega
                  obtain ⟨q0, q1⟩ := M.sd.at_ hlt
                  have HM := Lib.hid M; clear M
                  go_wp2_with fail
                  go_roundw
                  case rel => exact ⟨i + 1, by omega, by go_num, HM.out⟩
                  case measure => simp [intOf]; omega
                · have i1 : ¬ ((i : Int) < (E.length : Int)) := by omega
                  have HM := Lib.hid M.below; clear M
                  go_wp2_with fail
                  refine (awake_from (w0 := w) _ HM.out).mono ?_
                  rintro e w9 ⟨rfl, hb9⟩
                  have B9 := Lib.hid hb9; clear hb9
                  go_wp2_with fail
                  go_ret
                  exact ⟨rfl, B9.out⟩
end Go.Proofs.Ytehehhehilgnkaa
