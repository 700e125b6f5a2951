/- Texts of this proof. -/
import Derived.Test.YtlakgkoohdfiaaaDoorQag
import Derived.Test.YtlakgkoohdfiaaaDoorQae
import Derived.Test.YtlakgkoohdfiaaaDoorQaa
import Derived.Test.YtlakgkoohdfiaaaDoorShelf
import Derived.Test.YtlakgkoohdfiaaaDoorQal
import Derived.Test.YtlakgkoohdfiaaaDoorQab
import Derived.Test.YtlakgkoohdfiaaaDoorShelfT
import Derived.Maps.AppendAt

namespace Go.Proofs.YtlakgkoohdfiaaaDoor
open Go.RowKit Go.Maps Go.Shelf Go.Sort Go.Lib

/-- The comparison of two numbers, and of the first of three that differ. -/
def cmpI (x y : Int) : Int := if x < y then -1 else if y < x then 1 else 0
def or3 (a b c : Int) : Int := if a ≠ 0 then a else if b ≠ 0 then b else c
theorem or3_cmp (a b c x y z : Int) : or3 (cmpI a x) (cmpI b y) (cmpI c z) = Cm.cmp3 (a, b, c) (x, y, z) := by
  unfold or3 cmpI Cm.cmp3 Cm.lt3
  simp only [Prod.mk.injEq]
  rcases Int.lt_trichotomy a x with h1 | h1 | h1
  · simp [h1]
  · subst h1
    rcases Int.lt_trichotomy b y with h2 | h2 | h2
    · simp [h2]
    · subst h2
      rcases Int.lt_trichotomy c z with h3 | h3 | h3
      · simp [h3]
      · subst h3; simp
      · have n1 : ¬ c < z := by omega
        have n2 : ¬ c = z := by omega
        simp [h3, n1, n2]
    · have n1 : ¬ b < y := by omega
      have n2 : ¬ b = y := by omega
      simp [h2, n1, n2]
  · have n1 : ¬ a < x := by omega
    have n2 : ¬ a = x := by omega
    simp [h1, n1, n2]
theorem isNaN_int (x : Int) (w : World) : Calls Tryd.prog 114 #[.int .i64 x] w fun e w' => e = .returned (.bool false) ∧ w' = w := by
  go_enter Tryd.func114, Tryd.ntmps114
  go_wp2
  go_ret
  exact ⟨rfl, rfl⟩
set_option maxHeartbeats 400000 in
theorem cmpI_any (x y : Int) (w : World) : Calls Tryd.prog 85 #[.int .i64 x, .int .i64 y] w fun e w' => e = .returned (.int .i64 (cmpI x y)) ∧ w' = w := by
  by_cases h1 : x < y
  · have H := Lib.hid (show cmpI x y = -1 from if_pos h1)
    go_enter Tryd.func85, Tryd.ntmps85
    go_wp2_with (go_at_call 114; refine (isNaN_int _ _).mono ?_; rintro e w1 ⟨rfl, rfl⟩)
    go_ret
    exact ⟨ret_i64 (by rw [H.out]), rfl⟩
  · by_cases h2 : y < x
    · have H := Lib.hid (show cmpI x y = 1 by unfold cmpI; rw [if_neg h1, if_pos h2])
      go_enter Tryd.func85, Tryd.ntmps85
      go_wp2_with (go_at_call 114; refine (isNaN_int _ _).mono ?_; rintro e w1 ⟨rfl, rfl⟩)
      go_ret
      exact ⟨ret_i64 (by rw [H.out]), rfl⟩
    · have H := Lib.hid (show cmpI x y = 0 by unfold cmpI; rw [if_neg h1, if_neg h2])
      go_enter Tryd.func85, Tryd.ntmps85
      go_wp2_with (go_at_call 114; refine (isNaN_int _ _).mono ?_; rintro e w1 ⟨rfl, rfl⟩)
      go_ret
      exact ⟨ret_i64 (by rw [H.out]), rfl⟩
/-- The first number of a list that is not 0. -/
def orL : List Int → Int
  | [] => 0
  | x :: r => if x ≠ 0 then x else orL r
theorem orL_zero : ∀ (L : List Int) (k : Nat), (∀ j (h : j < L.length), j < k → L[j] = 0) → orL L = orL (L.drop k)
  | [], k, _ => by simp
  | x :: r, 0, _ => rfl
  | x :: r, k + 1, h => by
    have h0 : x = 0 := h 0 (by simp) (by omega)
    rw [List.drop_succ_cons, ← orL_zero r k fun j hj hk => (h (j + 1) (by simp; omega) (by omega) : (x :: r)[j + 1]'(by simp; omega) = 0)]
    subst h0; simp [orL]
theorem orL3 (x y z : Int) : orL [x, y, z] = or3 x y z := by
  unfold or3
  simp only [orL]
  by_cases h1 : x ≠ 0
  · rw [if_pos h1, if_pos h1]
  · rw [if_neg h1, if_neg h1]
    by_cases h2 : y ≠ 0
    · rw [if_pos h2, if_pos h2]
    · rw [if_neg h2, if_neg h2]
      by_cases h3 : z ≠ 0
      · rw [if_pos h3]
      · rw [if_neg h3]; omega
set_option maxHeartbeats 400000 in
theorem or_any (g : Nat) (L : List Int) (w : World) (hc : ∀ i (h : i < L.length), w.cell? ⟨g, i, none⟩ = some (.int .i64 L[i])) (hl : L.length ≤ 10) :
    Calls Tryd.prog 84 #[.slice (some ⟨g, 0, none⟩) L.length L.length] w fun e w' => e = .returned (.int .i64 (orL L)) ∧ w' = w := by
  have HC := Lib.hid hc; clear hc
  go_enter Tryd.func84, Tryd.ntmps84
  go_wp2
  go_loop [5, 8] (fun u i => ∃ k : Nat, k ≤ L.length ∧ i = .int .i64 k ∧ ∀ j (h : j < L.length), j < k → L[j] = 0) (fun _ i => L.length - (intOf i).toNat)
  case atStart => exact ⟨0, Nat.zero_le _, rfl, fun j _ h => absurd h (Nat.not_lt_zero _)⟩
  case round =>
    obtain ⟨k, hk, rfl, hz⟩ := hrel
    have HZ := Lib.hid hz; clear hz
    by_cases hlt : k < L.length
    · have c0 := HC.out k hlt
      have HD := Lib.hid (show L.drop k = L[k] :: L.drop (k + 1) from List.drop_eq_getElem_cons hlt)
      have HK := Lib.hid (show L[k] = 0 → ∀ j (h : j < L.length), j < k + 1 → L[j] = 0 from fun h0 j hj hjk => by
        by_cases e : j = k
        · subst e; exact h0
        · exact HZ.out j hj (by omega))
      have HO := Lib.hid (orL_zero L k HZ.out)
      generalize hx : L[k] = x at *
      by_cases h0 : x = 0
      · have HX := Lib.hid hx; clear hx
        have HY := Lib.hid (HK.out h0)
        subst h0
        go_wp2
        go_round
        case rel => exact ⟨k + 1, by omega, by go_num, HY.out⟩
        case measure => simp [intOf]; omega
      · have HX := Lib.hid hx; clear hx
        have q : (x != 0) = true := by rw [bne_iff_ne]; exact h0
        have HR := Lib.hid (show orL L = x by rw [HO.out, HD.out]; unfold orL; rw [if_pos h0])
        clear h0
        go_wp2
        go_ret
        exact ⟨ret_i64 (by rw [HR.out]), rfl⟩
    · have HR := Lib.hid (show orL L = 0 by rw [orL_zero L k HZ.out, List.drop_eq_nil_of_le (by omega)]; rfl)
      go_wp2
      go_ret
      exact ⟨ret_i64 (by rw [HR.out]), rfl⟩
theorem or3_any (g : Nat) (x y z : Int) (w : World) (h : Row w g 3 #[.int .i64 x, .int .i64 y, .int .i64 z]) :
    Calls Tryd.prog 84 #[.slice (some ⟨g, 0, none⟩) 3 3] w fun e w' => e = .returned (.int .i64 (or3 x y z)) ∧ w' = w := by
  have := or_any g [x, y, z] w (fun i hi => by
    rcases (by simp at hi; omega : i = 0 ∨ i = 1 ∨ i = 2) with rfl | rfl | rfl
    · exact (h.cell 0).trans rfl
    · exact (h.cell 1).trans rfl
    · exact (h.cell 2).trans rfl) (by simp)
  rw [orL3] at this
  exact this
/-- A normal as the program holds it. -/
def encN (n : Cm.N5) : List Value := [.int .i64 n.1, .int .i64 n.2.1, .int .i64 n.2.2.1, .int .i64 n.2.2.2.1, .int .i64 n.2.2.2.2]
abbrev nV (n : Cm.N5) : Value := .agg #[.int .i64 n.1, .int .i64 n.2.1, .int .i64 n.2.2.1, .int .i64 n.2.2.2.1, .int .i64 n.2.2.2.2]
/-- Blocks more, draws more. -/
def Gw (W w : World) : Prop := ∃ q os, w = grow (W.drewN q) os
theorem Gw.alloc {W w : World} (h : Gw W w) (o : Obj) : Gw W (w.alloc o) := by
  obtain ⟨q, os, rfl⟩ := h
  exact ⟨q, _, by rw [alloc_eq_grow, grow_grow]⟩
theorem Gw.drew {W w : World} (h : Gw W w) : Gw W w.drew := by
  obtain ⟨q, os, rfl⟩ := h
  exact ⟨q + 1, os, rfl⟩
theorem Gw.below {W w : World} (h : Gw W w) : Below W.heap.size W w := by
  obtain ⟨q, os, rfl⟩ := h
  exact ⟨rfl, rfl, rfl, by simp, fun i hi => heap_grow_old _ _ (by simpa using hi)⟩
theorem row5 {w : World} {b : Nat} {t : TypeId} {x0 x1 x2 x3 x4 : Value} (h : Row w b t #[x0, x1, x2, x3, x4]) :
    w.cell? ⟨b, 0, none⟩ = some x0 ∧ w.cell? ⟨b, 1, none⟩ = some x1 ∧ w.cell? ⟨b, 2, none⟩ = some x2 ∧ w.cell? ⟨b, 3, none⟩ = some x3 ∧ w.cell? ⟨b, 4, none⟩ = some x4 :=
  ⟨(h.cell 0).trans rfl, (h.cell 1).trans rfl, (h.cell 2).trans rfl, (h.cell 3).trans rfl, (h.cell 4).trans rfl⟩
set_option maxRecDepth 100000 in
set_option maxHeartbeats 4000000 in
theorem order_any (s t : Cm.N5) (W : World) : Calls Tryd.prog 58 #[nV s, nV t] W fun e w' => e = .returned (.int .i64 (Cm.cmp3 (Cm.key s) (Cm.key t))) ∧ Gw W w' := by
  obtain ⟨a, b, c, d, f⟩ := s
  obtain ⟨x, y, z, u, v⟩ := t
  have HE := Lib.hid (or3_cmp a b c x y z)
  show Calls Tryd.prog 58 #[.agg #[.int .i64 a, .int .i64 b, .int .i64 c, .int .i64 d, .int .i64 f], .agg #[.int .i64 x, .int .i64 y, .int .i64 z, .int .i64 u, .int .i64 v]] W fun e w' => e = .returned (.int .i64 (Cm.cmp3 (a, b, c) (x, y, z))) ∧ Gw W w'
  rw [← HE.out]
  clear HE
  go_enter Tryd.func58, Tryd.ntmps58
  go_upto_region 1 with fail
  refine forget (fun Y => Gw W Y ∧ Row Y W.heap.size 50 #[.int .i64 a, .int .i64 b, .int .i64 c, .int .i64 d, .int .i64 f] ∧ Row Y (W.heap.size + 1) 50 #[.int .i64 x, .int .i64 y, .int .i64 z, .int .i64 u, .int .i64 v]) ⟨⟨0, _, by rw [alloc_eq_grow, alloc_eq_grow, grow_grow]; rfl⟩, (Row.new _ _ _).alloc _, Row.newAt (by simp)⟩ ?_
  rintro Y ⟨gY, r0, r1⟩
  obtain ⟨c0, c1, c2, -, -⟩ := row5 r0
  obtain ⟨d0, d1, d2, -, -⟩ := row5 r1
  have h0 := r0.lt
  have h1 := r1.lt
  have G := Lib.hid gY
  clear r0 r1 gY
  go_region_held3 (fun w' => (w'.cell? ⟨W.heap.size, 0, none⟩ = some (.int .i64 a) ∧ w'.cell? ⟨W.heap.size, 1, none⟩ = some (.int .i64 b) ∧ w'.cell? ⟨W.heap.size, 2, none⟩ = some (.int .i64 c)) ∧ w'.cell? ⟨W.heap.size + 1, 0, none⟩ = some (.int .i64 x) ∧ w'.cell? ⟨W.heap.size + 1, 1, none⟩ = some (.int .i64 y) ∧ w'.cell? ⟨W.heap.size + 1, 2, none⟩ = some (.int .i64 z))
    (go_keep)
    (first | (go_at_call 85; refine (cmpI_any _ _ _).mono ?_; rintro e w1 ⟨rfl, rfl⟩) | (go_at_call 84; refine (or3_any _ _ _ _ _ (Row.new _ _ _).drew).mono ?_; rintro e w1 ⟨rfl, rfl⟩))
  go_wp2_with fail
  go_ret
  exact ⟨rfl, (G.out.alloc _).drew⟩
end Go.Proofs.YtlakgkoohdfiaaaDoor

namespace Go.Proofs.YtlakgkoohdfiaaaDoor.Tm
open Go.RowKit Go.Shelf Go.Lib Go.Sort

section
variable {α : Type}
theorem sort3_grown [Inhabited α] (enc : α → List Value) (w : World) (g n : Nat) (d' : Array α) (os : Array Obj) : w.grownBy (sortWorldK enc 3 w g 0 n d' os) (some g) := by
  refine ⟨rfl, rfl, rfl, ?_, fun i hi hr => ?_⟩
  · simp [sortWorldK, putRowK, Sort.putRow, Sort.mapBlock]
  · unfold sortWorldK
    rw [heap_grow_old _ _ (by simpa [putRowK, Sort.putRow, Sort.mapBlock] using hi)]
    have hne : g ≠ i := fun e => hr (by rw [e])
    simp [putRowK, Sort.putRow, Sort.mapBlock, Array.getElem?_modify, hne]
end

theorem infoP : (Tryd.prog.info? 137).map (fun i => (i.zero, i.size, i.bytes)) = some (some (.agg #[.int .i64 0, .int .i64 0, .int .i64 0]), 3, 24) := by kernel_rfl
/-- Points by their times. -/
def cfP (x y : Pt) : Int := cmpI x.t y.t
theorem cmpI_neg (a b : Int) : cmpI a b < 0 ↔ a < b := by
  unfold cmpI
  by_cases h1 : a < b
  · rw [if_pos h1]; exact ⟨fun _ => h1, fun _ => by decide⟩
  · rw [if_neg h1]
    by_cases h2 : b < a
    · rw [if_pos h2]; exact ⟨fun h => by omega, fun h => by omega⟩
    · rw [if_neg h2]; exact ⟨fun h => by omega, fun h => by omega⟩
set_option maxHeartbeats 1000000 in
theorem lessP_any (x y : Pt) (W : World) : Calls Tryd.prog 109 #[.agg (ptE x).toArray, .agg (ptE y).toArray] W fun e w' => e = .returned (.int .i64 (cfP x y)) ∧ ∃ q os', w' = grow (W.drewN q) os' := by
  obtain ⟨n1, t1, i1⟩ := x
  obtain ⟨n2, t2, i2⟩ := y
  have e : cfP ⟨n1, t1, i1⟩ ⟨n2, t2, i2⟩ = cmpI t1 t2 := rfl
  rw [e]; clear e
  have hcc := cmpI_any t1 t2
  generalize cmpI t1 t2 = c at *
  have HC := Lib.hid hcc; clear hcc
  show Calls Tryd.prog 109 #[.agg #[.int .i64 n1, .int .i64 t1, .int .i64 (i1 : Int)], .agg #[.int .i64 n2, .int .i64 t2, .int .i64 (i2 : Int)]] W _
  go_enter Tryd.func109, Tryd.ntmps109
  go_wp2_with fail
  refine (HC.out _).mono ?_
  rintro e w1 ⟨rfl, rfl⟩
  go_wp2_with fail
  go_ret
  exact ⟨rfl, 0, _, by rw [alloc_eq_grow, alloc_eq_grow, grow_grow]; rfl⟩
theorem swoP : SWO (ltOf cfP) where
  irrefl x := by simp [ltOf, cfP, cmpI_neg]
  trans x y z h1 h2 := by
    have a := (cmpI_neg x.t y.t).1 (of_decide_eq_true h1)
    have b := (cmpI_neg y.t z.t).1 (of_decide_eq_true h2)
    exact decide_eq_true ((cmpI_neg x.t z.t).2 (by omega))
  ntrans x y z h1 h2 := by
    have a := mt (cmpI_neg x.t y.t).2 (of_decide_eq_false h1)
    have b := mt (cmpI_neg y.t z.t).2 (of_decide_eq_false h2)
    exact decide_eq_false (mt (cmpI_neg x.t z.t).1 (by omega))
/-- What the sort leaves. -/
def SortsP (W : World) (base : Nat) (v : Value) (L : List Pt) (e : Ending) (w : World) : Prop :=
  e = .returned (.tuple #[]) ∧ W.grownBy w v.ownBlock ∧ ∃ L' : List Pt, L'.Perm L ∧ L'.Pairwise (fun x y => ¬ cfP y x < 0) ∧ w.ownsRow base 137 3 v L'.length (rc ptE L')
theorem sortP_some (base g cap : Nat) (L : List Pt) (w : World) (hl : L.length ≤ 100000) (ho : w.ownsRow base 137 3 (.slice (some ⟨g, 0, none⟩) L.length cap) L.length (rc ptE L)) :
    Calls Tryd.prog 108 #[.slice (some ⟨g, 0, none⟩) L.length cap, .func (.func 109) #[] #[]] w (SortsP w base (.slice (some ⟨g, 0, none⟩) L.length cap) L) := by
  have eg : ∀ args w, (callFunc 109 args).run Tryd.prog w = .ok (.enter 109 args) w := enters_of Tryd.func109 (by kernel_rfl) rfl
  have hfz := fun j => ho.frozenAt j
  rcases ho.2 with ⟨e, -⟩ | ⟨g', cap', cur, e, hb, hg, hc, hm, hs, hx⟩
  · cases e
  obtain ⟨rfl, rfl⟩ : g = g' ∧ cap = cap' := by injection e with e1 e2 e3; injection e1 with e1; injection e1 with e1; exact ⟨e1, e3⟩
  have hgl : g < w.heap.size := (Array.getElem?_eq_some_iff.1 hg).1
  have hH : HoldsK ptE 3 w g 0 L.toArray := by
    intro t ht
    simp only [size_flatK, List.size_toArray] at ht
    refine ⟨?_, by simpa using hfz (0 + t)⟩
    rw [get_flatK _ _ _ _ (by simpa using ht)]
    have hi : t / 3 < L.length := by omega
    have h1 : w.cell? ⟨g, 0 + t, none⟩ = cur[t]? := by simp [World.cell?, hg]
    have h2 := rc_at ptE_len L (t / 3) hi (t % 3) (Nat.mod_lt _ (by omega))
    rw [show t / 3 * 3 + t % 3 = t by omega, ← hx, List.getElem?_take, if_pos (by omega), Array.getElem?_toList] at h2
    have e : L.toArray[t / 3]! = L[t / 3] := by simp [hi]
    rw [h1, h2, e]
    have h3 : t % 3 < (ptE L[t / 3]).length := Nat.mod_lt _ (by decide)
    rw [List.getElem?_eq_getElem h3]
    simp [h3]
  have hcon := AnyQ.slices_SortFunc Tryd.sortPoint 3 Tryd.isAgg137 Tryd.sizeOf137 ptE ptE_len (fun x v hv => by simp [ptE] at hv; rcases hv with rfl | rfl | rfl <;> rfl) cfP swoP 109 #[] g 0 cap L.toArray w eg (fun _ _ _ _ x y => lessP_any x y _) hH hgl (by simp; omega)
  have e' : L.toArray.size = L.length := by simp
  rw [e'] at hcon
  refine hcon.mono ?_
  rintro e'' w' ⟨rfl, d', n, os, hp, hsd, rfl⟩
  obtain ⟨p1, _, p3⟩ := hp
  have p3' : d'.toList.Perm L := by
    have e1 : d'.extract 0 L.length = d' := by rw [← e', ← p1, Array.extract_size]
    have e2 : L.toArray.extract 0 L.length = L.toArray := by rw [← e', Array.extract_size]
    rw [e1, e2] at p3
    simpa using p3
  refine ⟨rfl, sort3_grown _ _ _ _ _ _, d'.toList, p3', ?_, ?_⟩
  · rw [List.pairwise_iff_getElem]
    intro i j hi hj hij
    have hi' : i < d'.size := by simpa using hi
    have hj' : j < d'.size := by simpa using hj
    have h1 := of_decide_eq_false (hsd i j (Nat.zero_le _) hij (by rw [← e', ← p1]; exact hj'))
    rw [getElem!_pos d' j hj', getElem!_pos d' i hi'] at h1
    simpa using h1
  · have hlen : d'.toList.length = L.length := p3'.length_eq
    have hsz : d'.size = L.length := by simpa using hlen
    refine ⟨by rw [rc_len ptE_len], .inr ⟨g, cap, putCells id 0 (flatK ptE 3 d') cur, by rw [hlen], hb, ?_, by rw [hlen]; exact hc, hm, by simp [putCells, hs], ?_⟩⟩
    · unfold sortWorldK
      rw [heap_grow_old _ _ (by simpa [putRowK, Sort.putRow, Sort.mapBlock] using hgl)]
      show (w.heap.modify g (onCells (putCells id 0 (flatK ptE 3 d'))))[g]? = _
      rw [Array.getElem?_modify, if_pos rfl, hg]
      rfl
    · refine List.ext_getElem? fun k => ?_
      rw [List.getElem?_take]
      by_cases hk : k < d'.toList.length * 3
      · rw [if_pos hk]
        have hi : k / 3 < d'.toList.length := by omega
        have h2 := rc_at ptE_len d'.toList (k / 3) hi (k % 3) (Nat.mod_lt _ (by omega))
        rw [show k / 3 * 3 + k % 3 = k by omega] at h2
        have hkc : k < cur.size := by rw [hs]; have := Nat.mul_le_mul_right 3 hc; omega
        have hkf : k < d'.size * 3 := by omega
        rw [h2, Array.getElem?_toList]
        have h4 : (putCells id 0 (flatK ptE 3 d') cur)[k]? = some (flatK ptE 3 d')[k]! := by
          unfold putCells
          rw [Array.getElem?_mapIdx, Array.getElem?_eq_getElem hkc]
          simp [hkf]
        rw [h4, get_flatK _ _ _ _ hkf]
        have hi2 : k / 3 < d'.size := by omega
        rw [getElem!_pos d' (k / 3) hi2]
        have h3 : k % 3 < (ptE d'[k / 3]).length := Nat.mod_lt _ (by decide)
        rw [Array.getElem_toList, List.getElem?_eq_getElem h3]
        simp [h3]
      · rw [if_neg hk, List.getElem?_eq_none (by rw [rc_len ptE_len]; omega)]
/-- Any such list, a nil one too. -/
theorem sortP_any (base : Nat) (v : Value) (L : List Pt) (w : World) (hl : L.length ≤ 100000) (ho : w.ownsRow base 137 3 v L.length (rc ptE L)) :
    Calls Tryd.prog 108 #[v, .func (.func 109) #[] #[]] w (SortsP w base v L) := by
  rcases ho.2 with ⟨rfl, h0⟩ | ⟨g, cap, cur, rfl, -⟩
  · refine (AnyF.slices_SortFunc_none Tryd.sortPoint none 0 _ w).mono ?_
    rintro e w' ⟨rfl, rfl⟩
    obtain rfl : L = [] := List.eq_nil_of_length_eq_zero h0
    exact ⟨rfl, ⟨rfl, rfl, rfl, Nat.le_refl _, fun _ _ _ => rfl⟩, [], List.Perm.refl _, List.Pairwise.nil, ho⟩
  · exact sortP_some base g cap L w hl ho


theorem infoF : (Tryd.prog.info? 77).map (fun i => (i.zero, i.size, i.bytes)) = some (some (.agg #[.int .i64 0, .int .i64 0, .int .i64 0]), 3, 24) := by kernel_rfl
/-- Flags by report and element. -/
def or2 (a b : Int) : Int := if a ≠ 0 then a else b
theorem orL2 (x y : Int) : orL [x, y] = or2 x y := by
  unfold or2
  simp only [orL]
  by_cases h1 : x ≠ 0
  · rw [if_pos h1, if_pos h1]
  · rw [if_neg h1, if_neg h1]
    by_cases h2 : y ≠ 0
    · rw [if_pos h2]
    · rw [if_neg h2]; omega
theorem or2_any (g : Nat) (x y : Int) (w : World) (h : Row w g 3 #[.int .i64 x, .int .i64 y]) :
    Calls Tryd.prog 84 #[.slice (some ⟨g, 0, none⟩) 2 2] w fun e w' => e = .returned (.int .i64 (or2 x y)) ∧ w' = w := by
  have := or_any g [x, y] w (fun i hi => by
    rcases (by simp at hi; omega : i = 0 ∨ i = 1) with rfl | rfl
    · exact (h.cell 0).trans rfl
    · exact (h.cell 1).trans rfl) (by simp)
  rw [orL2] at this
  exact this
def cfF (x y : Nat × Int) : Int := or2 (cmpI x.1 y.1) (cmpI x.2 y.2)
theorem cfF_neg (x y : Nat × Int) : cfF x y < 0 ↔ ltF x y := by
  obtain ⟨a, b⟩ := x
  obtain ⟨c, d⟩ := y
  unfold cfF or2 ltF cmpI
  dsimp only
  rcases Int.lt_trichotomy (a : Int) (c : Int) with h | h | h
  · simp [h]; omega
  · have : a = c := by omega
    subst this
    rcases Int.lt_trichotomy b d with k | k | k
    · simp [k]
    · subst k; simp
    · have n1 : ¬ b < d := by omega
      simp [k, n1]
  · have n1 : ¬ (a : Int) < c := by omega
    simp [h, n1]; omega
set_option maxHeartbeats 4000000 in
theorem lessF_any (x y : Nat × Int) (W : World) : Calls Tryd.prog 83 #[.agg (flE x).toArray, .agg (flE y).toArray] W fun e w' => e = .returned (.int .i64 (cfF x y)) ∧ ∃ q os', w' = grow (W.drewN q) os' := by
  obtain ⟨a, b⟩ := x
  obtain ⟨c, d⟩ := y
  show Calls Tryd.prog 83 #[.agg #[.int .i64 (a : Int), .int .i64 b, .int .i64 4], .agg #[.int .i64 (c : Int), .int .i64 d, .int .i64 4]] W fun e w' => e = .returned (.int .i64 (or2 (cmpI a c) (cmpI b d))) ∧ Gw W w'
  generalize (a : Int) = ai at *
  generalize (c : Int) = ci at *
  go_enter Tryd.func83, Tryd.ntmps83
  go_upto_region 1 with fail
  refine forget (fun Y => Gw W Y ∧ Row Y W.heap.size 77 #[.int .i64 ai, .int .i64 b, .int .i64 4] ∧ Row Y (W.heap.size + 1) 77 #[.int .i64 ci, .int .i64 d, .int .i64 4]) ⟨⟨0, _, by rw [alloc_eq_grow, alloc_eq_grow, grow_grow]; rfl⟩, (Row.new _ _ _).alloc _, Row.newAt (by simp)⟩ ?_
  rintro Y ⟨gY, r0, r1⟩
  obtain ⟨c0, c1, -⟩ := row3 r0
  obtain ⟨d0, d1, -⟩ := row3 r1
  have h0 := r0.lt
  have h1 := r1.lt
  have G := Lib.hid gY
  clear r0 r1 gY
  go_region_held3 (fun w' => (w'.cell? ⟨W.heap.size, 0, none⟩ = some (.int .i64 ai) ∧ w'.cell? ⟨W.heap.size, 1, none⟩ = some (.int .i64 b)) ∧ w'.cell? ⟨W.heap.size + 1, 0, none⟩ = some (.int .i64 ci) ∧ w'.cell? ⟨W.heap.size + 1, 1, none⟩ = some (.int .i64 d))
    (go_keep)
    (first | (go_at_call 85; refine (cmpI_any _ _ _).mono ?_; rintro e w1 ⟨rfl, rfl⟩) | (go_at_call 84; refine (or2_any _ _ _ _ (Row.new _ _ _).drew).mono ?_; rintro e w1 ⟨rfl, rfl⟩))
  go_wp2_with fail
  go_ret
  exact ⟨rfl, (G.out.alloc _).drew⟩
theorem swoF : SWO (ltOf cfF) where
  irrefl x := decide_eq_false (fun h => ltF_irr ((cfF_neg x x).1 h))
  trans x y z h1 h2 := decide_eq_true ((cfF_neg x z).2 (ltF_trans ((cfF_neg x y).1 (of_decide_eq_true h1)) ((cfF_neg y z).1 (of_decide_eq_true h2))))
  ntrans x y z h1 h2 := by
    have a := mt (cfF_neg x y).2 (of_decide_eq_false h1)
    have b := mt (cfF_neg y z).2 (of_decide_eq_false h2)
    refine decide_eq_false (mt (cfF_neg x z).1 fun q => ?_)
    rcases ltF_tri x y with h | h | h
    · exact a h
    · subst h; exact b q
    · exact b (ltF_trans h q)
/-- What the sort leaves. -/
def SortsF (W : World) (base : Nat) (v : Value) (L : List (Nat × Int)) (e : Ending) (w : World) : Prop :=
  e = .returned (.tuple #[]) ∧ W.grownBy w v.ownBlock ∧ ∃ L' : List (Nat × Int), L'.Perm L ∧ L'.Pairwise (fun x y => ¬ cfF y x < 0) ∧ w.ownsRow base 77 3 v L'.length (rc flE L')
theorem sortF_some (base g cap : Nat) (L : List (Nat × Int)) (w : World) (hl : L.length ≤ 100000) (ho : w.ownsRow base 77 3 (.slice (some ⟨g, 0, none⟩) L.length cap) L.length (rc flE L)) :
    Calls Tryd.prog 82 #[.slice (some ⟨g, 0, none⟩) L.length cap, .func (.func 83) #[] #[]] w (SortsF w base (.slice (some ⟨g, 0, none⟩) L.length cap) L) := by
  have eg : ∀ args w, (callFunc 83 args).run Tryd.prog w = .ok (.enter 83 args) w := enters_of Tryd.func83 (by kernel_rfl) rfl
  have hfz := fun j => ho.frozenAt j
  rcases ho.2 with ⟨e, -⟩ | ⟨g', cap', cur, e, hb, hg, hc, hm, hs, hx⟩
  · cases e
  obtain ⟨rfl, rfl⟩ : g = g' ∧ cap = cap' := by injection e with e1 e2 e3; injection e1 with e1; injection e1 with e1; exact ⟨e1, e3⟩
  have hgl : g < w.heap.size := (Array.getElem?_eq_some_iff.1 hg).1
  have hH : HoldsK flE 3 w g 0 L.toArray := by
    intro t ht
    simp only [size_flatK, List.size_toArray] at ht
    refine ⟨?_, by simpa using hfz (0 + t)⟩
    rw [get_flatK _ _ _ _ (by simpa using ht)]
    have hi : t / 3 < L.length := by omega
    have h1 : w.cell? ⟨g, 0 + t, none⟩ = cur[t]? := by simp [World.cell?, hg]
    have h2 := rc_at flE_len L (t / 3) hi (t % 3) (Nat.mod_lt _ (by omega))
    rw [show t / 3 * 3 + t % 3 = t by omega, ← hx, List.getElem?_take, if_pos (by omega), Array.getElem?_toList] at h2
    have e : L.toArray[t / 3]! = L[t / 3] := by simp [hi]
    rw [h1, h2, e]
    have h3 : t % 3 < (flE L[t / 3]).length := Nat.mod_lt _ (by decide)
    rw [List.getElem?_eq_getElem h3]
    simp [h3]
  have hcon := AnyQ.slices_SortFunc Tryd.sortFlag 3 Tryd.isAgg77 Tryd.sizeOf77 flE flE_len (fun x v hv => by simp [flE] at hv; rcases hv with rfl | rfl | rfl <;> rfl) cfF swoF 83 #[] g 0 cap L.toArray w eg (fun _ _ _ _ x y => lessF_any x y _) hH hgl (by simp; omega)
  have e' : L.toArray.size = L.length := by simp
  rw [e'] at hcon
  refine hcon.mono ?_
  rintro e'' w' ⟨rfl, d', n, os, hp, hsd, rfl⟩
  obtain ⟨p1, _, p3⟩ := hp
  have p3' : d'.toList.Perm L := by
    have e1 : d'.extract 0 L.length = d' := by rw [← e', ← p1, Array.extract_size]
    have e2 : L.toArray.extract 0 L.length = L.toArray := by rw [← e', Array.extract_size]
    rw [e1, e2] at p3
    simpa using p3
  refine ⟨rfl, sort3_grown _ _ _ _ _ _, d'.toList, p3', ?_, ?_⟩
  · rw [List.pairwise_iff_getElem]
    intro i j hi hj hij
    have hi' : i < d'.size := by simpa using hi
    have hj' : j < d'.size := by simpa using hj
    have h1 := of_decide_eq_false (hsd i j (Nat.zero_le _) hij (by rw [← e', ← p1]; exact hj'))
    rw [getElem!_pos d' j hj', getElem!_pos d' i hi'] at h1
    simpa using h1
  · have hlen : d'.toList.length = L.length := p3'.length_eq
    have hsz : d'.size = L.length := by simpa using hlen
    refine ⟨by rw [rc_len flE_len], .inr ⟨g, cap, putCells id 0 (flatK flE 3 d') cur, by rw [hlen], hb, ?_, by rw [hlen]; exact hc, hm, by simp [putCells, hs], ?_⟩⟩
    · unfold sortWorldK
      rw [heap_grow_old _ _ (by simpa [putRowK, Sort.putRow, Sort.mapBlock] using hgl)]
      show (w.heap.modify g (onCells (putCells id 0 (flatK flE 3 d'))))[g]? = _
      rw [Array.getElem?_modify, if_pos rfl, hg]
      rfl
    · refine List.ext_getElem? fun k => ?_
      rw [List.getElem?_take]
      by_cases hk : k < d'.toList.length * 3
      · rw [if_pos hk]
        have hi : k / 3 < d'.toList.length := by omega
        have h2 := rc_at flE_len d'.toList (k / 3) hi (k % 3) (Nat.mod_lt _ (by omega))
        rw [show k / 3 * 3 + k % 3 = k by omega] at h2
        have hkc : k < cur.size := by rw [hs]; have := Nat.mul_le_mul_right 3 hc; omega
        have hkf : k < d'.size * 3 := by omega
        rw [h2, Array.getElem?_toList]
        have h4 : (putCells id 0 (flatK flE 3 d') cur)[k]? = some (flatK flE 3 d')[k]! := by
          unfold putCells
          rw [Array.getElem?_mapIdx, Array.getElem?_eq_getElem hkc]
          simp [hkf]
        rw [h4, get_flatK _ _ _ _ hkf]
        have hi2 : k / 3 < d'.size := by omega
        rw [getElem!_pos d' (k / 3) hi2]
        have h3 : k % 3 < (flE d'[k / 3]).length := Nat.mod_lt _ (by decide)
        rw [Array.getElem_toList, List.getElem?_eq_getElem h3]
        simp [h3]
      · rw [if_neg hk, List.getElem?_eq_none (by rw [rc_len flE_len]; omega)]
/-- Any such list, a nil one too. -/
theorem sortF_any (base : Nat) (v : Value) (L : List (Nat × Int)) (w : World) (hl : L.length ≤ 100000) (ho : w.ownsRow base 77 3 v L.length (rc flE L)) :
    Calls Tryd.prog 82 #[v, .func (.func 83) #[] #[]] w (SortsF w base v L) := by
  rcases ho.2 with ⟨rfl, h0⟩ | ⟨g, cap, cur, rfl, -⟩
  · refine (AnyF.slices_SortFunc_none Tryd.sortFlag none 0 _ w).mono ?_
    rintro e w' ⟨rfl, rfl⟩
    obtain rfl : L = [] := List.eq_nil_of_length_eq_zero h0
    exact ⟨rfl, ⟨rfl, rfl, rfl, Nat.le_refl _, fun _ _ _ => rfl⟩, [], List.Perm.refl _, List.Pairwise.nil, ho⟩
  · exact sortF_some base g cap L w hl ho

end Go.Proofs.YtlakgkoohdfiaaaDoor.Tm
