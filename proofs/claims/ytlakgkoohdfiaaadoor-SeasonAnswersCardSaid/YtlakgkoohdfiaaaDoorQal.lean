/- Texts of this proof. -/
import Derived.Test.YtlakgkoohdfiaaaDoorQag
import Derived.Test.YtlakgkoohdfiaaaDoorQae
import Derived.Test.YtlakgkoohdfiaaaDoorQaa
import Derived.Test.YtlakgkoohdfiaaaDoorShelf

namespace Go.Proofs.YtlakgkoohdfiaaaDoor
open Go.RowKit Go.Maps Go.Shelf Go.Sort Go.Lib

/-- The comparison of two numbers, and of the first of three that differ. -/
def cmpI (x y : Int) : Int := if x < y then -1 else if y < x then 1 else 0
def or3 (a b c : Int) : Int := if a ≠ 0 then a else if b ≠ 0 then b else c
theorem or3_cmp (a b c x y z : Int) : or3 (cmpI a x) (cmpI b y) (cmpI c z) = Cm.cmp3 (a, b, c) (x, y, z) := by
  unfold or3 cmpI Cm.cmp3 Cm.lt3
  simp only [Prod.mk.injEq]
  rcases Int.lt_trichotomy a x with h1 | h1 | h1
  · simp [h1]
  · subst h1
    rcases Int.lt_trichotomy b y with h2 | h2 | h2
    · simp [h2]
    · subst h2
      rcases Int.lt_trichotomy c z with h3 | h3 | h3
      · simp [h3]
      · subst h3; simp
      · have n1 : ¬ c < z := by omega
        have n2 : ¬ c = z := by omega
        simp [h3, n1, n2]
    · have n1 : ¬ b < y := by omega
      have n2 : ¬ b = y := by omega
      simp [h2, n1, n2]
  · have n1 : ¬ a < x := by omega
    have n2 : ¬ a = x := by omega
    simp [h1, n1, n2]
theorem isNaN_int (x : Int) (w : World) : Calls Tryd.prog 114 #[.int .i64 x] w fun e w' => e = .returned (.bool false) ∧ w' = w := by
  go_enter Tryd.func114, Tryd.ntmps114
  go_wp2
  go_ret
  exact ⟨rfl, rfl⟩
set_option maxHeartbeats 400000 in
theorem cmpI_any (x y : Int) (w : World) : Calls Tryd.prog 85 #[.int .i64 x, .int .i64 y] w fun e w' => e = .returned (.int .i64 (cmpI x y)) ∧ w' = w := by
  by_cases h1 : x < y
  · have H := Lib.hid (show cmpI x y = -1 from if_pos h1)
    go_enter Tryd.func85, Tryd.ntmps85
    go_wp2_with (go_at_call 114; refine (isNaN_int _ _).mono ?_; rintro e w1 ⟨rfl, rfl⟩)
    go_ret
    exact ⟨ret_i64 (by rw [H.out]), rfl⟩
  · by_cases h2 : y < x
    · have H := Lib.hid (show cmpI x y = 1 by unfold cmpI; rw [if_neg h1, if_pos h2])
      go_enter Tryd.func85, Tryd.ntmps85
      go_wp2_with (go_at_call 114; refine (isNaN_int _ _).mono ?_; rintro e w1 ⟨rfl, rfl⟩)
      go_ret
      exact ⟨ret_i64 (by rw [H.out]), rfl⟩
    · have H := Lib.hid (show cmpI x y = 0 by unfold cmpI; rw [if_neg h1, if_neg h2])
      go_enter Tryd.func85, Tryd.ntmps85
      go_wp2_with (go_at_call 114; refine (isNaN_int _ _).mono ?_; rintro e w1 ⟨rfl, rfl⟩)
      go_ret
      exact ⟨ret_i64 (by rw [H.out]), rfl⟩
/-- The first number of a list that is not 0. -/
def orL : List Int → Int
  | [] => 0
  | x :: r => if x ≠ 0 then x else orL r
theorem orL_zero : ∀ (L : List Int) (k : Nat), (∀ j (h : j < L.length), j < k → L[j] = 0) → orL L = orL (L.drop k)
  | [], k, _ => by simp
  | x :: r, 0, _ => rfl
  | x :: r, k + 1, h => by
    have h0 : x = 0 := h 0 (by simp) (by omega)
    rw [List.drop_succ_cons, ← orL_zero r k fun j hj hk => (h (j + 1) (by simp; omega) (by omega) : (x :: r)[j + 1]'(by simp; omega) = 0)]
    subst h0; simp [orL]
theorem orL3 (x y z : Int) : orL [x, y, z] = or3 x y z := by
  unfold or3
  simp only [orL]
  by_cases h1 : x ≠ 0
  · rw [if_pos h1, if_pos h1]
  · rw [if_neg h1, if_neg h1]
    by_cases h2 : y ≠ 0
    · rw [if_pos h2, if_pos h2]
    · rw [if_neg h2, if_neg h2]
      by_cases h3 : z ≠ 0
      · rw [if_pos h3]
      · rw [if_neg h3]; omega
set_option maxHeartbeats 400000 in
theorem or_any (g : Nat) (L : List Int) (w : World) (hc : ∀ i (h : i < L.length), w.cell? ⟨g, i, none⟩ = some (.int .i64 L[i])) (hl : L.length ≤ 10) :
    Calls Tryd.prog 84 #[.slice (some ⟨g, 0, none⟩) L.length L.length] w fun e w' => e = .returned (.int .i64 (orL L)) ∧ w' = w := by
  have HC := Lib.hid hc; clear hc
  go_enter Tryd.func84, Tryd.ntmps84
  go_wp2
  go_loop [5, 8] (fun u i => ∃ k : Nat, k ≤ L.length ∧ i = .int .i64 k ∧ ∀ j (h : j < L.length), j < k → L[j] = 0) (fun _ i => L.length - (intOf i).toNat)
  case atStart => exact ⟨0, Nat.zero_le _, rfl, fun j _ h => absurd h (Nat.not_lt_zero _)⟩
  case round =>
    obtain ⟨k, hk, rfl, hz⟩ := hrel
    have HZ := Lib.hid hz; clear hz
    by_cases hlt : k < L.length
    · have c0 := HC.out k hlt
      have HD := Lib.hid (show L.drop k = L[k] :: L.drop (k + 1) from List.drop_eq_getElem_cons hlt)
      have HK := Lib.hid (show L[k] = 0 → ∀ j (h : j < L.length), j < k + 1 → L[j] = 0 from fun h0 j hj hjk => by
        by_cases e : j = k
        · subst e; exact h0
        · exact HZ.out j hj (by omega))
      have HO := Lib.hid (orL_zero L k HZ.out)
      generalize hx : L[k] = x at *
      by_cases h0 : x = 0
      · have HX := Lib.hid hx; clear hx
        have HY := Lib.hid (HK.out h0)
        subst h0
        go_wp2
        go_round
        case rel => exact ⟨k + 1, by omega, by go_num, HY.out⟩
        case measure => simp [intOf]; omega
      · have HX := Lib.hid hx; clear hx
        have q : (x != 0) = true := by rw [bne_iff_ne]; exact h0
        have HR := Lib.hid (show orL L = x by rw [HO.out, HD.out]; unfold orL; rw [if_pos h0])
        clear h0
        go_wp2
        go_ret
        exact ⟨ret_i64 (by rw [HR.out]), rfl⟩
    · have HR := Lib.hid (show orL L = 0 by rw [orL_zero L k HZ.out, List.drop_eq_nil_of_le (by omega)]; rfl)
      go_wp2
      go_ret
      exact ⟨ret_i64 (by rw [HR.out]), rfl⟩
theorem or3_any (g : Nat) (x y z : Int) (w : World) (h : Row w g 3 #[.int .i64 x, .int .i64 y, .int .i64 z]) :
    Calls Tryd.prog 84 #[.slice (some ⟨g, 0, none⟩) 3 3] w fun e w' => e = .returned (.int .i64 (or3 x y z)) ∧ w' = w := by
  have := or_any g [x, y, z] w (fun i hi => by
    rcases (by simp at hi; omega : i = 0 ∨ i = 1 ∨ i = 2) with rfl | rfl | rfl
    · exact (h.cell 0).trans rfl
    · exact (h.cell 1).trans rfl
    · exact (h.cell 2).trans rfl) (by simp)
  rw [orL3] at this
  exact this
/-- A normal as the program holds it. -/
def encN (n : Cm.N5) : List Value := [.int .i64 n.1, .int .i64 n.2.1, .int .i64 n.2.2.1, .int .i64 n.2.2.2.1, .int .i64 n.2.2.2.2]
abbrev nV (n : Cm.N5) : Value := .agg #[.int .i64 n.1, .int .i64 n.2.1, .int .i64 n.2.2.1, .int .i64 n.2.2.2.1, .int .i64 n.2.2.2.2]
/-- Blocks more, draws more. -/
def Gw (W w : World) : Prop := ∃ q os, w = grow (W.drewN q) os
theorem Gw.alloc {W w : World} (h : Gw W w) (o : Obj) : Gw W (w.alloc o) := by
  obtain ⟨q, os, rfl⟩ := h
  exact ⟨q, _, by rw [alloc_eq_grow, grow_grow]⟩
theorem Gw.drew {W w : World} (h : Gw W w) : Gw W w.drew := by
  obtain ⟨q, os, rfl⟩ := h
  exact ⟨q + 1, os, rfl⟩
theorem Gw.below {W w : World} (h : Gw W w) : Below W.heap.size W w := by
  obtain ⟨q, os, rfl⟩ := h
  exact ⟨rfl, rfl, rfl, by simp, fun i hi => heap_grow_old _ _ (by simpa using hi)⟩
theorem row5 {w : World} {b : Nat} {t : TypeId} {x0 x1 x2 x3 x4 : Value} (h : Row w b t #[x0, x1, x2, x3, x4]) :
    w.cell? ⟨b, 0, none⟩ = some x0 ∧ w.cell? ⟨b, 1, none⟩ = some x1 ∧ w.cell? ⟨b, 2, none⟩ = some x2 ∧ w.cell? ⟨b, 3, none⟩ = some x3 ∧ w.cell? ⟨b, 4, none⟩ = some x4 :=
  ⟨(h.cell 0).trans rfl, (h.cell 1).trans rfl, (h.cell 2).trans rfl, (h.cell 3).trans rfl, (h.cell 4).trans rfl⟩
set_option maxRecDepth 100000 in
set_option maxHeartbeats 4000000 in
theorem order_any (s t : Cm.N5) (W : World) : Calls Tryd.prog 58 #[nV s, nV t] W fun e w' => e = .returned (.int .i64 (Cm.cmp3 (Cm.key s) (Cm.key t))) ∧ Gw W w' := by
  obtain ⟨a, b, c, d, f⟩ := s
  obtain ⟨x, y, z, u, v⟩ := t
  have HE := Lib.hid (or3_cmp a b c x y z)
  show Calls Tryd.prog 58 #[.agg #[.int .i64 a, .int .i64 b, .int .i64 c, .int .i64 d, .int .i64 f], .agg #[.int .i64 x, .int .i64 y, .int .i64 z, .int .i64 u, .int .i64 v]] W fun e w' => e = .returned (.int .i64 (Cm.cmp3 (a, b, c) (x, y, z))) ∧ Gw W w'
  rw [← HE.out]
  clear HE
  go_enter Tryd.func58, Tryd.ntmps58
  go_upto_region 1 with fail
  refine forget (fun Y => Gw W Y ∧ Row Y W.heap.size 50 #[.int .i64 a, .int .i64 b, .int .i64 c, .int .i64 d, .int .i64 f] ∧ Row Y (W.heap.size + 1) 50 #[.int .i64 x, .int .i64 y, .int .i64 z, .int .i64 u, .int .i64 v]) ⟨⟨0, _, by rw [alloc_eq_grow, alloc_eq_grow, grow_grow]; rfl⟩, (Row.new _ _ _).alloc _, Row.newAt (by simp)⟩ ?_
  rintro Y ⟨gY, r0, r1⟩
  obtain ⟨c0, c1, c2, -, -⟩ := row5 r0
  obtain ⟨d0, d1, d2, -, -⟩ := row5 r1
  have h0 := r0.lt
  have h1 := r1.lt
  have G := Lib.hid gY
  clear r0 r1 gY
  go_region_held3 (fun w' => (w'.cell? ⟨W.heap.size, 0, none⟩ = some (.int .i64 a) ∧ w'.cell? ⟨W.heap.size, 1, none⟩ = some (.int .i64 b) ∧ w'.cell? ⟨W.heap.size, 2, none⟩ = some (.int .i64 c)) ∧ w'.cell? ⟨W.heap.size + 1, 0, none⟩ = some (.int .i64 x) ∧ w'.cell? ⟨W.heap.size + 1, 1, none⟩ = some (.int .i64 y) ∧ w'.cell? ⟨W.heap.size + 1, 2, none⟩ = some (.int .i64 z))
    (go_keep)
    (first | (go_at_call 85; refine (cmpI_any _ _ _).mono ?_; rintro e w1 ⟨rfl, rfl⟩) | (go_at_call 84; refine (or3_any _ _ _ _ _ (Row.new _ _ _).drew).mono ?_; rintro e w1 ⟨rfl, rfl⟩))
  go_wp2_with fail
  go_ret
  exact ⟨rfl, (G.out.alloc _).drew⟩
end Go.Proofs.YtlakgkoohdfiaaaDoor

namespace Go.Proofs.YtlakgkoohdfiaaaDoor
open Go.RowKit

/-- A normal in five cells. -/
def At5 (w : World) (g o : Nat) (n : Cm.N5) : Prop := w.cell? ⟨g, o, none⟩ = some (.int .i64 n.1) ∧ w.cell? ⟨g, o + 1, none⟩ = some (.int .i64 n.2.1) ∧ w.cell? ⟨g, o + 2, none⟩ = some (.int .i64 n.2.2.1) ∧ w.cell? ⟨g, o + 3, none⟩ = some (.int .i64 n.2.2.2.1) ∧ w.cell? ⟨g, o + 4, none⟩ = some (.int .i64 n.2.2.2.2)
theorem At5.keep {w w' : World} {g o : Nat} {n : Cm.N5} (h : At5 w g o n) (hk : ∀ j, w'.cell? ⟨g, j, none⟩ = w.cell? ⟨g, j, none⟩) : At5 w' g o n := by
  obtain ⟨a, b, c, d, e⟩ := h
  exact ⟨(hk _).trans a, (hk _).trans b, (hk _).trans c, (hk _).trans d, (hk _).trans e⟩
/-- A list of normals as the program holds it. -/
def NrIn (w : World) (v : Value) (N : List Cm.N5) : Prop := ∃ A cap, v = .slice A N.length cap ∧ N.length ≤ cap ∧ cap ≤ 9223372036854775807 ∧ ∀ i (h : i < N.length), ∃ g off, A = some ⟨g, off, none⟩ ∧ g < w.heap.size ∧ At5 w g (off + i * 5) N[i]
theorem NrIn.under {w w' : World} {v : Value} {N : List Cm.N5} (h : NrIn w v N) (hb : Below w.heap.size w w') : NrIn w' v N := by
  obtain ⟨A, cap, rfl, h1, h2, h3⟩ := h
  refine ⟨A, cap, rfl, h1, h2, fun i hi => ?_⟩
  obtain ⟨g, off, rfl, hg, ha⟩ := h3 i hi
  exact ⟨g, off, rfl, Nat.lt_of_lt_of_le hg hb.size, ha.keep fun j => hb.cell (p := ⟨g, j, none⟩) hg⟩
theorem NrIn.nil (w : World) : NrIn w (.slice none 0 0) [] := ⟨none, 0, rfl, Nat.le_refl _, by omega, fun i hi => by simp at hi⟩
theorem NrIn.at {w : World} {A : Option Addr} {n c : Nat} {N : List Cm.N5} (h : NrIn w (.slice A n c) N) {i : Nat} (hi : i < N.length) : ∃ g off, A = some ⟨g, off, none⟩ ∧ g < w.heap.size ∧ At5 w g (off + i * 5) N[i] := by
  obtain ⟨A', cap, e, -, -, h3⟩ := h
  injection e with e1 e2 e3
  subst e1
  exact h3 i hi
theorem encN_len (x : Cm.N5) : (encN x).length = 5 := rfl
theorem aggN : ∀ w, (isAgg 50).run Tryd.prog w = .ok true w := Tryd.isAgg50
theorem sizeN : ∀ w, (Go.sizeOf 50).run Tryd.prog w = .ok 5 w := Tryd.sizeOf50
theorem encN_cells {w : World} {g off : Nat} {N : List Cm.N5} (hc : ∀ i (h : i < N.length), At5 w g (off + i * 5) N[i]) :
    ∀ j, j < N.length → ∀ i v, (encN N[j]!)[i]? = some v → w.cell? ⟨g, off + j * 5 + i, none⟩ = some v := by
  intro j hj i v hv
  have e : N[j]! = N[j] := by rw [List.getElem!_eq_getElem?_getD, List.getElem?_eq_getElem hj]; rfl
  rw [e] at hv
  obtain ⟨c0, c1, c2, c3, c4⟩ := hc j hj
  match i, hv with
  | 0, hv => simp [encN] at hv; rw [← hv]; exact c0
  | 1, hv => simp [encN] at hv; rw [← hv]; exact c1
  | 2, hv => simp [encN] at hv; rw [← hv]; exact c2
  | 3, hv => simp [encN] at hv; rw [← hv]; exact c3
  | 4, hv => simp [encN] at hv; rw [← hv]; exact c4
  | i + 5, hv => simp [encN] at hv
set_option maxHeartbeats 400000 in
theorem within_yes (v a b : Int) (w : World) (h : a ≤ v ∧ v ≤ b) : Calls Tryd.prog 92 #[.int .i64 v, .int .i64 a, .int .i64 b] w fun e w' => e = .returned (.bool true) ∧ w = w' := by
  obtain ⟨h1, h2⟩ := h
  go_enter Tryd.func92, Tryd.ntmps92
  go_wp2_with fail
  go_ret
  exact ⟨by first | rfl | exact ret_bool (by simp; omega), rfl⟩
set_option maxHeartbeats 400000 in
theorem within_no (v a b : Int) (w : World) (h : ¬ (a ≤ v ∧ v ≤ b)) : Calls Tryd.prog 92 #[.int .i64 v, .int .i64 a, .int .i64 b] w fun e w' => e = .returned (.bool false) ∧ w = w' := by
  by_cases h1 : a ≤ v
  · have h2 : ¬ v ≤ b := fun h2 => h ⟨h1, h2⟩
    clear h
    go_enter Tryd.func92, Tryd.ntmps92
    go_wp2_with fail
    go_ret
    exact ⟨by first | rfl | exact ret_bool (by simp; omega), rfl⟩
  · clear h
    go_enter Tryd.func92, Tryd.ntmps92
    go_wp2_with fail
    go_ret
    exact ⟨by first | rfl | exact ret_bool (by simp; omega), rfl⟩
set_option maxHeartbeats 2000000 in
theorem checkN_any (n : Cm.N5) (w : World) (hT : El.Tab w) :
    Calls Tryd.prog 57 #[nV n] w fun e w' => e = .returned (.int .i64 (Cm.chkN n)) ∧ Below w.heap.size w w' := by
  obtain ⟨c, f, m, a, s⟩ := n
  have b0 : Below w.heap.size w (w.alloc (.cells #[.int .i64 c, .int .i64 f, .int .i64 m, .int .i64 a, .int .i64 s] 50)) := (Below.refl _ _).alloc (Nat.le_refl _) _
  have r0 := Row.new w #[.int .i64 c, .int .i64 f, .int .i64 m, .int .i64 a, .int .i64 s] 50
  have hT0 := hT.under b0
  by_cases h : El.Elt.Ex c
  · obtain ⟨z, hz⟩ : ∃ z, Cm.chkN (c, f, m, a, s) = z := ⟨_, rfl⟩
    have HZ : Hid (z = if 0 ≤ f ∧ f ≤ 19 ∧ 1 ≤ m ∧ m ≤ 12 ∧ -10000 ≤ a ∧ a ≤ 20000 ∧ 0 ≤ s ∧ s ≤ 20000 then 0 else 1) := Lib.hid (by rw [← hz]; unfold Cm.chkN; rw [if_pos h])
    rw [hz]
    clear hz
    go_enter Tryd.func57, Tryd.ntmps57
    go_wp2_with fail
    refine (El.describe_yes c _ h hT0).mono ?_
    rintro e w1 ⟨rfl, g1⟩
    go_upto_region 4 with fail
    refine forget (fun Y => Below w.heap.size w Y ∧ Row Y w.heap.size 50 #[.int .i64 c, .int .i64 f, .int .i64 m, .int .i64 a, .int .i64 s]) ⟨(b0.trans (g1.mono (by simp))).alloc (Nat.le_trans b0.size g1.size) _, (r0.under g1).alloc _⟩ ?_
    clear g1 b0 r0 hT0
    rintro Y ⟨bY, r2⟩
    obtain ⟨p0, p1, p2, p3, p4⟩ := row5 r2
    have BY := Lib.hid bY; clear bY r2
    by_cases h1 : 0 ≤ f ∧ f ≤ 19
    · have W1 := Lib.hid (within_yes f 0 19 Y h1)
      by_cases h2 : 1 ≤ m ∧ m ≤ 12
      · have W2 := Lib.hid (within_yes m 1 12 Y h2)
        by_cases h3 : -10000 ≤ a ∧ a ≤ 20000
        · have W3 := Lib.hid (within_yes a (-10000) 20000 Y h3)
          by_cases h4 : 0 ≤ s ∧ s ≤ 20000
          · have W4 := Lib.hid (within_yes s 0 20000 Y h4)
            have H0 : Hid (z = 0) := Lib.hid (by rw [HZ.out, if_pos (by omega)])
            clear h1 h2 h3 h4
            go_wp2_with fail
            refine W1.out.mono ?_
            rintro e w2 ⟨rfl, rfl⟩
            go_wp2_with fail
            refine W2.out.mono ?_
            rintro e w2 ⟨rfl, rfl⟩
            go_wp2_with fail
            refine W3.out.mono ?_
            rintro e w2 ⟨rfl, rfl⟩
            go_wp2_with fail
            refine W4.out.mono ?_
            rintro e w2 ⟨rfl, rfl⟩
            go_wp2_with fail
            go_ret
            exact ⟨ret_i64 H0.out.symm, BY.out⟩
          · have W4 := Lib.hid (within_no s 0 20000 Y h4)
            have H0 : Hid (z = 1) := Lib.hid (by rw [HZ.out, if_neg (by omega)])
            clear h1 h2 h3 h4
            go_wp2_with fail
            refine W1.out.mono ?_
            rintro e w2 ⟨rfl, rfl⟩
            go_wp2_with fail
            refine W2.out.mono ?_
            rintro e w2 ⟨rfl, rfl⟩
            go_wp2_with fail
            refine W3.out.mono ?_
            rintro e w2 ⟨rfl, rfl⟩
            go_wp2_with fail
            refine W4.out.mono ?_
            rintro e w2 ⟨rfl, rfl⟩
            go_wp2_with fail
            go_ret
            exact ⟨ret_i64 H0.out.symm, BY.out⟩
        · have W3 := Lib.hid (within_no a (-10000) 20000 Y h3)
          have H0 : Hid (z = 1) := Lib.hid (by rw [HZ.out, if_neg (by omega)])
          clear h1 h2 h3
          go_wp2_with fail
          refine W1.out.mono ?_
          rintro e w2 ⟨rfl, rfl⟩
          go_wp2_with fail
          refine W2.out.mono ?_
          rintro e w2 ⟨rfl, rfl⟩
          go_wp2_with fail
          refine W3.out.mono ?_
          rintro e w2 ⟨rfl, rfl⟩
          go_wp2_with fail
          go_ret
          exact ⟨ret_i64 H0.out.symm, BY.out⟩
      · have W2 := Lib.hid (within_no m 1 12 Y h2)
        have H0 : Hid (z = 1) := Lib.hid (by rw [HZ.out, if_neg (by omega)])
        clear h1 h2
        go_wp2_with fail
        refine W1.out.mono ?_
        rintro e w2 ⟨rfl, rfl⟩
        go_wp2_with fail
        refine W2.out.mono ?_
        rintro e w2 ⟨rfl, rfl⟩
        go_wp2_with fail
        go_ret
        exact ⟨ret_i64 H0.out.symm, BY.out⟩
    · have W1 := Lib.hid (within_no f 0 19 Y h1)
      have H0 : Hid (z = 1) := Lib.hid (by rw [HZ.out, if_neg (by omega)])
      clear h1
      go_wp2_with fail
      refine W1.out.mono ?_
      rintro e w2 ⟨rfl, rfl⟩
      go_wp2_with fail
      go_ret
      exact ⟨ret_i64 H0.out.symm, BY.out⟩
  · have H0 : Hid (Cm.chkN (c, f, m, a, s) = 4) := Lib.hid (by unfold Cm.chkN; rw [if_neg h])
    go_enter Tryd.func57, Tryd.ntmps57
    go_wp2_with fail
    refine (El.describe_no c _ h).mono ?_
    rintro e w1 ⟨rfl, g1⟩
    go_wp2_with fail
    go_ret
    exact ⟨ret_i64 H0.out.symm, (b0.trans (g1.mono (by simp))).alloc (Nat.le_trans b0.size g1.size) _⟩
end Go.Proofs.YtlakgkoohdfiaaaDoor

namespace Go.Proofs.YtlakgkoohdfiaaaDoor
open Go.RowKit

set_option maxHeartbeats 1000000 in
theorem pred_checkN (e : Int) (ge : Nat) (w : World) (hT : El.Tab w) (hg : ge < w.heap.size) (hcell : w.cell? ⟨ge, 0, none⟩ = some (.int .i64 e)) :
    PredBelow Tryd.prog 56 #[.pointer (some ⟨ge, 0, none⟩)] (fun x : Cm.N5 => .agg (encN x).toArray) (fun n => Cm.chkN n == e) w := fun W x hb => by
  have hcW : W.cell? ⟨ge, 0, none⟩ = some (.int .i64 e) := (hb.cell (p := ⟨ge, 0, none⟩) hg).trans hcell
  have hgW : ge < W.heap.size := Nat.lt_of_lt_of_le hg hb.size
  have hTW := hT.under hb
  obtain ⟨a, b, c, d, f⟩ := x
  show Calls Tryd.prog 56 #[nV (a, b, c, d, f), .pointer (some ⟨ge, 0, none⟩)] W _
  have b1 : Below W.heap.size W (W.alloc (.cells #[.int .i64 a, .int .i64 b, .int .i64 c, .int .i64 d, .int .i64 f] 50)) := (Below.refl _ _).alloc (Nat.le_refl _) _
  have r1 := Row.new W #[.int .i64 a, .int .i64 b, .int .i64 c, .int .i64 d, .int .i64 f] 50
  have hT1 := hTW.under b1
  have hc1 := (b1.cell (p := ⟨ge, 0, none⟩) hgW).trans hcW
  have HB := Lib.hid (hb.trans (b1.mono hb.size))
  obtain ⟨p0, p1, p2, p3, p4⟩ := row5 r1
  have HK := Lib.hid (fun W (hW : El.Tab W) => checkN_any (a, b, c, d, f) W hW)
  have hs1 : ge < (W.alloc (.cells #[.int .i64 a, .int .i64 b, .int .i64 c, .int .i64 d, .int .i64 f] 50)).heap.size := Nat.lt_of_lt_of_le hgW b1.size
  clear hcW hTW hT hcell hb
  go_enter Tryd.func56, Tryd.ntmps56
  go_upto_region 1 with fail
  generalize W.alloc (.cells #[.int .i64 a, .int .i64 b, .int .i64 c, .int .i64 d, .int .i64 f] 50) = W1 at *
  generalize W.heap.size = gb at *
  have R1 := Lib.hid r1
  have T1 := Lib.hid hT1
  clear r1 hT1 b1
  refine wp_region_held_drew (S := fun w' : World => w'.cell? ⟨gb, 0, none⟩ = some (.int .i64 a) ∧ w'.cell? ⟨gb, 1, none⟩ = some (.int .i64 b) ∧ w'.cell? ⟨gb, 2, none⟩ = some (.int .i64 c) ∧ w'.cell? ⟨gb, 3, none⟩ = some (.int .i64 d) ∧ w'.cell? ⟨gb, 4, none⟩ = some (.int .i64 f) ∧ w'.cell? ⟨ge, 0, none⟩ = some (.int .i64 e)) (by kernel_rfl) ⟨p0, p1, p2, p3, p4, hc1⟩ (fun hHeld => ?_)
  refine tk 0 (oi := ⟨some 4, _, _, _, _, none⟩) rfl ?_
  try go_frame
  refine tk 2 (oi := ⟨some 6, _, _, _, _, none⟩) rfl ?_
  try go_frame
  refine wpAnyH_ready (rs := [1]) (by kernel_rfl) (by simp) ?_
  refine AllReadyH.cons rfl (fun K hK => ?_) AllReadyH.nil
  go_simp
  have hTd : El.Tab W1.drew := T1.out
  refine (HK.out _ hTd).mono ?_
  rintro e' w3 ⟨rfl, g3⟩
  have G3 : Hid (Below W1.heap.size W1 w3) := Lib.hid (undrew g3)
  clear g3
  have SS := row5 (R1.out.under G3.out)
  have SC := (G3.out.cell (p := ⟨ge, 0, none⟩) hs1).trans hc1
  go_wp2_with fail
  refine hK.out _ _ ⟨SS.1, SS.2.1, SS.2.2.1, SS.2.2.2.1, SS.2.2.2.2, SC⟩ (fun hHeld2 => ?_)
  clear hK K hHeld SS SC
  try go_frame
  refine tk 3 (oi := ⟨some 7, _, _, _, _, none⟩) rfl ?_
  try go_frame
  refine tk 4 (oi := ⟨some 3, _, _, _, _, none⟩) rfl ?_
  try go_frame
  refine wpAnyH_done (by kernel_rfl) ?_ _
  go_wp2_with fail
  go_ret
  exact ⟨rfl, HB.out.trans (G3.out.mono HB.out.size)⟩
set_option maxHeartbeats 1000000 in
theorem indexN_nil (A : Option Addr) (cap g : Nat) (lb : Array Value) (w : World) :
    Calls Tryd.prog 90 #[.slice A 0 cap, .func (.func g) #[] lb] w fun e w' => e = .returned (.int .i64 (-1)) ∧ w = w' := by
  go_enter Tryd.func90, Tryd.ntmps90
  go_wp2_with fail
  go_loop [5, 8] (fun _ t => t = .int .i64 0) (fun _ _ => 0)
  case atStart => rfl
  case round =>
    subst hrel
    go_wp2_with fail
    go_ret
    exact ⟨rfl, rfl⟩
theorem containsN_any (v : Value) (N : List Cm.N5) (e : Int) (ge : Nat) (w : World) (hN : NrIn w v N) (hT : El.Tab w) (hg : ge < w.heap.size) (hcell : w.cell? ⟨ge, 0, none⟩ = some (.int .i64 e)) :
    Calls Tryd.prog 55 #[v, .func (.func 56) #[] #[.pointer (some ⟨ge, 0, none⟩)]] w fun e' w' => e' = .returned (.bool (N.any fun n => Cm.chkN n == e)) ∧ Below w.heap.size w w' := by
  obtain ⟨A, cap, rfl, h1, h2, -⟩ := id hN
  by_cases hp : 0 < N.length
  · obtain ⟨g, off, rfl, hgl, -⟩ := hN.at hp
    have hc : ∀ i (h : i < N.length), At5 w g (off + i * 5) N[i] := fun i hi => by
      obtain ⟨g', off', e, -, ha⟩ := hN.at hi
      injection e with e
      injection e with e1 e2
      subst e1; subst e2
      exact ha
    have eg : ∀ args w, (callFunc 56 args).run Tryd.prog w = .ok (.enter 56 args) w := enters_of Tryd.func56 (by kernel_rfl) rfl
    have := AnyQ.slices_ContainsFunc Tryd.lConN 5 aggN sizeN encN encN_len (fun n => Cm.chkN n == e) 56 #[.pointer (some ⟨ge, 0, none⟩)] eg g off N.length cap N w (pred_checkN e ge w hT hg hcell) (Nat.le_refl _) (by omega) hgl (encN_cells hc)
    rw [List.take_length] at this
    exact this
  · obtain rfl : N = [] := List.eq_nil_of_length_eq_zero (by omega)
    clear hT hg hcell
    show Calls Tryd.prog 55 #[.slice A 0 cap, .func (.func 56) #[] #[.pointer (some ⟨ge, 0, none⟩)]] w _
    go_enter Tryd.func55, Tryd.ntmps55
    go_wp2_with fail
    refine (indexN_nil _ _ _ _ _).mono ?_
    rintro e' w1 ⟨rfl, rfl⟩
    go_wp2_with fail
    go_ret
    exact ⟨rfl, Below.refl _ _⟩
theorem any_chkN {N : List Cm.N5} {e : Int} : (N.any fun n => Cm.chkN n == e) = true ↔ ∃ n ∈ N, Cm.chkN n = e := by
  rw [List.any_eq_true]
  exact ⟨fun ⟨r, h, he⟩ => ⟨r, h, beq_iff_eq.1 he⟩, fun ⟨r, h, he⟩ => ⟨r, h, beq_iff_eq.2 he⟩⟩
/-- A climate as a value. -/
abbrev clV (v : Value) : Value := .agg #[v]
end Go.Proofs.YtlakgkoohdfiaaaDoor

namespace Go.Proofs.YtlakgkoohdfiaaaDoor
open Go.RowKit

theorem At5.drew {w : World} {g o : Nat} {n : Cm.N5} (h : At5 w g o n) : At5 w.drew g o n := h
set_option maxRecDepth 100000 in
set_option maxHeartbeats 4000000 in
theorem validateN_any (v : Value) (N : List Cm.N5) (w : World) (hN : NrIn w v N) (hT : El.Tab w) :
    Calls Tryd.prog 20 #[clV v] w fun e w' => e = .returned (.int .i64 (Cm.vldN N)) ∧ Below w.heap.size w w' := by
  obtain ⟨z, hz⟩ : ∃ z, Cm.vldN N = z := ⟨_, rfl⟩
  rw [hz]
  have HZ := Lib.hid hz; clear hz
  have b0 : Below w.heap.size w (w.alloc (.cells #[v] 24)) := (Below.refl _ _).alloc (Nat.le_refl _) _
  have r0 := Row.new w #[v] 24
  obtain ⟨A, cap, rfl, h1, h2, -⟩ := id hN
  have j0 : ∀ w, (Instr.index 96 (.agg #[.int .i64 4, .int .i64 1]) (.int .i64 0)).run Tryd.prog w = .ok (.int .i64 4) w := fun _ => by kernel_rfl
  have j1 : ∀ w, (Instr.index 96 (.agg #[.int .i64 4, .int .i64 1]) (.int .i64 1)).run Tryd.prog w = .ok (.int .i64 1) w := fun _ => by kernel_rfl
  have IN : Hid ((NrIn (w.alloc (.cells #[.slice A N.length cap] 24)) (.slice A N.length cap) N ∧ El.Tab (w.alloc (.cells #[.slice A N.length cap] 24))) ∧ Row (w.alloc (.cells #[.slice A N.length cap] 24)) w.heap.size 24 #[.slice A N.length cap] ∧ Below w.heap.size w (w.alloc (.cells #[.slice A N.length cap] 24))) := Lib.hid ⟨⟨hN.under b0, hT.under b0⟩, r0, b0⟩
  clear hN hT b0 r0
  go_enter Tryd.func20, Tryd.ntmps20
  go_upto_region 1 with fail
  refine forget (fun Y => Hid ((NrIn Y (.slice A N.length cap) N ∧ El.Tab Y) ∧ Row Y w.heap.size 24 #[.slice A N.length cap] ∧ Below w.heap.size w Y)) IN ?_
  clear IN
  generalize hB : w.heap.size = gb at *
  rintro Y IY
  have q0 := (IY.out.2.1.cell 0).trans rfl
  by_cases hlong : 200 < N.length
  · have HV : Hid (z = 2) := Lib.hid (by rw [← HZ.out, Cm.vldN_long hlong])
    have hl' : (200 : Int) < (N.length : Int) := by omega
    go_wp2_with fail
    go_ret
    exact ⟨ret_i64 HV.out.symm, by first | exact IY.out.2.2 | (rw [hB]; exact IY.out.2.2)⟩
  · have hl' : ¬ (200 : Int) < (N.length : Int) := by omega
    have HL := Lib.hid hlong
    go_wp2_with fail
    go_loopw [11] (fun t wr => Hid ((NrIn wr (.slice A N.length cap) N ∧ El.Tab wr) ∧ Row wr gb 24 #[.slice A N.length cap] ∧ Below gb w wr) ∧ (t = .int .i64 0 ∨ (t = .int .i64 1 ∧ Hid (¬ ∃ n ∈ N, Cm.chkN n = 4)) ∨ (t = .int .i64 2 ∧ Hid (¬ ∃ n ∈ N, Cm.chkN n = 4) ∧ Hid (¬ ∃ n ∈ N, Cm.chkN n = 1)))) (fun t _ => 2 - (intOf t).toNat)
    case atStart => exact ⟨IY, .inl rfl⟩
    case round =>
      clear IY q0
      obtain ⟨IR, hr⟩ := hrel
      rcases hr with rfl | ⟨rfl, hn⟩ | ⟨rfl, hn, hm⟩
      · have hsz := IR.out.2.2.size
        have b1 := (Below.refl wr.heap.size wr).alloc (Nat.le_refl _) (.cells #[.int .i64 4] 43)
        have r1 := Row.new wr #[.int .i64 4] 43
        go_upto_region 6 with fail
        generalize wr.alloc (.cells #[.int .i64 4] 43) = W1 at *
        have I1 := Lib.hid (And.intro (And.intro (IR.out.1.1.under b1) (IR.out.1.2.under b1)) (And.intro (IR.out.2.1.under b1) (IR.out.2.2.trans (b1.mono (hB ▸ hsz)))))
        have q0 := (I1.out.2.1.cell 0).trans rfl
        generalize wr.heap.size = ge at *
        have c1 : W1.cell? ⟨ge, 0, none⟩ = some (.int .i64 4) := (r1.cell 0).trans rfl
        have HC := Lib.hid (containsN_any _ N 4 ge W1 I1.out.1.1 I1.out.1.2 r1.lt c1)
        have R1 := Lib.hid r1
        clear b1 r1 c1 IR hsz
        cases ha : (N.any fun n => Cm.chkN n == 4) with
        | true =>
          rw [ha] at HC
          have HV : Hid (z = 4) := Lib.hid (by rw [← HZ.out, Cm.vldN_kind HL.out (any_chkN.1 ha)])
          clear ha
          go_wp2_with fail
          refine HC.out.mono ?_
          rintro e w2 ⟨rfl, g2⟩
          have c2 : w2.cell? ⟨ge, 0, none⟩ = some (.int .i64 4) := ((R1.out.under g2).cell 0).trans rfl
          have B2 := Lib.hid (I1.out.2.2.trans (g2.mono (hB ▸ I1.out.2.2.size))); clear g2
          go_wp2_with fail
          go_ret
          exact ⟨ret_i64 HV.out.symm, by first | exact B2.out | (rw [hB]; exact B2.out)⟩
        | false =>
          rw [ha] at HC
          have HNo : Hid (¬ ∃ n ∈ N, Cm.chkN n = 4) := Lib.hid (fun h => by rw [any_chkN.2 h] at ha; cases ha)
          clear ha
          go_wp2_with fail
          refine HC.out.mono ?_
          rintro e w2 ⟨rfl, g2⟩
          have I2 := Lib.hid (And.intro (And.intro (I1.out.1.1.under g2) (I1.out.1.2.under g2)) (And.intro (I1.out.2.1.under g2) (I1.out.2.2.trans (g2.mono (hB ▸ I1.out.2.2.size)))))
          clear g2
          go_wp2_with fail
          go_roundw
          case rel => exact ⟨I2, .inr (.inl ⟨rfl, HNo⟩)⟩
          case measure => simp [intOf]
      · have hsz := IR.out.2.2.size
        have b1 := (Below.refl wr.heap.size wr).alloc (Nat.le_refl _) (.cells #[.int .i64 1] 43)
        have r1 := Row.new wr #[.int .i64 1] 43
        go_upto_region 6 with fail
        generalize wr.alloc (.cells #[.int .i64 1] 43) = W1 at *
        have I1 := Lib.hid (And.intro (And.intro (IR.out.1.1.under b1) (IR.out.1.2.under b1)) (And.intro (IR.out.2.1.under b1) (IR.out.2.2.trans (b1.mono (hB ▸ hsz)))))
        have q0 := (I1.out.2.1.cell 0).trans rfl
        generalize wr.heap.size = ge at *
        have c1 : W1.cell? ⟨ge, 0, none⟩ = some (.int .i64 1) := (r1.cell 0).trans rfl
        have HC := Lib.hid (containsN_any _ N 1 ge W1 I1.out.1.1 I1.out.1.2 r1.lt c1)
        have R1 := Lib.hid r1
        clear b1 r1 c1 IR hsz
        cases ha : (N.any fun n => Cm.chkN n == 1) with
        | true =>
          rw [ha] at HC
          have HV : Hid (z = 1) := Lib.hid (by rw [← HZ.out, Cm.vldN_range HL.out hn.out (any_chkN.1 ha)])
          clear ha
          go_wp2_with fail
          refine HC.out.mono ?_
          rintro e w2 ⟨rfl, g2⟩
          have c2 : w2.cell? ⟨ge, 0, none⟩ = some (.int .i64 1) := ((R1.out.under g2).cell 0).trans rfl
          have B2 := Lib.hid (I1.out.2.2.trans (g2.mono (hB ▸ I1.out.2.2.size))); clear g2
          go_wp2_with fail
          go_ret
          exact ⟨ret_i64 HV.out.symm, by first | exact B2.out | (rw [hB]; exact B2.out)⟩
        | false =>
          rw [ha] at HC
          have HNo : Hid (¬ ∃ n ∈ N, Cm.chkN n = 1) := Lib.hid (fun h => by rw [any_chkN.2 h] at ha; cases ha)
          clear ha
          go_wp2_with fail
          refine HC.out.mono ?_
          rintro e w2 ⟨rfl, g2⟩
          have I2 := Lib.hid (And.intro (And.intro (I1.out.1.1.under g2) (I1.out.1.2.under g2)) (And.intro (I1.out.2.1.under g2) (I1.out.2.2.trans (g2.mono (hB ▸ I1.out.2.2.size)))))
          clear g2
          go_wp2_with fail
          go_roundw
          case rel => exact ⟨I2, .inr (.inr ⟨rfl, hn, HNo⟩)⟩
          case measure => simp [intOf]
      · have HS := Lib.hid (Cm.vldN_sort HL.out hn.out hm.out)
        clear hn hm j0 j1
        go_wp2_with fail
        go_loopw [5] (fun t wk => ∃ m : Nat, t = .int .i64 ((m : Int) + 1) ∧ m ≤ N.length ∧ Hid ((NrIn wk (.slice A N.length cap) N ∧ El.Tab wk) ∧ Row wk gb 24 #[.slice A N.length cap] ∧ Below gb w wk) ∧ Hid (∀ j, ∀ h : j + 1 < N.length, j < m → Cm.lt3 (Cm.key N[j]) (Cm.key N[j + 1]))) (fun t _ => N.length + 2 - (intOf t).toNat)
        case atStart => exact ⟨0, rfl, Nat.zero_le _, IR, Lib.hid (fun j h h' => by omega)⟩
        case round =>
          clear IR
          obtain ⟨m, rfl, hml, IK, ha⟩ := hrel
          have q0 := (IK.out.2.1.cell 0).trans rfl
          by_cases hlt : m + 1 < N.length
          · obtain ⟨g, off, rfl, hgl, a0, a1, a2, a3, a4⟩ := IK.out.1.1.at (i := m) (by omega)
            obtain ⟨g', off', e, -, c0, c1, c2, c3, c4⟩ := IK.out.1.1.at hlt
            injection e with e
            injection e with e1 e2
            subst e1; subst e2
            have HK := Lib.hid (show Cm.lt3 (Cm.key N[m]) (Cm.key N[m + 1]) → ∀ j, ∀ h : j + 1 < N.length, j < m + 1 → Cm.lt3 (Cm.key N[j]) (Cm.key N[j + 1]) from fun hk j h h' => by
              rcases Nat.lt_or_ge j m with q | q
              · exact ha.out j h q
              · obtain rfl : j = m := by omega
                exact hk)
            have HNo : Hid (¬ Cm.lt3 (Cm.key N[m]) (Cm.key N[m + 1]) → z = 8) := Lib.hid (fun hk => by rw [← HZ.out]; exact HS.out.2 fun h => hk (h m hlt))
            have k0 : (0 : Int) ≤ (m : Int) := by omega
            have k1 : (m : Int) < (N.length : Int) := by omega
            have k2 : (m : Int) + 1 < (N.length : Int) := by omega
            have k3 : (0 : Int) ≤ (m : Int) + 1 := by omega
            have x1 : IntKind.i64.wrap (m : Int) = (m : Int) := IntWalk.i64_in _ (by omega)
            generalize N[m] = x at *
            generalize N[m + 1] = y at *
            obtain ⟨x0, x2, x3, x4, x5⟩ := x
            obtain ⟨y0, y1, y2, y3, y4⟩ := y
            have HO := Lib.hid (order_any (x0, x2, x3, x4, x5) (y0, y1, y2, y3, y4) wr.drew)
            simp only at a0 a1 a2 a3 a4 c0 c1 c2 c3 c4
            go_upto_region 12 with fail
            refine wp_region_held_drew (S := fun w' : World => w'.cell? ⟨gb, 0, none⟩ = some (.slice (some ⟨g, off, none⟩) N.length cap) ∧ (w'.cell? ⟨g, off + m * 5, none⟩ = some (.int .i64 x0) ∧ w'.cell? ⟨g, off + m * 5 + 1, none⟩ = some (.int .i64 x2) ∧ w'.cell? ⟨g, off + m * 5 + 2, none⟩ = some (.int .i64 x3) ∧ w'.cell? ⟨g, off + m * 5 + 3, none⟩ = some (.int .i64 x4) ∧ w'.cell? ⟨g, off + m * 5 + 4, none⟩ = some (.int .i64 x5)) ∧ (w'.cell? ⟨g, off + (m + 1) * 5, none⟩ = some (.int .i64 y0) ∧ w'.cell? ⟨g, off + (m + 1) * 5 + 1, none⟩ = some (.int .i64 y1) ∧ w'.cell? ⟨g, off + (m + 1) * 5 + 2, none⟩ = some (.int .i64 y2) ∧ w'.cell? ⟨g, off + (m + 1) * 5 + 3, none⟩ = some (.int .i64 y3) ∧ w'.cell? ⟨g, off + (m + 1) * 5 + 4, none⟩ = some (.int .i64 y4))) (by kernel_rfl) ⟨q0, ⟨a0, a1, a2, a3, a4⟩, c0, c1, c2, c3, c4⟩ (fun hHeld => ?_)
            refine tk 0 rfl ?_
            try go_frame
            refine tk 1 rfl ?_
            try go_frame
            refine tk 2 rfl ?_
            try go_frame
            refine tk 3 rfl ?_
            try go_frame
            refine tk 4 rfl ?_
            try go_frame
            refine tk 5 rfl ?_
            try go_frame
            refine tk 6 rfl ?_
            try go_frame
            refine tk 7 rfl ?_
            try go_frame
            refine tk 8 rfl ?_
            try go_frame
            refine tk 9 rfl ?_
            try go_frame
            refine tk 10 rfl ?_
            try go_frame
            refine wpAnyH_ready (rs := [11]) (by kernel_rfl) (by simp) ?_
            refine AllReadyH.cons rfl (fun K hK => ?_) AllReadyH.nil
            go_simp
            --MARK
            rcases Cm.cmp3_cases (x0, x2, x3) (y0, y1, y2) with ⟨hlt3, hcm⟩ | hge
            · have HA2 := Lib.hid (HK.out hlt3)
              have HE : Hid (Cm.cmp3 (Cm.key (x0, x2, x3, x4, x5)) (Cm.key (y0, y1, y2, y3, y4)) = -1) := Lib.hid hcm
              clear hlt3 hcm HK HNo ha
              refine HO.out.mono ?_
              rintro e w3 ⟨rfl, g3⟩
              rw [HE.out]
              have G3 : Hid (Below wr.heap.size wr w3) := Lib.hid (undrew g3.below)
              clear g3 HO
              have C := fun j => G3.out.cell (p := ⟨g, j, none⟩) hgl
              have SS := And.intro ((G3.out.cell (p := ⟨gb, 0, none⟩) IK.out.2.1.lt).trans q0) (And.intro (And.intro ((C _).trans a0) (And.intro ((C _).trans a1) (And.intro ((C _).trans a2) (And.intro ((C _).trans a3) ((C _).trans a4))))) (And.intro ((C _).trans c0) (And.intro ((C _).trans c1) (And.intro ((C _).trans c2) (And.intro ((C _).trans c3) ((C _).trans c4))))))
              clear C
              go_wp2_with fail
              refine hK.out _ _ SS (fun hHeld2 => ?_)
              clear hK K hHeld SS
              try go_frame
              refine tk 12 (oi := ⟨some 39, _, _, _, _, none⟩) rfl ?_
              try go_frame
              refine wpAnyH_done (by kernel_rfl) ?_ _
              clear hHeld2 a0 a1 a2 a3 a4 c0 c1 c2 c3 c4 q0
              have I3 := Lib.hid (And.intro (And.intro (IK.out.1.1.under G3.out) (IK.out.1.2.under G3.out)) (And.intro (IK.out.2.1.under G3.out) (IK.out.2.2.trans (G3.out.mono (hB ▸ IK.out.2.2.size)))))
              go_wp2_with fail
              go_roundw
              case rel => exact ⟨m + 1, by go_num, by omega, I3, HA2⟩
              case measure => simp [intOf]; omega
            · have HV : Hid (z = 8) := Lib.hid (HNo.out (fun h => by
                rcases hge with ⟨e, -⟩ | ⟨h2, -⟩
                · have h' : Cm.lt3 (x0, x2, x3) (y0, y1, y2) := h
                  rw [e] at h'
                  exact Cm.lt3_irr h'
                · exact Cm.lt3_irr (Cm.lt3_trans h h2)))
              obtain ⟨q, HE, hq⟩ : ∃ q : Int, Hid (Cm.cmp3 (Cm.key (x0, x2, x3, x4, x5)) (Cm.key (y0, y1, y2, y3, y4)) = q) ∧ 0 ≤ q := by
                rcases hge with ⟨-, e⟩ | ⟨-, e⟩
                · exact ⟨0, Lib.hid e, by omega⟩
                · exact ⟨1, Lib.hid e, by omega⟩
              clear hge HK HNo ha
              refine HO.out.mono ?_
              rintro e w3 ⟨rfl, g3⟩
              rw [HE.out]
              have G3 : Hid (Below wr.heap.size wr w3) := Lib.hid (undrew g3.below)
              clear g3 HO
              have C := fun j => G3.out.cell (p := ⟨g, j, none⟩) hgl
              have SS := And.intro ((G3.out.cell (p := ⟨gb, 0, none⟩) IK.out.2.1.lt).trans q0) (And.intro (And.intro ((C _).trans a0) (And.intro ((C _).trans a1) (And.intro ((C _).trans a2) (And.intro ((C _).trans a3) ((C _).trans a4))))) (And.intro ((C _).trans c0) (And.intro ((C _).trans c1) (And.intro ((C _).trans c2) (And.intro ((C _).trans c3) ((C _).trans c4))))))
              clear C
              go_wp2_with fail
              refine hK.out _ _ SS (fun hHeld2 => ?_)
              clear hK K hHeld SS
              try go_frame
              refine tk 12 (oi := ⟨some 39, _, _, _, _, none⟩) rfl ?_
              try go_frame
              refine wpAnyH_done (by kernel_rfl) ?_ _
              clear hHeld2 a0 a1 a2 a3 a4 c0 c1 c2 c3 c4 q0
              have I3 : Hid (Below gb w w3) := Lib.hid (IK.out.2.2.trans (G3.out.mono (hB ▸ IK.out.2.2.size)))
              go_wp2_with fail
              go_ret
              exact ⟨ret_i64 HV.out.symm, by first | exact I3.out | (rw [hB]; exact I3.out)⟩
          · have k2 : ¬ (m : Int) + 1 < (N.length : Int) := by omega
            have HV : Hid (z = 0) := Lib.hid (by rw [← HZ.out]; exact HS.out.1 fun j h => ha.out j h (by omega))
            go_wp2_with fail
            go_ret
            exact ⟨ret_i64 HV.out.symm, by first | exact IK.out.2.2 | (rw [hB]; exact IK.out.2.2)⟩
end Go.Proofs.YtlakgkoohdfiaaaDoor
