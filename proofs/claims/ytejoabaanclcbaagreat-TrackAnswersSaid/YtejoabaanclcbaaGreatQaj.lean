/- Texts of this proof. -/
import Derived.Test.YtejoabaanclcbaaGreatQai
namespace Go.Proofs.YtejoabaanclcbaaGreat
open Go.RowKit

set_option maxHeartbeats 400000 in
theorem refValid_any (F a b c : Int) (w : World) :
    Calls Tryz.prog 54 #[.agg #[.int .i64 F, .int .i64 a, .int .i64 b, .int .i64 c]] w fun e w' => e = .returned (.bool (vb F a b c)) ∧ Below w.heap.size w w' := by
  by_cases h1 : 0 ≤ F
  · by_cases h2 : F < 20
    · by_cases h3 : 0 ≤ a
      · by_cases h4 : a ≤ 840
        · by_cases h5 : 0 ≤ b
          · by_cases h6 : b ≤ 840
            · by_cases h7 : 0 ≤ c
              · by_cases h8 : c ≤ 840
                · have V : Hid (vb F a b c = decide (a + b + c = 840)) := Lib.hid (by unfold vb; rw [decide_eq_decide]; exact ⟨fun h => h.2.2.2.2.2.2.2.2, fun h => ⟨h1, h2, h3, h4, h5, h6, h7, h8, h⟩⟩)
                  go_enter Tryz.func54, Tryz.ntmps54
                  go_wp2
                  go_ret
                  exact ⟨ret_bool (by rw [V.out, Bool.eq_iff_iff]; simp), (Below.refl _ _).alloc (Nat.le_refl _) _⟩
                · go_enter Tryz.func54, Tryz.ntmps54
                  go_wp2
                  go_ret
                  exact ⟨ret_bool (by simp [vb]; omega), (Below.refl _ _).alloc (Nat.le_refl _) _⟩
              · go_enter Tryz.func54, Tryz.ntmps54
                go_wp2
                go_ret
                exact ⟨ret_bool (by simp [vb]; omega), (Below.refl _ _).alloc (Nat.le_refl _) _⟩
            · go_enter Tryz.func54, Tryz.ntmps54
              go_wp2
              go_ret
              exact ⟨ret_bool (by simp [vb]; omega), (Below.refl _ _).alloc (Nat.le_refl _) _⟩
          · go_enter Tryz.func54, Tryz.ntmps54
            go_wp2
            go_ret
            exact ⟨ret_bool (by simp [vb]; omega), (Below.refl _ _).alloc (Nat.le_refl _) _⟩
        · go_enter Tryz.func54, Tryz.ntmps54
          go_wp2
          go_ret
          exact ⟨ret_bool (by simp [vb]; omega), (Below.refl _ _).alloc (Nat.le_refl _) _⟩
      · go_enter Tryz.func54, Tryz.ntmps54
        go_wp2
        go_ret
        exact ⟨ret_bool (by simp [vb]; omega), (Below.refl _ _).alloc (Nat.le_refl _) _⟩
    · go_enter Tryz.func54, Tryz.ntmps54
      go_wp2
      go_ret
      exact ⟨ret_bool (by simp [vb]; omega), (Below.refl _ _).alloc (Nat.le_refl _) _⟩
  · go_enter Tryz.func54, Tryz.ntmps54
    go_wp2
    go_ret
    exact ⟨ret_bool (by simp [vb]; omega), (Below.refl _ _).alloc (Nat.le_refl _) _⟩

theorem ret_c3t {f : Nat} {a b c : Int} (h : a = (Ico.cor f 0 : Int) ∧ b = (Ico.cor f 1 : Int) ∧ c = (Ico.cor f 2 : Int)) : Ending.returned (.tuple #[.agg #[.int .i64 a, .int .i64 b, .int .i64 c], .int .i64 0]) = .returned (.tuple #[c3 f, .int .i64 0]) := by
  obtain ⟨rfl, rfl, rfl⟩ := h; rfl
set_option maxHeartbeats 1000000 in
theorem refCorners_yes (f : Nat) (w : World) (hf : f < 20) :
    Calls Tryz.prog 91 #[.int .i64 f] w fun e w' => e = .returned (.tuple #[c3 f, .int .i64 0]) ∧ Below w.heap.size w w' := by
  have hq : (f : Int) / 5 = 0 ∨ (f : Int) / 5 = 1 ∨ (f : Int) / 5 = 2 ∨ (f : Int) / 5 = 3 := by omega
  rcases hq with hq | hq | hq | hq
  · have C := Lib.hid (cor_form0 f hf (by omega))
    have q0 : ((f : Int) / 5 == 0) = true := by rw [hq]; rfl
    clear hq
    go_enter Tryz.func91, Tryz.ntmps91
    go_wp2
    exact bodyPost_ret (v := .tuple #[.agg #[.int .i64 0, .int .i64 (1 + (f : Int) % 5), .int .i64 (1 + ((f : Int) % 5 + 1) % 5)], .int .i64 0]) (by simp [results, Tryz.results91, go_sem]) rfl ⟨ret_c3t (by obtain ⟨c1, c2, c3⟩ := C.out; rw [c1, c2, c3]; omega), (Below.refl _ _).alloc (Nat.le_refl _) _⟩
  · have C := Lib.hid (cor_form1 f hf (by omega))
    have q0 : ((f : Int) / 5 == 0) = false := by rw [hq]; rfl
    have q1 : ((f : Int) / 5 == 1) = true := by rw [hq]; rfl
    clear hq
    go_enter Tryz.func91, Tryz.ntmps91
    go_wp2
    exact bodyPost_ret (v := .tuple #[.agg #[.int .i64 (1 + (f : Int) % 5), .int .i64 (6 + (f : Int) % 5), .int .i64 (1 + ((f : Int) % 5 + 1) % 5)], .int .i64 0]) (by simp [results, Tryz.results91, go_sem]) rfl ⟨ret_c3t (by obtain ⟨c1, c2, c3⟩ := C.out; rw [c1, c2, c3]; omega), (Below.refl _ _).alloc (Nat.le_refl _) _⟩
  · have C := Lib.hid (cor_form2 f hf (by omega))
    have q0 : ((f : Int) / 5 == 0) = false := by rw [hq]; rfl
    have q1 : ((f : Int) / 5 == 1) = false := by rw [hq]; rfl
    have q2 : ((f : Int) / 5 == 2) = true := by rw [hq]; rfl
    clear hq
    go_enter Tryz.func91, Tryz.ntmps91
    go_wp2
    exact bodyPost_ret (v := .tuple #[.agg #[.int .i64 (6 + (f : Int) % 5), .int .i64 (6 + ((f : Int) % 5 + 1) % 5), .int .i64 (1 + ((f : Int) % 5 + 1) % 5)], .int .i64 0]) (by simp [results, Tryz.results91, go_sem]) rfl ⟨ret_c3t (by obtain ⟨c1, c2, c3⟩ := C.out; rw [c1, c2, c3]; omega), (Below.refl _ _).alloc (Nat.le_refl _) _⟩
  · have C := Lib.hid (cor_form3 f hf (by omega))
    have q0 : ((f : Int) / 5 == 0) = false := by rw [hq]; rfl
    have q1 : ((f : Int) / 5 == 1) = false := by rw [hq]; rfl
    have q2 : ((f : Int) / 5 == 2) = false := by rw [hq]; rfl
    clear hq
    go_enter Tryz.func91, Tryz.ntmps91
    go_wp2
    exact bodyPost_ret (v := .tuple #[.agg #[.int .i64 11, .int .i64 (6 + ((f : Int) % 5 + 1) % 5), .int .i64 (6 + (f : Int) % 5)], .int .i64 0]) (by simp [results, Tryz.results91, go_sem]) rfl ⟨ret_c3t (by obtain ⟨c1, c2, c3⟩ := C.out; rw [c1, c2, c3]; omega), (Below.refl _ _).alloc (Nat.le_refl _) _⟩
set_option maxRecDepth 100000 in
set_option maxHeartbeats 1000000 in
theorem refWeights_any (f : Nat) (a b c : Int) (w : World) (hf : f < 20) :
    Calls Tryz.prog 68 #[.agg #[.int .i64 f, .int .i64 a, .int .i64 b, .int .i64 c]] w fun e w' => e = .returned (.agg (wa f a b c)) ∧ Below w.heap.size w w' := by
  go_enter Tryz.func68, Tryz.ntmps68
  go_upto_region 3 with (go_at_call 91; refine (refCorners_yes _ _ hf).mono ?_; rintro e w1 ⟨rfl, hb⟩)
  have r1 : Row w1 w.heap.size 32 #[.int .i64 f, .int .i64 a, .int .i64 b, .int .i64 c] := (((Row.new w _ _).alloc _).alloc _).under hb
  have r2 : Row w1 (w.heap.size + 1) 102 z12 := ((Row.newAt (by simp)).alloc _).under hb
  have r3 : Row w1 (w.heap.size + 1 + 1) 102 z12 := (Row.newAt (by simp)).under hb
  have b1 : Below w.heap.size w w1 := ((((Below.refl _ _).alloc (Nat.le_refl _) _).alloc (by simp) _).alloc (by simp; omega) _).trans (hb.mono (by simp; omega))
  have z1 : w.heap.size + 3 ≤ w1.heap.size := by have := hb.size; simp at this; omega
  refine forget (fun Y => Below w.heap.size w Y ∧ Row Y w.heap.size 32 #[.int .i64 f, .int .i64 a, .int .i64 b, .int .i64 c] ∧ Row Y (w.heap.size + 1) 102 z12 ∧ Row Y (w.heap.size + 1 + 1) 102 z12 ∧ Row Y w1.heap.size 130 #[.int .i64 (Ico.cor f 0), .int .i64 (Ico.cor f 1), .int .i64 (Ico.cor f 2)]) ⟨b1.alloc b1.size _, r1.alloc _, r2.alloc _, r3.alloc _, Row.new _ _ _⟩ ?_
  clear r1 r2 r3 b1 hb
  generalize w1.heap.size = gc at *
  rintro Y ⟨bY, r1, r2, r3, r4⟩
  obtain ⟨p0, p1, p2, p3⟩ := row4 r1
  obtain ⟨q0, q1, q2⟩ := row3 r4
  have l0 := Ico.cor_lt f 0
  have l1 := Ico.cor_lt f 1
  have l2 := Ico.cor_lt f 2
  obtain ⟨n1, n2, n3⟩ := Ico.cor_ne f hf
  have k0 : Y.cell? ⟨w.heap.size + 1 + 1, Ico.cor f 0, none⟩ = some (.int .i64 0) := (r3.cell _).trans (z12_at _ l0)
  have k1 : Y.cell? ⟨w.heap.size + 1 + 1, Ico.cor f 1, none⟩ = some (.int .i64 0) := (r3.cell _).trans (z12_at _ l1)
  have k2 : Y.cell? ⟨w.heap.size + 1 + 1, Ico.cor f 2, none⟩ = some (.int .i64 0) := (r3.cell _).trans (z12_at _ l2)
  have m0 := r3.thaw (Ico.cor f 0)
  have m1 := r3.thaw (Ico.cor f 1)
  have m2 := r3.thaw (Ico.cor f 2)
  have W := Lib.hid (wa_of hf a b c)
  have e0 : w.heap.size ≠ w.heap.size + 1 + 1 := by omega
  have e1 : gc ≠ w.heap.size + 1 + 1 := by omega
  have R3 := Lib.hid r3
  have R2 := Lib.hid r2
  have hg2 : w.heap.size ≤ w.heap.size + 1 := by omega
  have hg3 : w.heap.size ≤ w.heap.size + 1 + 1 := by omega
  have hg23 : w.heap.size + 1 ≠ w.heap.size + 1 + 1 := by omega
  clear r1 r2 r3 r4
  generalize Ico.cor f 0 = x at *
  generalize Ico.cor f 1 = y at *
  generalize Ico.cor f 2 = z at *
  generalize w.heap.size + 1 + 1 = g3 at *
  generalize w.heap.size + 1 = g2 at *
  go_region
  go_upto_region 4 with fail
  have ne23 : g2 ≠ g3 := hg23
  have hR : ∀ n : World, n = (((Y.setCell ⟨g3, x, none⟩ (.int .i64 a)).setCell ⟨g3, y, none⟩ (.int .i64 b)).setCell ⟨g3, z, none⟩ (.int .i64 c)).drew → Below w.heap.size w n ∧ Row n g2 102 z12 ∧ Row n g3 102 (wa f a b c) := by
    rintro n rfl
    exact ⟨(((bY.setCell (p := ⟨g3, x, none⟩) hg3 _).setCell (p := ⟨g3, y, none⟩) hg3 _).setCell (p := ⟨g3, z, none⟩) hg3 _).drew, ((R2.out.far (Ne.symm ne23) _).far (Ne.symm ne23) _).far (Ne.symm ne23) _, by rw [← W.out]; exact ((R3.out.put _ _).put _ _).put _ _⟩
  refine forget (fun n => Below w.heap.size w n ∧ Row n g2 102 z12 ∧ Row n g3 102 (wa f a b c)) (hR _ rfl) ?_
  clear hR R2 R3 W k0 k1 k2 m0 m1 m2 p0 p1 p2 p3 q0 q1 q2 bY
  rintro V ⟨bV, v2, v3⟩
  obtain ⟨⟨c0, c1, c2, c3, c4, c5⟩, c6, c7, c8, c9, c10, c11⟩ := row12 v3
  obtain ⟨⟨d0, d1, d2, d3, d4, d5⟩, d6, d7, d8, d9, d10, d11⟩ := row12 v2
  have t0 := v2.thaw
  have V2 := Lib.hid v2
  clear v2 v3
  go_wp2
  exact bodyPost_ret (v := .agg (wa f a b c)) (results_cell_row Tryz.results68 _ _ g2 102 _ (0, 0) _ rfl (put12 _ _ _ _ _ _ _ _ _ _ _ _ V2.out) Tryz.underlying102 rfl (by kernel_rfl)) rfl ⟨rfl, below12 _ _ _ _ _ _ _ _ _ _ _ _ bV hg2⟩
theorem refWeights_is (f : Nat) (a b c : Int) (w0 w : World) (hb : Below w0.heap.size w0 w) (hf : f < 20) :
    Calls Tryz.prog 68 #[.agg #[.int .i64 f, .int .i64 a, .int .i64 b, .int .i64 c]] w fun e w' => e = .returned (.agg (wa f a b c)) ∧ Below w0.heap.size w0 w' :=
  (refWeights_any f a b c w hf).mono fun _ _ ⟨he, hg⟩ => ⟨he, hb.trans (hg.mono hb.size)⟩
theorem refValid_from (F a b c : Int) (w0 w : World) (hb : Below w0.heap.size w0 w) :
    Calls Tryz.prog 54 #[.agg #[.int .i64 F, .int .i64 a, .int .i64 b, .int .i64 c]] w fun e w' => e = .returned (.bool (vb F a b c)) ∧ Below w0.heap.size w0 w' :=
  (refValid_any F a b c w).mono fun _ _ ⟨he, hg⟩ => ⟨he, hb.trans (hg.mono hb.size)⟩
end Go.Proofs.YtejoabaanclcbaaGreat



namespace Go.Proofs.YtejoabaanclcbaaGreat
open Go.RowKit

/-- The address on g, as cells. -/
def pl (f : Nat) (a b c : Int) (g : Nat) : List Value := [.int .i64 g, .int .i64 (Ico.wt f a b c (Ico.cor g 0)), .int .i64 (Ico.wt f a b c (Ico.cor g 1)), .int .i64 (Ico.wt f a b c (Ico.cor g 2))]
/-- All cells below n. -/
def pls (f : Nat) (a b c : Int) (n : Nat) : List Value := (Ico.fcs f a b c n).flatMap (pl f a b c)
theorem pls_yes {f : Nat} {a b c : Int} {n : Nat} (h : Ico.ok f a b c n = true) : pls f a b c (n + 1) = pls f a b c n ++ pl f a b c n := by
  unfold pls; rw [Ico.fcs_succ_yes h, List.flatMap_append]; simp
theorem pls_no {f : Nat} {a b c : Int} {n : Nat} (h : Ico.ok f a b c n = false) : pls f a b c (n + 1) = pls f a b c n := by
  unfold pls; rw [Ico.fcs_succ_no h]
theorem len_yes {f : Nat} {a b c : Int} {n : Nat} (h : Ico.ok f a b c n = true) : (Ico.fcs f a b c (n + 1)).length = (Ico.fcs f a b c n).length + 1 := by rw [Ico.fcs_succ_yes h]; simp
theorem len_no {f : Nat} {a b c : Int} {n : Nat} (h : Ico.ok f a b c n = false) : (Ico.fcs f a b c (n + 1)).length = (Ico.fcs f a b c n).length := by rw [Ico.fcs_succ_no h]
/-- What is known while the faces are gone through. -/
structure Going (W : World) (f : Nat) (a b c : Int) (gw : Nat) (n : Nat) (v : Value) (w : World) : Prop where
  below : Below W.heap.size W w
  row : Row w gw 102 (wa f a b c)
  own : w.ownsRow W.heap.size 32 4 v (Ico.fcs f a b c n).length (pls f a b c n)
theorem Going.under {W w w' : World} {f gw n : Nat} {a b c : Int} {v : Value} (h : Going W f a b c gw n v w) (hb : Below w.heap.size w w') : Going W f a b c gw n v w' :=
  ⟨h.below.trans (hb.mono h.below.size), h.row.under hb, own_under h.own hb⟩
theorem Going.alloc {W w : World} {f gw n : Nat} {a b c : Int} {v : Value} (h : Going W f a b c gw n v w) (o : Obj) : Going W f a b c gw n v (w.alloc o) := h.under ((Below.refl _ _).alloc (Nat.le_refl _) o)
theorem Going.drew {W w : World} {f gw n : Nat} {a b c : Int} {v : Value} (h : Going W f a b c gw n v w) : Going W f a b c gw n v w.drew := ⟨h.below.drew, h.row, h.own⟩
theorem Going.no {W w : World} {f gw n : Nat} {a b c : Int} {v : Value} (h : Going W f a b c gw n v w) (ho : Ico.ok f a b c n = false) : Going W f a b c gw (n + 1) v w :=
  ⟨h.below, h.row, by rw [pls_no ho, len_no ho]; exact h.own⟩
theorem Going.yes {W w w' : World} {f gw n : Nat} {a b c : Int} {v v' : Value} (h : Going W f a b c gw n v w) (ho : Ico.ok f a b c n = true)
    (hown : w'.ownsRow W.heap.size 32 4 v' ((Ico.fcs f a b c n).length + 1) (pls f a b c n ++ pl f a b c n)) (hg : w.grownBy w' v.ownBlock) : Going W f a b c gw (n + 1) v' w' :=
  ⟨below_own h.below h.below.size h.own hg, h.row.grown hg (own_ne h.own h.row (by decide)), by rw [pls_yes ho, len_yes ho]; exact hown⟩
theorem row_news {w : World} {g : Nat} {t : TypeId} {x y z u : Value} (h : Row w g t #[x, y, z, u]) : ∀ (j : Nat) (v : Value), [x, y, z, u][j]? = some v → w.cell? ((⟨g, 0, none⟩ : Addr).add j) = some v := by
  intro j v hv
  have e : (⟨g, 0, none⟩ : Addr).add j = ⟨g, j, none⟩ := by unfold Addr.add; cases j <;> simp
  rw [e, h.cell j, ← hv]
  simp
theorem pl_one (f : Nat) (a b c : Int) (g : Nat) : ∀ u ∈ pl f a b c g, u.oneCell' = true := by
  intro u hu
  simp only [pl, List.mem_cons, List.not_mem_nil, or_false] at hu
  rcases hu with rfl | rfl | rfl | rfl <;> rfl
theorem flat4 {α : Type} {p : Nat → List α} (hp : ∀ g, (p g).length = 4) : ∀ (l : List Nat) (i r : Nat), r < 4 → (h : i < l.length) → (l.flatMap p)[i * 4 + r]? = (p l[i])[r]?
  | x :: l, 0, r, hr, _ => by
    rw [List.flatMap_cons, List.getElem?_append_left (by rw [hp]; omega)]; simp
  | x :: l, i + 1, r, hr, h => by
    rw [List.flatMap_cons, List.getElem?_append_right (by rw [hp]; omega), hp]
    rw [show (i + 1) * 4 + r - 4 = i * 4 + r by omega, flat4 hp l i r hr (by simpa using h)]
    simp
theorem pl_len (f : Nat) (a b c : Int) (g : Nat) : (pl f a b c g).length = 4 := rfl
/-- Block g holds the addresses. -/
def Has (w : World) (f : Nat) (a b c : Int) (g : Nat) : Prop := ∀ i, (h : i < (Ico.fcs f a b c 20).length) →
  w.cell? ⟨g, i * 4, none⟩ = some (.int .i64 ((Ico.fcs f a b c 20)[i] : Nat)) ∧ w.cell? ⟨g, i * 4 + 1, none⟩ = some (.int .i64 (Ico.wt f a b c (Ico.cor (Ico.fcs f a b c 20)[i] 0))) ∧
  w.cell? ⟨g, i * 4 + 2, none⟩ = some (.int .i64 (Ico.wt f a b c (Ico.cor (Ico.fcs f a b c 20)[i] 1))) ∧ w.cell? ⟨g, i * 4 + 3, none⟩ = some (.int .i64 (Ico.wt f a b c (Ico.cor (Ico.fcs f a b c 20)[i] 2)))
theorem Has.keep {w w' : World} {f : Nat} {a b c : Int} {g : Nat} (h : Has w f a b c g) (hk : ∀ j, w'.cell? ⟨g, j, none⟩ = w.cell? ⟨g, j, none⟩) : Has w' f a b c g := fun i hi => by
  rw [hk, hk, hk, hk]; exact h i hi
theorem Has.under {w w' : World} {f : Nat} {a b c : Int} {g : Nat} (h : Has w f a b c g) (hg : g < w.heap.size) (hb : Below w.heap.size w w') : Has w' f a b c g := h.keep fun j => hb.cell (p := ⟨g, j, none⟩) hg
theorem own_open {w : World} {B size n : Nat} {e : TypeId} {v : Value} {xs : List Value} (h : w.ownsRow B e size v n xs) (hn : 0 < n) :
    ∃ g cap, v = .slice (some ⟨g, 0, none⟩) n cap ∧ B ≤ g ∧ g < w.heap.size ∧ n ≤ cap ∧ cap ≤ maxLen ∧ ∀ j u, xs[j]? = some u → w.cell? ⟨g, j, none⟩ = some u := by
  rcases h.2 with ⟨_, h0⟩ | ⟨g, cap, cur, rfl, hB, hg, hc, hm, _⟩
  · omega
  · refine ⟨g, cap, rfl, hB, (Array.getElem?_eq_some_iff.1 hg).1, hc, hm, fun j u hu => ?_⟩
    have e : (⟨g, 0, none⟩ : Addr).add j = ⟨g, j, none⟩ := by unfold Addr.add; cases j <;> simp
    have := h.cells (g := g) rfl j u hu
    rwa [e] at this
theorem nf_eq {f : Nat} {a b c : Int} (h : 0 < (Ico.fcs f a b c 20).length) : (Ico.fcs f a b c 20)[0] = Ico.nf f a b c := by
  unfold Ico.nf
  generalize Ico.fcs f a b c 20 = l at *
  cases l with
  | nil => simp at h
  | cons x l => rfl
/-- The normal place's weights. -/
def nw (f : Nat) (a b c : Int) (k : Nat) : Int := Ico.wt f a b c (Ico.cor (Ico.nf f a b c) k)
theorem Has.first {w : World} {f : Nat} {a b c : Int} {g : Nat} (h : Has w f a b c g) (hv : Ico.Vld f a b c) :
    w.cell? ⟨g, 0, none⟩ = some (.int .i64 (Ico.nf f a b c : Nat)) ∧ w.cell? ⟨g, 1, none⟩ = some (.int .i64 (nw f a b c 0)) ∧ w.cell? ⟨g, 2, none⟩ = some (.int .i64 (nw f a b c 1)) ∧ w.cell? ⟨g, 3, none⟩ = some (.int .i64 (nw f a b c 2)) := by
  have := h 0 (Ico.fcs_pos hv)
  rw [nf_eq (Ico.fcs_pos hv)] at this
  exact this
theorem set4_below {w0 w : World} {B g : Nat} {u0 u1 u2 u3 : Value} (h : Below B w0 w) (hg : B ≤ g) :
    Below B w0 ((((w.setCell ⟨g, 0, none⟩ u0).setCell ⟨g, 1, none⟩ u1).setCell ⟨g, 2, none⟩ u2).setCell ⟨g, 3, none⟩ u3) :=
  (((h.setCell (p := ⟨g, 0, none⟩) hg _).setCell (p := ⟨g, 1, none⟩) hg _).setCell (p := ⟨g, 2, none⟩) hg _).setCell (p := ⟨g, 3, none⟩) hg _
set_option maxRecDepth 100000 in
set_option maxHeartbeats 2000000 in
theorem on_any (f n : Nat) (a b c : Int) (r : Bool) (w : World) (hv : Ico.Vld f a b c) (hlt : n < 20) (hr : Ico.ok f a b c n = r) :
    Calls Tryz.prog 69 #[.int .i64 n, .agg (wa f a b c)] w fun e w' => e = .returned (.tuple #[.agg #[.int .i64 n, .int .i64 (Ico.wt f a b c (Ico.cor n 0)), .int .i64 (Ico.wt f a b c (Ico.cor n 1)), .int .i64 (Ico.wt f a b c (Ico.cor n 2))], .bool r]) ∧ Below w.heap.size w w' := by
  obtain ⟨y1, y2⟩ := Ico.wt_bd hv (Ico.cor n 0)
  obtain ⟨z1, z2⟩ := Ico.wt_bd hv (Ico.cor n 1)
  obtain ⟨x1, x2⟩ := Ico.wt_bd hv (Ico.cor n 2)
  have R : Hid ((Ico.wt f a b c (Ico.cor n 0) + Ico.wt f a b c (Ico.cor n 1) + Ico.wt f a b c (Ico.cor n 2) == 840) = r) := Lib.hid (by rw [← hr]; unfold Ico.ok Ico.sm; rw [Bool.eq_iff_iff]; simp)
  clear hr hv
  go_enter Tryz.func69, Tryz.ntmps69
  go_upto_region 2 with (go_at_call 91; refine (refCorners_yes _ _ hlt).mono ?_; rintro e w4 ⟨rfl, hb4⟩)
  have r1 : Row w4 w.heap.size 102 (wa f a b c) := ((Row.new w _ _).alloc _).under hb4
  have r2 : Row w4 (w.heap.size + 1) 32 #[.int .i64 0, .int .i64 0, .int .i64 0, .int .i64 0] := (Row.newAt (by simp)).under hb4
  have b1 : Below w.heap.size w w4 := (((Below.refl _ _).alloc (Nat.le_refl _) _).alloc (by simp) _).trans (hb4.mono (by simp; omega))
  refine forget (fun Y => Below w.heap.size w Y ∧ Row Y w.heap.size 102 (wa f a b c) ∧ Row Y (w.heap.size + 1) 32 #[.int .i64 0, .int .i64 0, .int .i64 0, .int .i64 0] ∧ Row Y w4.heap.size 130 #[.int .i64 (Ico.cor n 0), .int .i64 (Ico.cor n 1), .int .i64 (Ico.cor n 2)]) ⟨b1.alloc b1.size _, r1.alloc _, r2.alloc _, Row.new _ _ _⟩ ?_
  clear r1 r2 b1 hb4
  generalize w4.heap.size = go at *
  rintro Y ⟨bY, r1, r2, r4⟩
  have hge : w.heap.size ≤ w.heap.size + 1 := by omega
  generalize w.heap.size + 1 = gr at *
  obtain ⟨q0, q1, q2⟩ := row3 r4
  have l0 := Ico.cor_lt n 0
  have l1 := Ico.cor_lt n 1
  have l2 := Ico.cor_lt n 2
  have m0 := (r1.cell (Ico.cor n 0)).trans (wa_at f a b c _ l0)
  have m1 := (r1.cell (Ico.cor n 1)).trans (wa_at f a b c _ l1)
  have m2 := (r1.cell (Ico.cor n 2)).trans (wa_at f a b c _ l2)
  have n0 : (0 : Int) ≤ (Ico.cor n 0 : Int) ∧ (Ico.cor n 0 : Int) < 12 := by omega
  have n1 : (0 : Int) ≤ (Ico.cor n 1 : Int) ∧ (Ico.cor n 1 : Int) < 12 := by omega
  have n2 : (0 : Int) ≤ (Ico.cor n 2 : Int) ∧ (Ico.cor n 2 : Int) < 12 := by omega
  obtain ⟨n00, n01⟩ := n0
  obtain ⟨n10, n11⟩ := n1
  obtain ⟨n20, n21⟩ := n2
  have R2 := Lib.hid r2; clear r2 r1 r4
  obtain ⟨gw, hgw⟩ : ∃ g, w.heap.size = g := ⟨_, rfl⟩
  rw [hgw] at m0 m1 m2 ⊢
  have HGW := Lib.hid hgw; clear hgw
  go_region_held3 (fun w' => (w'.cell? ⟨go, 0, none⟩ = some (.int .i64 (Ico.cor n 0)) ∧ w'.cell? ⟨go, 1, none⟩ = some (.int .i64 (Ico.cor n 1)) ∧ w'.cell? ⟨go, 2, none⟩ = some (.int .i64 (Ico.cor n 2))) ∧ w'.cell? ⟨gw, Ico.cor n 0, none⟩ = some (.int .i64 (Ico.wt f a b c (Ico.cor n 0))) ∧ w'.cell? ⟨gw, Ico.cor n 1, none⟩ = some (.int .i64 (Ico.wt f a b c (Ico.cor n 1))) ∧ w'.cell? ⟨gw, Ico.cor n 2, none⟩ = some (.int .i64 (Ico.wt f a b c (Ico.cor n 2))))
    (go_keep) (fail)
  go_upto_region 3 with fail
  have hlr := R2.out.lt
  refine forget (fun Z => Below w.heap.size w Z ∧ Row Z gr 32 #[.int .i64 0, .int .i64 0, .int .i64 0, .int .i64 0] ∧ Row Z Y.heap.size 32 #[.int .i64 n, .int .i64 (Ico.wt f a b c (Ico.cor n 0)), .int .i64 (Ico.wt f a b c (Ico.cor n 1)), .int .i64 (Ico.wt f a b c (Ico.cor n 2))] ∧ gr ≠ Y.heap.size) ⟨(bY.alloc bY.size _).drew, (R2.out.alloc _).drew, (Row.new _ _ _).drew, by omega⟩ ?_
  clear R2 q0 q1 q2 m0 m1 m2 n00 n01 n10 n11 n20 n21 l0 l1 l2 bY hlr
  generalize Y.heap.size = gq at *
  rintro Z ⟨bZ, rr, rq, hne⟩
  generalize hA : Ico.wt f a b c (Ico.cor n 0) = A at *
  generalize hB : Ico.wt f a b c (Ico.cor n 1) = B at *
  generalize hC : Ico.wt f a b c (Ico.cor n 2) = C at *
  have HA := Lib.hid hA; clear hA
  have HB := Lib.hid hB; clear hB
  have HC := Lib.hid hC; clear hC
  obtain ⟨c0, c1, c2, c3⟩ := row4 rq
  obtain ⟨d0, d1, d2, d3⟩ := row4 rr
  have t0 := rr.thaw 0
  have t1 := rr.thaw 1
  have t2 := rr.thaw 2
  have t3 := rr.thaw 3
  have RR := Lib.hid rr; clear rr rq
  rw [HGW.out] at bZ hge
  go_region
  go_wp2_with fail
  refine bodyPost_ret (v := .tuple #[.agg #[.int .i64 n, .int .i64 A, .int .i64 B, .int .i64 C], .bool (A + B + C == 840)]) (by simp [results, Tryz.results69, d0, d1, d2, d3, go_sem]) rfl ⟨by rw [HA.out, HB.out, HC.out, R.out], ?_⟩
  rw [HGW.out]
  exact (set4_below bZ hge).drew
set_option maxRecDepth 100000 in
set_option maxHeartbeats 2000000 in
theorem refAddresses_yes (f : Nat) (a b c : Int) (w : World) (hv : Ico.Vld f a b c) :
    Calls Tryz.prog 51 #[.agg #[.int .i64 f, .int .i64 a, .int .i64 b, .int .i64 c]] w fun e w' => ∃ v, e = .returned (.tuple #[v, .int .i64 0]) ∧ Below w.heap.size w w' ∧ w'.ownsRow w.heap.size 32 4 v (Ico.fcs f a b c 20).length (pls f a b c 20) := by
  obtain ⟨i0, hi, hz0, hz1, hz2⟩ := info_parts infoPlace
  have v1 := vb_of hv
  have HV := Lib.hid hv
  have hf := hv.1
  clear hv
  go_enter Tryz.func51, Tryz.ntmps51
  go_wp2_with fail
  have k0 := Row.new w #[.int .i64 f, .int .i64 a, .int .i64 b, .int .i64 c] 32
  refine (refValid_from _ _ _ _ _ _ (Below.refl _ _)).mono ?_
  rintro e w2 ⟨rfl, hb2⟩
  have k2 := k0.under hb2
  have b2 : Below w.heap.size w w2 := ((Below.refl _ _).alloc (Nat.le_refl _) _).trans (hb2.mono (by simp))
  clear k0 hb2
  obtain ⟨p0, p1, p2, p3⟩ := row4 k2
  go_wp2_with fail
  refine (refWeights_is _ _ _ _ _ _ (Below.refl _ _) hf).mono ?_
  rintro e w3 ⟨rfl, hb3⟩
  have b3 := b2.trans (hb3.mono b2.size)
  clear b2 hb3 k2 p0 p1 p2 p3
  go_wp2_with fail
  have G0 : Going w f a b c w3.heap.size 0 (.slice none 0 0) (w3.alloc (.cells (wa f a b c) 102)) := ⟨b3.alloc b3.size _, Row.new _ _ _, World.ownsRow_nil _ _ _ _⟩
  clear b3
  generalize w3.heap.size = gw at *
  go_loopw [5, 6] (fun v i wr => ∃ n : Nat, n ≤ 20 ∧ i = .int .i64 n ∧ Going w f a b c gw n v wr) (fun _ i _ => 20 - (intOf i).toNat)
  case atStart => exact ⟨0, by omega, rfl, G0⟩
  case round =>
    clear G0
    obtain ⟨n, hn, rfl, G⟩ := hrel
    by_cases hlt : n < 20
    · obtain ⟨⟨c0, c1, c2, c3, c4, c5⟩, c6, c7, c8, c9, c10, c11⟩ := row12 G.row
      have HG := Lib.hid G; clear G
      have hl := Ico.fcs_len_le f a b c n
      cases ho : Ico.ok f a b c n
      · have ON := Lib.hid (fun w => on_any f n a b c _ w HV.out hlt ho); have HO := Lib.hid ho; clear ho
        go_wp2_with fail
        refine (ON.out _).mono ?_
        rintro e w5 ⟨rfl, hb5⟩
        go_wp2_with fail
        go_roundw
        case rel => exact ⟨n + 1, by omega, by go_num, ((HG.out.under hb5).alloc _).no HO.out⟩
        case measure => simp [intOf]; omega
      · have ON := Lib.hid (fun w => on_any f n a b c _ w HV.out hlt ho); have HO := Lib.hid ho; clear ho
        go_wp2_with fail
        refine (ON.out _).mono ?_
        rintro e w4 ⟨rfl, hb4⟩
        go_upto_region 10 with fail
        have G5 := (HG.out.under hb4).alloc (.cells #[.int .i64 n, .int .i64 (Ico.wt f a b c (Ico.cor n 0)), .int .i64 (Ico.wt f a b c (Ico.cor n 1)), .int .i64 (Ico.wt f a b c (Ico.cor n 2))] 32)
        have r5 := Row.new w4 #[.int .i64 n, .int .i64 (Ico.wt f a b c (Ico.cor n 0)), .int .i64 (Ico.wt f a b c (Ico.cor n 1)), .int .i64 (Ico.wt f a b c (Ico.cor n 2))] 32
        refine forget (fun Z => Going w f a b c gw n «u5» Z ∧ Row Z w4.heap.size 32 #[.int .i64 n, .int .i64 (Ico.wt f a b c (Ico.cor n 0)), .int .i64 (Ico.wt f a b c (Ico.cor n 1)), .int .i64 (Ico.wt f a b c (Ico.cor n 2))]) ⟨G5, r5⟩ ?_
        clear HG G5 r5 hb4 c0 c1 c2 c3 c4 c5 c6 c7 c8 c9 c10 c11
        generalize w4.heap.size = gq at *
        rintro w5 ⟨G5, r5⟩
        obtain ⟨q0, q1, q2, q3⟩ := row4 r5
        have G6 := G5.alloc (.cells #[.int .i64 n, .int .i64 (Ico.wt f a b c (Ico.cor n 0)), .int .i64 (Ico.wt f a b c (Ico.cor n 1)), .int .i64 (Ico.wt f a b c (Ico.cor n 2))] 32)
        have r6 := Row.new w5 #[.int .i64 n, .int .i64 (Ico.wt f a b c (Ico.cor n 0)), .int .i64 (Ico.wt f a b c (Ico.cor n 1)), .int .i64 (Ico.wt f a b c (Ico.cor n 2))] 32
        have R6 := Lib.hid r6; clear r6 r5
        have HG := Lib.hid G6; clear G6 G5
        go_wp2_with (at_builtin; refine wpList_append_own _ rfl (.tmp 25) (.tmp 27) 86 rfl w.heap.size 32 i0 _ 4 32 Tryz.underlying86 hi hz0 hz1 hz2 rfl (by decide) _ _ _ rfl HG.out.own ⟨w5.heap.size, 0, none⟩ 1 1 (pl f a b c n) rfl rfl (row_news R6.out) (pl_one f a b c n) (by unfold maxLen; omega) (by omega) HG.out.below.size ?_)
        intro v' w6 hown hgr _
        have G7 := HG.out.yes HO.out hown hgr
        clear hown hgr
        have HG7 := Lib.hid G7; clear G7
        go_wp2_with fail
        go_roundw
        case rel => exact ⟨n + 1, by omega, by go_num, HG7.out⟩
        case measure => simp [intOf]; omega
    · obtain rfl : n = 20 := by omega
      have HG := Lib.hid G; clear G
      go_wp2_with fail
      go_ret2
      exact ⟨_, rfl, HG.out.below, HG.out.own⟩
/-- What Addresses leaves: a list in a block of its own. -/
theorem refAddresses_open (f : Nat) (a b c : Int) (w : World) (hv : Ico.Vld f a b c) :
    Calls Tryz.prog 51 #[.agg #[.int .i64 f, .int .i64 a, .int .i64 b, .int .i64 c]] w fun e w' => ∃ g cap, e = .returned (.tuple #[.slice (some ⟨g, 0, none⟩) (Ico.fcs f a b c 20).length cap, .int .i64 0]) ∧ Below w.heap.size w w' ∧
      w.heap.size ≤ g ∧ g < w'.heap.size ∧ (Ico.fcs f a b c 20).length ≤ cap ∧ cap ≤ 9223372036854775807 ∧ Has w' f a b c g :=
  (refAddresses_yes f a b c w hv).mono fun e w' ⟨v, he, hb, ho⟩ => by
    obtain ⟨g, cap, rfl, h1, h2, h3, h4, h5⟩ := own_open ho (Ico.fcs_pos hv)
    refine ⟨g, cap, he, hb, h1, h2, h3, by unfold maxLen at h4; exact h4, fun i hi => ⟨?_, ?_, ?_, ?_⟩⟩
    · exact h5 _ _ ((flat4 (pl_len f a b c) _ i 0 (by omega) hi).trans rfl)
    · exact h5 _ _ ((flat4 (pl_len f a b c) _ i 1 (by omega) hi).trans rfl)
    · exact h5 _ _ ((flat4 (pl_len f a b c) _ i 2 (by omega) hi).trans rfl)
    · exact h5 _ _ ((flat4 (pl_len f a b c) _ i 3 (by omega) hi).trans rfl)
set_option maxHeartbeats 1000000 in
theorem refNormal_yes (f : Nat) (a b c : Int) (w : World) (hv : Ico.Vld f a b c) :
    Calls Tryz.prog 30 #[.agg #[.int .i64 f, .int .i64 a, .int .i64 b, .int .i64 c]] w fun e w' => e = .returned (.tuple #[.agg #[.int .i64 (Ico.nf f a b c : Nat), .int .i64 (nw f a b c 0), .int .i64 (nw f a b c 1), .int .i64 (nw f a b c 2)], .int .i64 0]) ∧ Below w.heap.size w w' := by
  have HV := Lib.hid hv; clear hv
  go_enter Tryz.func30, Tryz.ntmps30
  go_wp2_with fail
  refine (refAddresses_open _ _ _ _ _ HV.out).mono ?_
  rintro e w2 ⟨g, cap, rfl, hb2, g1, g2, g3, g4, hH⟩
  obtain ⟨hc, hz⟩ := bcell hb2
  obtain ⟨q0, q1, q2, q3⟩ := hH.first HV.out
  have hp := Ico.fcs_pos HV.out
  clear hH
  generalize (Ico.fcs f a b c 20).length = len at *
  have hge : w.heap.size + 2 ≤ g := by simp at g1; omega
  clear g1
  go_wp2_with fail
  exact bodyPost_ret (v := .tuple #[.agg #[.int .i64 (Ico.nf f a b c : Nat), .int .i64 (nw f a b c 0), .int .i64 (nw f a b c 1), .int .i64 (nw f a b c 2)], .int .i64 0]) (by simp [results, Tryz.results30, hc, go_sem]) rfl ⟨rfl, (((((((Below.refl _ _).alloc (Nat.le_refl _) _).alloc (by simp) _).trans (hb2.mono (by simp; omega))).setCell (by simp) _).setCell (by simp) _).setCell (by simp) _).setCell (by simp) _⟩
end Go.Proofs.YtejoabaanclcbaaGreat


