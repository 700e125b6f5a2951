/- Texts of this proof. -/
import Derived.Test.YtejoabaanclcbaaGreatChecked
import Derived.Maps.RangeWalk
import Derived.OrdersHeld
import Derived.WalkKit
import Derived.WalkSpells
import Derived.WalkLawsBesides
import Derived.Deep.QuietTactic
import Derived.BigQuiet
import Derived.Lib.Hide
import Derived.Outline
import Derived.Below
import Derived.Deep.Draws
import Derived.Laws.Rows
import Derived.Laws.OwnMore
import Derived.OpenShut
namespace Go.Proofs.YtejoabaanclcbaaGreat.Ico

/-- The corners of the faces, three for each. -/
def T : List Nat := [0, 1, 2, 0, 2, 3, 0, 3, 4, 0, 4, 5, 0, 5, 1, 1, 6, 2, 2, 7, 3, 3, 8, 4, 4, 9, 5, 5, 10, 1, 6, 7, 2, 7, 8, 3, 8, 9, 4, 9, 10, 5, 10, 6, 1, 11, 7, 6, 11, 8, 7, 11, 9, 8, 11, 10, 9, 11, 6, 10]
def cor (f k : Nat) : Nat := T.getD (3 * f + k) 0
theorem cor_lt3 : ∀ f, f < 20 → ∀ k, k < 3 → cor f k < 12 := by decide +kernel
theorem cor_lt (f k : Nat) : cor f k < 12 := by
  by_cases h : f < 20 ∧ k < 3
  · exact cor_lt3 f h.1 k h.2
  · unfold cor
    rcases Nat.lt_or_ge (3 * f + k) 60 with h1 | h1
    · have : ∀ j, j < 60 → T.getD j 0 < 12 := by decide +kernel
      exact this _ h1
    · rw [List.getD_eq_getElem?_getD, List.getElem?_eq_none (by simpa [T] using h1)]; decide
theorem cor_ne : ∀ f, f < 20 → cor f 0 ≠ cor f 1 ∧ cor f 1 ≠ cor f 2 ∧ cor f 0 ≠ cor f 2 := by decide +kernel

/-- The weight of a vertex in the place f, a, b, c. -/
def wt (f : Nat) (a b c : Int) (v : Nat) : Int := if v = cor f 0 then a else if v = cor f 1 then b else if v = cor f 2 then c else 0
theorem wt0 (f : Nat) (a b c : Int) : wt f a b c (cor f 0) = a := by simp [wt]
theorem wt1 {f : Nat} (h : f < 20) (a b c : Int) : wt f a b c (cor f 1) = b := by
  obtain ⟨h1, h2, h3⟩ := cor_ne f h
  simp [wt, Ne.symm h1]
theorem wt2 {f : Nat} (h : f < 20) (a b c : Int) : wt f a b c (cor f 2) = c := by
  obtain ⟨h1, h2, h3⟩ := cor_ne f h
  simp [wt, Ne.symm h2, Ne.symm h3]
/-- A valid place. -/
def Vld (f : Nat) (a b c : Int) : Prop := f < 20 ∧ 0 ≤ a ∧ a ≤ 840 ∧ 0 ≤ b ∧ b ≤ 840 ∧ 0 ≤ c ∧ c ≤ 840 ∧ a + b + c = 840
theorem wt_bd {f : Nat} {a b c : Int} (h : Vld f a b c) (v : Nat) : 0 ≤ wt f a b c v ∧ wt f a b c v ≤ 840 := by
  obtain ⟨_, h1, h2, h3, h4, h5, h6, _⟩ := h
  unfold wt
  split
  · exact ⟨h1, h2⟩
  · split
    · exact ⟨h3, h4⟩
    · split
      · exact ⟨h5, h6⟩
      · omega
/-- The sum of the weights of the corners of the face g. -/
def sm (f : Nat) (a b c : Int) (g : Nat) : Int := wt f a b c (cor g 0) + wt f a b c (cor g 1) + wt f a b c (cor g 2)
/-- The vertex v is a corner of the face g. -/
def has (g v : Nat) : Bool := decide (v = cor g 0) || decide (v = cor g 1) || decide (v = cor g 2)
theorem three {x y z u : Nat} (h1 : x ≠ y) (h2 : y ≠ z) (h3 : x ≠ z) (a : Int) :
    (if x = u then a else 0) + (if y = u then a else 0) + (if z = u then a else 0) = if (decide (u = x) || decide (u = y) || decide (u = z)) = true then a else 0 := by
  by_cases e1 : x = u
  · subst e1
    simp [Ne.symm h1, Ne.symm h3]
  · by_cases e2 : y = u
    · subst e2
      simp [e1, Ne.symm h2]
    · by_cases e3 : z = u
      · subst e3
        simp [e1, e2]
      · simp [e1, e2, e3, Ne.symm e1, Ne.symm e2, Ne.symm e3]
theorem wt_sum {f : Nat} (h : f < 20) (a b c : Int) (v : Nat) : wt f a b c v = (if v = cor f 0 then a else 0) + (if v = cor f 1 then b else 0) + (if v = cor f 2 then c else 0) := by
  obtain ⟨h1, h2, h3⟩ := cor_ne f h
  unfold wt
  by_cases e1 : v = cor f 0
  · subst e1; simp [h1, h3]
  · by_cases e2 : v = cor f 1
    · subst e2; simp [Ne.symm h1, h2]
    · simp [e1, e2]
theorem sm_eq {f g : Nat} (hf : f < 20) (hg : g < 20) (a b c : Int) :
    sm f a b c g = (if has g (cor f 0) = true then a else 0) + (if has g (cor f 1) = true then b else 0) + (if has g (cor f 2) = true then c else 0) := by
  obtain ⟨h1, h2, h3⟩ := cor_ne g hg
  unfold sm has
  rw [wt_sum hf, wt_sum hf, wt_sum hf, ← three h1 h2 h3, ← three h1 h2 h3, ← three h1 h2 h3]
  omega
/-- The place has an address on the face g. -/
def ok (f : Nat) (a b c : Int) (g : Nat) : Bool := decide (sm f a b c g = 840)
/-- The same, of the corners that have a weight. -/
def okB (f : Nat) (x y z : Bool) (g : Nat) : Bool := (!x || has g (cor f 0)) && (!y || has g (cor f 1)) && (!z || has g (cor f 2))
theorem ok_eq {f g : Nat} {a b c : Int} (h : Vld f a b c) (hg : g < 20) : ok f a b c g = okB f (decide (a ≠ 0)) (decide (b ≠ 0)) (decide (c ≠ 0)) g := by
  obtain ⟨hf, h1, h2, h3, h4, h5, h6, h7⟩ := h
  unfold ok okB
  rw [sm_eq hf hg, Bool.eq_iff_iff]
  cases has g (cor f 0) <;> cases has g (cor f 1) <;> cases has g (cor f 2) <;> simp <;> omega
theorem ok_self {f : Nat} {a b c : Int} (h : Vld f a b c) : ok f a b c f = true := by
  obtain ⟨hf, h1, h2, h3, h4, h5, h6, h7⟩ := h
  unfold ok sm
  rw [wt0, wt1 hf, wt2 hf, h7]; rfl
theorem vld_on {f g : Nat} {a b c : Int} (h : Vld f a b c) (hg : g < 20) (ho : ok f a b c g = true) :
    Vld g (wt f a b c (cor g 0)) (wt f a b c (cor g 1)) (wt f a b c (cor g 2)) :=
  ⟨hg, (wt_bd h _).1, (wt_bd h _).2, (wt_bd h _).1, (wt_bd h _).2, (wt_bd h _).1, (wt_bd h _).2, of_decide_eq_true ho⟩
/-- The faces below n with an address. -/
def fcs (f : Nat) (a b c : Int) (n : Nat) : List Nat := (List.range n).filter (ok f a b c)
theorem fcs_succ_yes {f : Nat} {a b c : Int} {n : Nat} (h : ok f a b c n = true) : fcs f a b c (n + 1) = fcs f a b c n ++ [n] := by
  unfold fcs; rw [List.range_succ, List.filter_append]; simp [h]
theorem fcs_succ_no {f : Nat} {a b c : Int} {n : Nat} (h : ok f a b c n = false) : fcs f a b c (n + 1) = fcs f a b c n := by
  unfold fcs; rw [List.range_succ, List.filter_append]; simp [h]
theorem fcs_len_le (f : Nat) (a b c : Int) (n : Nat) : (fcs f a b c n).length ≤ n := by
  unfold fcs; exact Nat.le_trans (List.length_filter_le _ _) (by simp)
theorem fcs_okB {f : Nat} {a b c : Int} (h : Vld f a b c) : fcs f a b c 20 = (List.range 20).filter (okB f (decide (a ≠ 0)) (decide (b ≠ 0)) (decide (c ≠ 0))) := by
  unfold fcs
  exact List.filter_congr fun g hg => ok_eq h (List.mem_range.1 hg)
theorem mem_fcs {f : Nat} {a b c : Int} {g : Nat} : g ∈ fcs f a b c 20 ↔ g < 20 ∧ ok f a b c g = true := by
  unfold fcs; rw [List.mem_filter, List.mem_range]
theorem fcs_pos {f : Nat} {a b c : Int} (h : Vld f a b c) : 0 < (fcs f a b c 20).length := List.length_pos_of_mem (mem_fcs.2 ⟨h.1, ok_self h⟩)
/-- The least face. -/
def nf (f : Nat) (a b c : Int) : Nat := (fcs f a b c 20).headD 0
theorem nf_mem {f : Nat} {a b c : Int} (h : Vld f a b c) : nf f a b c ∈ fcs f a b c 20 := by
  unfold nf
  have := fcs_pos h
  cases e : fcs f a b c 20 with
  | nil => rw [e] at this; simp at this
  | cons x l => simp
theorem nf_ok {f : Nat} {a b c : Int} (h : Vld f a b c) : nf f a b c < 20 ∧ ok f a b c (nf f a b c) = true := mem_fcs.1 (nf_mem h)
/-- Two places with the same weights have addresses on the same faces. -/
theorem fcs_same {f f' : Nat} {a b c a' b' c' : Int} (h : ∀ v, wt f a b c v = wt f' a' b' c' v) (n : Nat) : fcs f a b c n = fcs f' a' b' c' n := by
  unfold fcs
  refine List.filter_congr fun g _ => ?_
  unfold ok sm; rw [h, h, h]
theorem nf_same {f f' : Nat} {a b c a' b' c' : Int} (h : ∀ v, wt f a b c v = wt f' a' b' c' v) : nf f a b c = nf f' a' b' c' := by
  unfold nf; rw [fcs_same h]
/-- The face across the edge that leaves the corner k out. -/
def acr (f k : Nat) : Nat := (((List.range 20).filter fun g => decide (g ≠ f) && has g (cor f ((k + 1) % 3)) && has g (cor f ((k + 2) % 3)))).headD 0
end Go.Proofs.YtejoabaanclcbaaGreat.Ico



namespace Go.Proofs.YtejoabaanclcbaaGreat
open Go.RowKit

theorem bcell {W w1 : World} (hb : Below W.heap.size W w1) : (∀ b o, b < W.heap.size → w1.cell? ⟨b, o, none⟩ = W.cell? ⟨b, o, none⟩) ∧ (∀ b o, b < W.heap.size → w1.frozen? ⟨b, o, none⟩ = W.frozen? ⟨b, o, none⟩) :=
  ⟨fun b o h => hb.cell (p := ⟨b, o, none⟩) h, fun b o h => hb.frozen (p := ⟨b, o, none⟩) h⟩
/-- A valid place, asked of any numbers. -/
def vb (F a b c : Int) : Bool := decide (0 ≤ F ∧ F < 20 ∧ 0 ≤ a ∧ a ≤ 840 ∧ 0 ≤ b ∧ b ≤ 840 ∧ 0 ≤ c ∧ c ≤ 840 ∧ a + b + c = 840)
theorem ret_bool {a b : Bool} (h : a = b) : Ending.returned (.bool a) = .returned (.bool b) := by rw [h]
set_option maxHeartbeats 400000 in
theorem valid_any (F a b c : Int) (w : World) :
    Calls Tryz.prog 93 #[.agg #[.int .i64 F, .int .i64 a, .int .i64 b, .int .i64 c]] w fun e w' => e = .returned (.bool (vb F a b c)) ∧ Below w.heap.size w w' := by
  by_cases h1 : 0 ≤ F
  · by_cases h2 : F < 20
    · by_cases h3 : 0 ≤ a
      · by_cases h4 : a ≤ 840
        · by_cases h5 : 0 ≤ b
          · by_cases h6 : b ≤ 840
            · by_cases h7 : 0 ≤ c
              · by_cases h8 : c ≤ 840
                · have V : Hid (vb F a b c = decide (a + b + c = 840)) := Lib.hid (by unfold vb; rw [decide_eq_decide]; exact ⟨fun h => h.2.2.2.2.2.2.2.2, fun h => ⟨h1, h2, h3, h4, h5, h6, h7, h8, h⟩⟩)
                  go_enter Tryz.func93, Tryz.ntmps93
                  go_wp2
                  go_ret
                  exact ⟨ret_bool (by rw [V.out, Bool.eq_iff_iff]; simp), (Below.refl _ _).alloc (Nat.le_refl _) _⟩
                · go_enter Tryz.func93, Tryz.ntmps93
                  go_wp2
                  go_ret
                  exact ⟨ret_bool (by simp [vb]; omega), (Below.refl _ _).alloc (Nat.le_refl _) _⟩
              · go_enter Tryz.func93, Tryz.ntmps93
                go_wp2
                go_ret
                exact ⟨ret_bool (by simp [vb]; omega), (Below.refl _ _).alloc (Nat.le_refl _) _⟩
            · go_enter Tryz.func93, Tryz.ntmps93
              go_wp2
              go_ret
              exact ⟨ret_bool (by simp [vb]; omega), (Below.refl _ _).alloc (Nat.le_refl _) _⟩
          · go_enter Tryz.func93, Tryz.ntmps93
            go_wp2
            go_ret
            exact ⟨ret_bool (by simp [vb]; omega), (Below.refl _ _).alloc (Nat.le_refl _) _⟩
        · go_enter Tryz.func93, Tryz.ntmps93
          go_wp2
          go_ret
          exact ⟨ret_bool (by simp [vb]; omega), (Below.refl _ _).alloc (Nat.le_refl _) _⟩
      · go_enter Tryz.func93, Tryz.ntmps93
        go_wp2
        go_ret
        exact ⟨ret_bool (by simp [vb]; omega), (Below.refl _ _).alloc (Nat.le_refl _) _⟩
    · go_enter Tryz.func93, Tryz.ntmps93
      go_wp2
      go_ret
      exact ⟨ret_bool (by simp [vb]; omega), (Below.refl _ _).alloc (Nat.le_refl _) _⟩
  · go_enter Tryz.func93, Tryz.ntmps93
    go_wp2
    go_ret
    exact ⟨ret_bool (by simp [vb]; omega), (Below.refl _ _).alloc (Nat.le_refl _) _⟩

set_option maxHeartbeats 400000 in
theorem isFace_yes (F : Int) (w : World) (h1 : 0 ≤ F) (h2 : F < 20) :
    Calls Tryz.prog 116 #[.int .i64 F] w fun e w' => e = .returned (.bool true) ∧ w = w' := by
  go_enter Tryz.func116, Tryz.ntmps116
  go_wp2
  go_ret
  exact ⟨rfl, rfl⟩
/-- The corners as a value. -/
abbrev c3 (f : Nat) : Value := .agg #[.int .i64 (Ico.cor f 0), .int .i64 (Ico.cor f 1), .int .i64 (Ico.cor f 2)]
theorem twenty {f : Nat} (h : f < 20) : f = 0 ∨ f = 1 ∨ f = 2 ∨ f = 3 ∨ f = 4 ∨ f = 5 ∨ f = 6 ∨ f = 7 ∨ f = 8 ∨ f = 9 ∨ f = 10 ∨ f = 11 ∨ f = 12 ∨ f = 13 ∨ f = 14 ∨ f = 15 ∨ f = 16 ∨ f = 17 ∨ f = 18 ∨ f = 19 := by omega
/-- What cornersOf computes. -/
theorem cor_form0 : ∀ f, f < 20 → f / 5 = 0 → Ico.cor f 0 = 0 ∧ Ico.cor f 1 = 1 + f % 5 ∧ Ico.cor f 2 = 1 + (f % 5 + 1) % 5 := by decide +kernel
theorem cor_form1 : ∀ f, f < 20 → f / 5 = 1 → Ico.cor f 0 = 1 + f % 5 ∧ Ico.cor f 1 = 6 + f % 5 ∧ Ico.cor f 2 = 1 + (f % 5 + 1) % 5 := by decide +kernel
theorem cor_form2 : ∀ f, f < 20 → f / 5 = 2 → Ico.cor f 0 = 6 + f % 5 ∧ Ico.cor f 1 = 6 + (f % 5 + 1) % 5 ∧ Ico.cor f 2 = 1 + (f % 5 + 1) % 5 := by decide +kernel
theorem cor_form3 : ∀ f, f < 20 → f / 5 = 3 → Ico.cor f 0 = 11 ∧ Ico.cor f 1 = 6 + (f % 5 + 1) % 5 ∧ Ico.cor f 2 = 6 + f % 5 := by decide +kernel
theorem ret_c3 {f : Nat} {a b c : Int} (h : a = (Ico.cor f 0 : Int) ∧ b = (Ico.cor f 1 : Int) ∧ c = (Ico.cor f 2 : Int)) : Ending.returned (.agg #[.int .i64 a, .int .i64 b, .int .i64 c]) = .returned (c3 f) := by
  obtain ⟨rfl, rfl, rfl⟩ := h; rfl
set_option maxHeartbeats 1000000 in
theorem cornersOf_any (f : Nat) (w : World) (hf : f < 20) :
    Calls Tryz.prog 143 #[.int .i64 f] w fun e w' => e = .returned (c3 f) ∧ Below w.heap.size w w' := by
  have hq : (f : Int) / 5 = 0 ∨ (f : Int) / 5 = 1 ∨ (f : Int) / 5 = 2 ∨ (f : Int) / 5 = 3 := by omega
  rcases hq with hq | hq | hq | hq
  · have C := Lib.hid (cor_form0 f hf (by omega))
    have q0 : ((f : Int) / 5 == 0) = true := by rw [hq]; rfl
    clear hq
    go_enter Tryz.func143, Tryz.ntmps143
    go_wp2
    exact bodyPost_ret (v := .agg #[.int .i64 0, .int .i64 (1 + (f : Int) % 5), .int .i64 (1 + ((f : Int) % 5 + 1) % 5)]) (by simp [results, Tryz.results143, go_sem]) rfl ⟨ret_c3 (by obtain ⟨c1, c2, c3⟩ := C.out; rw [c1, c2, c3]; omega), (Below.refl _ _).alloc (Nat.le_refl _) _⟩
  · have C := Lib.hid (cor_form1 f hf (by omega))
    have q0 : ((f : Int) / 5 == 0) = false := by rw [hq]; rfl
    have q1 : ((f : Int) / 5 == 1) = true := by rw [hq]; rfl
    clear hq
    go_enter Tryz.func143, Tryz.ntmps143
    go_wp2
    exact bodyPost_ret (v := .agg #[.int .i64 (1 + (f : Int) % 5), .int .i64 (6 + (f : Int) % 5), .int .i64 (1 + ((f : Int) % 5 + 1) % 5)]) (by simp [results, Tryz.results143, go_sem]) rfl ⟨ret_c3 (by obtain ⟨c1, c2, c3⟩ := C.out; rw [c1, c2, c3]; omega), (Below.refl _ _).alloc (Nat.le_refl _) _⟩
  · have C := Lib.hid (cor_form2 f hf (by omega))
    have q0 : ((f : Int) / 5 == 0) = false := by rw [hq]; rfl
    have q1 : ((f : Int) / 5 == 1) = false := by rw [hq]; rfl
    have q2 : ((f : Int) / 5 == 2) = true := by rw [hq]; rfl
    clear hq
    go_enter Tryz.func143, Tryz.ntmps143
    go_wp2
    exact bodyPost_ret (v := .agg #[.int .i64 (6 + (f : Int) % 5), .int .i64 (6 + ((f : Int) % 5 + 1) % 5), .int .i64 (1 + ((f : Int) % 5 + 1) % 5)]) (by simp [results, Tryz.results143, go_sem]) rfl ⟨ret_c3 (by obtain ⟨c1, c2, c3⟩ := C.out; rw [c1, c2, c3]; omega), (Below.refl _ _).alloc (Nat.le_refl _) _⟩
  · have C := Lib.hid (cor_form3 f hf (by omega))
    have q0 : ((f : Int) / 5 == 0) = false := by rw [hq]; rfl
    have q1 : ((f : Int) / 5 == 1) = false := by rw [hq]; rfl
    have q2 : ((f : Int) / 5 == 2) = false := by rw [hq]; rfl
    clear hq
    go_enter Tryz.func143, Tryz.ntmps143
    go_wp2
    exact bodyPost_ret (v := .agg #[.int .i64 11, .int .i64 (6 + ((f : Int) % 5 + 1) % 5), .int .i64 (6 + (f : Int) % 5)]) (by simp [results, Tryz.results143, go_sem]) rfl ⟨ret_c3 (by obtain ⟨c1, c2, c3⟩ := C.out; rw [c1, c2, c3]; omega), (Below.refl _ _).alloc (Nat.le_refl _) _⟩
set_option maxHeartbeats 400000 in
theorem corners_yes (f : Nat) (w : World) (hf : f < 20) :
    Calls Tryz.prog 139 #[.int .i64 f] w fun e w' => e = .returned (.tuple #[c3 f, .int .i64 0]) ∧ Below w.heap.size w w' := by
  go_enter Tryz.func139, Tryz.ntmps139
  go_wp2_with (first | (go_at_call 116; refine (isFace_yes _ _ (by omega) (by omega)).mono ?_; rintro e w1 ⟨rfl, rfl⟩) | (go_at_call 143; refine (cornersOf_any _ _ hf).mono ?_; rintro e w1 ⟨rfl, hb⟩; obtain ⟨hc, hfz⟩ := bcell hb))
  exact bodyPost_ret (v := .tuple #[c3 f, .int .i64 0]) (by simp [results, Tryz.results139, hc, go_sem]) rfl ⟨rfl, (((((Below.refl _ _).alloc (Nat.le_refl _) _).trans (hb.mono (by simp))).setCell (Nat.le_refl _) _).setCell (Nat.le_refl _) _).setCell (Nat.le_refl _) _⟩
section
variable {P : Program} {ops : Array Oper} {Q : Exit → Act → World → Prop} {md : Region.Mode} {S : World → Prop}
/-- An operation of a drawn region is taken first. -/
theorem tk (i : Nat) {oi : Oper} {v : Value} {fuel : Nat} {listed : Array Bool} {a : Act} {w : World} (hi : ops[i]? = some oi)
    (h : wpAnyH P md ops Q S fuel (listed.setIfInBounds i true) (a.put oi.dst v) w)
    (hs : Region.noSelect ops = true := by kernel_rfl) (hf : Region.free md ops listed i = true := by kernel_rfl) (hr : (Region.ready md ops listed).contains i = true := by kernel_rfl)
    (hQ : ∀ c a w, Q (.panic c) (a.put oi.dst v) w → Q (.panic c) a w := by exact fun _ _ _ h => h)
    (hg : Region.wanted oi (yielded ops a.tmps) = true := by rfl) (hS : S w := by assumption)
    (hy : ∀ w, S w → (execOp a.eval oi).run P w = .ok (.value v) w := by (intro wx hSx; (try dsimp only at hSx); go_simp; first | done | with_reducible rfl)) : wpAnyH P md ops Q S (fuel + 1) listed a w :=
  wpAnyH_take hi hs hf hr hQ (Or.inl ⟨hg, hy⟩) hS h
/-- A guarded operation that is not done. -/
theorem sk (i : Nat) {oi : Oper} {fuel : Nat} {listed : Array Bool} {a : Act} {w : World} (hi : ops[i]? = some oi)
    (h : wpAnyH P md ops Q S fuel (listed.setIfInBounds i true) (a.put oi.dst undef) w)
    (hs : Region.noSelect ops = true := by kernel_rfl) (hf : Region.free md ops listed i = true := by kernel_rfl) (hr : (Region.ready md ops listed).contains i = true := by kernel_rfl)
    (hQ : ∀ c a w, Q (.panic c) (a.put oi.dst undef) w → Q (.panic c) a w := by exact fun _ _ _ h => h)
    (hg : Region.wanted oi (yielded ops a.tmps) = false := by rfl) (hS : S w := by assumption) : wpAnyH P md ops Q S (fuel + 1) listed a w :=
  wpAnyH_take hi hs hf hr hQ (Or.inr ⟨hg, rfl⟩) hS h
end
end Go.Proofs.YtejoabaanclcbaaGreat



namespace Go.Proofs.YtejoabaanclcbaaGreat
open Go.RowKit

/-- Block g holds these cells, all of which may be written. -/
def Row (w : World) (g : Nat) (t : TypeId) (cs : Array Value) : Prop := w.heap[g]? = some (.cells cs t (0, 0))
section
variable {w w' : World} {g : Nat} {t : TypeId} {cs : Array Value}
theorem Row.lt (h : Row w g t cs) : g < w.heap.size := (Array.getElem?_eq_some_iff.1 h).1
theorem Row.cell (h : Row w g t cs) (j : Nat) : w.cell? ⟨g, j, none⟩ = cs[j]? := by
  unfold Row at h
  simp [World.cell?, h]
theorem Row.thaw (h : Row w g t cs) (j : Nat) : w.frozen? ⟨g, j, none⟩ = false := by
  unfold Row at h
  simp [World.frozen?, h]
theorem Row.new (w : World) (cs : Array Value) (t : TypeId) : Row (w.alloc (.cells cs t)) w.heap.size t cs := heap_alloc_new w _
theorem Row.newAt (hg : w.heap.size = g) : Row (w.alloc (.cells cs t)) g t cs := hg ▸ heap_alloc_new w _
theorem Row.under (h : Row w g t cs) (hb : Below w.heap.size w w') : Row w' g t cs := (hb.block g h.lt).trans h
theorem Row.grown {r : Option Nat} (h : Row w g t cs) (hb : w.grownBy w' r) (hr : some g ≠ r) : Row w' g t cs := (hb.block g h.lt hr).trans h
theorem Row.drew (h : Row w g t cs) : Row w.drew g t cs := h
theorem Row.drewN (h : Row w g t cs) (n : Nat) : Row (w.drewN n) g t cs := h
theorem Row.alloc (h : Row w g t cs) (o : Obj) : Row (w.alloc o) g t cs := (Below.heap_alloc w o g h.lt).trans h
theorem Row.put (h : Row w g t cs) (j : Nat) (u : Value) : Row (w.setCell ⟨g, j, none⟩ u) g t (cs.setIfInBounds j u) := by
  unfold Row at h ⊢
  simp [World.setCell, Array.getElem?_modify, h]
theorem Row.far (h : Row w g t cs) {p : Addr} (hp : p.block ≠ g) (u : Value) : Row (w.setCell p u) g t cs := (Below.heap_setCell w p u g (Ne.symm hp)).trans h
end
/-- Of the world only what is said here is needed from now on. -/
theorem forget {P : Program} {C : Code} {Q : Exit → Act → World → Prop} {a : Act} {X : World} (R : World → Prop) (hR : R X) (h : ∀ Y, R Y → Code.wp P C Q a Y) : Code.wp P C Q a X := h X hR
theorem undrew {a w : World} (h : Below a.drew.heap.size a.drew w) : Below a.heap.size a w := ⟨h.os, h.tape, h.output, h.size, h.block⟩
theorem below_drewN {B : Nat} {w w' : World} (h : Below B w w') (n : Nat) : Below B w (w'.drewN n) := ⟨h.os, h.tape, h.output, h.size, h.block⟩
/-- The corners' block. -/
theorem row3 {w : World} {b : Nat} {t : TypeId} {x y z : Value} (h : Row w b t #[x, y, z]) :
    w.cell? ⟨b, 0, none⟩ = some x ∧ w.cell? ⟨b, 1, none⟩ = some y ∧ w.cell? ⟨b, 2, none⟩ = some z :=
  ⟨(h.cell 0).trans rfl, (h.cell 1).trans rfl, (h.cell 2).trans rfl⟩
theorem row4 {w : World} {b : Nat} {t : TypeId} {x y z u : Value} (h : Row w b t #[x, y, z, u]) :
    w.cell? ⟨b, 0, none⟩ = some x ∧ w.cell? ⟨b, 1, none⟩ = some y ∧ w.cell? ⟨b, 2, none⟩ = some z ∧ w.cell? ⟨b, 3, none⟩ = some u :=
  ⟨(h.cell 0).trans rfl, (h.cell 1).trans rfl, (h.cell 2).trans rfl, (h.cell 3).trans rfl⟩
end Go.Proofs.YtejoabaanclcbaaGreat



namespace Go.Proofs.YtejoabaanclcbaaGreat
open Go.RowKit

/-- The weights of all vertices. -/
abbrev wa (f : Nat) (a b c : Int) : Array Value := #[.int .i64 (Ico.wt f a b c 0), .int .i64 (Ico.wt f a b c 1), .int .i64 (Ico.wt f a b c 2), .int .i64 (Ico.wt f a b c 3), .int .i64 (Ico.wt f a b c 4), .int .i64 (Ico.wt f a b c 5), .int .i64 (Ico.wt f a b c 6), .int .i64 (Ico.wt f a b c 7), .int .i64 (Ico.wt f a b c 8), .int .i64 (Ico.wt f a b c 9), .int .i64 (Ico.wt f a b c 10), .int .i64 (Ico.wt f a b c 11)]
abbrev z12 : Array Value := #[.int .i64 0, .int .i64 0, .int .i64 0, .int .i64 0, .int .i64 0, .int .i64 0, .int .i64 0, .int .i64 0, .int .i64 0, .int .i64 0, .int .i64 0, .int .i64 0]
theorem wa_of {f : Nat} (hf : f < 20) (a b c : Int) :
    ((z12.setIfInBounds (Ico.cor f 0) (.int .i64 a)).setIfInBounds (Ico.cor f 1) (.int .i64 b)).setIfInBounds (Ico.cor f 2) (.int .i64 c) = wa f a b c := by
  rcases twenty hf with rfl | rfl | rfl | rfl | rfl | rfl | rfl | rfl | rfl | rfl | rfl | rfl | rfl | rfl | rfl | rfl | rfl | rfl | rfl | rfl <;> rfl
theorem z12_at (j : Nat) (h : j < 12) : z12[j]? = some (.int .i64 0) := by
  have : j = 0 ∨ j = 1 ∨ j = 2 ∨ j = 3 ∨ j = 4 ∨ j = 5 ∨ j = 6 ∨ j = 7 ∨ j = 8 ∨ j = 9 ∨ j = 10 ∨ j = 11 := by omega
  rcases this with rfl | rfl | rfl | rfl | rfl | rfl | rfl | rfl | rfl | rfl | rfl | rfl <;> rfl
theorem wa_at (f : Nat) (a b c : Int) (j : Nat) (h : j < 12) : (wa f a b c)[j]? = some (.int .i64 (Ico.wt f a b c j)) := by
  have : j = 0 ∨ j = 1 ∨ j = 2 ∨ j = 3 ∨ j = 4 ∨ j = 5 ∨ j = 6 ∨ j = 7 ∨ j = 8 ∨ j = 9 ∨ j = 10 ∨ j = 11 := by omega
  rcases this with rfl | rfl | rfl | rfl | rfl | rfl | rfl | rfl | rfl | rfl | rfl | rfl <;> rfl
theorem row12 {w : World} {b : Nat} {t : TypeId} {x0 x1 x2 x3 x4 x5 x6 x7 x8 x9 x10 x11 : Value} (h : Row w b t #[x0, x1, x2, x3, x4, x5, x6, x7, x8, x9, x10, x11]) :
    (w.cell? ⟨b, 0, none⟩ = some x0 ∧ w.cell? ⟨b, 1, none⟩ = some x1 ∧ w.cell? ⟨b, 2, none⟩ = some x2 ∧ w.cell? ⟨b, 3, none⟩ = some x3 ∧ w.cell? ⟨b, 4, none⟩ = some x4 ∧ w.cell? ⟨b, 5, none⟩ = some x5) ∧
    (w.cell? ⟨b, 6, none⟩ = some x6 ∧ w.cell? ⟨b, 7, none⟩ = some x7 ∧ w.cell? ⟨b, 8, none⟩ = some x8 ∧ w.cell? ⟨b, 9, none⟩ = some x9 ∧ w.cell? ⟨b, 10, none⟩ = some x10 ∧ w.cell? ⟨b, 11, none⟩ = some x11) :=
  ⟨⟨(h.cell 0).trans rfl, (h.cell 1).trans rfl, (h.cell 2).trans rfl, (h.cell 3).trans rfl, (h.cell 4).trans rfl, (h.cell 5).trans rfl⟩, ⟨(h.cell 6).trans rfl, (h.cell 7).trans rfl, (h.cell 8).trans rfl, (h.cell 9).trans rfl, (h.cell 10).trans rfl, (h.cell 11).trans rfl⟩⟩
theorem put12 {w : World} {b : Nat} {t : TypeId} {x0 x1 x2 x3 x4 x5 x6 x7 x8 x9 x10 x11 : Value} (u0 u1 u2 u3 u4 u5 u6 u7 u8 u9 u10 u11 : Value) (h : Row w b t #[x0, x1, x2, x3, x4, x5, x6, x7, x8, x9, x10, x11]) :
    Row ((((((((((((w.setCell ⟨b, 0, none⟩ u0).setCell ⟨b, 1, none⟩ u1).setCell ⟨b, 2, none⟩ u2).setCell ⟨b, 3, none⟩ u3).setCell ⟨b, 4, none⟩ u4).setCell ⟨b, 5, none⟩ u5).setCell ⟨b, 6, none⟩ u6).setCell ⟨b, 7, none⟩ u7).setCell ⟨b, 8, none⟩ u8).setCell ⟨b, 9, none⟩ u9).setCell ⟨b, 10, none⟩ u10).setCell ⟨b, 11, none⟩ u11) b t #[u0, u1, u2, u3, u4, u5, u6, u7, u8, u9, u10, u11] := by
  have h0 : Row (w.setCell ⟨b, 0, none⟩ u0) b t #[u0, x1, x2, x3, x4, x5, x6, x7, x8, x9, x10, x11] := h.put 0 u0
  have h1 : Row ((w.setCell ⟨b, 0, none⟩ u0).setCell ⟨b, 1, none⟩ u1) b t #[u0, u1, x2, x3, x4, x5, x6, x7, x8, x9, x10, x11] := h0.put 1 u1
  have h2 : Row (((w.setCell ⟨b, 0, none⟩ u0).setCell ⟨b, 1, none⟩ u1).setCell ⟨b, 2, none⟩ u2) b t #[u0, u1, u2, x3, x4, x5, x6, x7, x8, x9, x10, x11] := h1.put 2 u2
  have h3 : Row ((((w.setCell ⟨b, 0, none⟩ u0).setCell ⟨b, 1, none⟩ u1).setCell ⟨b, 2, none⟩ u2).setCell ⟨b, 3, none⟩ u3) b t #[u0, u1, u2, u3, x4, x5, x6, x7, x8, x9, x10, x11] := h2.put 3 u3
  have h4 : Row (((((w.setCell ⟨b, 0, none⟩ u0).setCell ⟨b, 1, none⟩ u1).setCell ⟨b, 2, none⟩ u2).setCell ⟨b, 3, none⟩ u3).setCell ⟨b, 4, none⟩ u4) b t #[u0, u1, u2, u3, u4, x5, x6, x7, x8, x9, x10, x11] := h3.put 4 u4
  have h5 : Row ((((((w.setCell ⟨b, 0, none⟩ u0).setCell ⟨b, 1, none⟩ u1).setCell ⟨b, 2, none⟩ u2).setCell ⟨b, 3, none⟩ u3).setCell ⟨b, 4, none⟩ u4).setCell ⟨b, 5, none⟩ u5) b t #[u0, u1, u2, u3, u4, u5, x6, x7, x8, x9, x10, x11] := h4.put 5 u5
  have h6 : Row (((((((w.setCell ⟨b, 0, none⟩ u0).setCell ⟨b, 1, none⟩ u1).setCell ⟨b, 2, none⟩ u2).setCell ⟨b, 3, none⟩ u3).setCell ⟨b, 4, none⟩ u4).setCell ⟨b, 5, none⟩ u5).setCell ⟨b, 6, none⟩ u6) b t #[u0, u1, u2, u3, u4, u5, u6, x7, x8, x9, x10, x11] := h5.put 6 u6
  have h7 : Row ((((((((w.setCell ⟨b, 0, none⟩ u0).setCell ⟨b, 1, none⟩ u1).setCell ⟨b, 2, none⟩ u2).setCell ⟨b, 3, none⟩ u3).setCell ⟨b, 4, none⟩ u4).setCell ⟨b, 5, none⟩ u5).setCell ⟨b, 6, none⟩ u6).setCell ⟨b, 7, none⟩ u7) b t #[u0, u1, u2, u3, u4, u5, u6, u7, x8, x9, x10, x11] := h6.put 7 u7
  have h8 : Row (((((((((w.setCell ⟨b, 0, none⟩ u0).setCell ⟨b, 1, none⟩ u1).setCell ⟨b, 2, none⟩ u2).setCell ⟨b, 3, none⟩ u3).setCell ⟨b, 4, none⟩ u4).setCell ⟨b, 5, none⟩ u5).setCell ⟨b, 6, none⟩ u6).setCell ⟨b, 7, none⟩ u7).setCell ⟨b, 8, none⟩ u8) b t #[u0, u1, u2, u3, u4, u5, u6, u7, u8, x9, x10, x11] := h7.put 8 u8
  have h9 : Row ((((((((((w.setCell ⟨b, 0, none⟩ u0).setCell ⟨b, 1, none⟩ u1).setCell ⟨b, 2, none⟩ u2).setCell ⟨b, 3, none⟩ u3).setCell ⟨b, 4, none⟩ u4).setCell ⟨b, 5, none⟩ u5).setCell ⟨b, 6, none⟩ u6).setCell ⟨b, 7, none⟩ u7).setCell ⟨b, 8, none⟩ u8).setCell ⟨b, 9, none⟩ u9) b t #[u0, u1, u2, u3, u4, u5, u6, u7, u8, u9, x10, x11] := h8.put 9 u9
  have h10 : Row (((((((((((w.setCell ⟨b, 0, none⟩ u0).setCell ⟨b, 1, none⟩ u1).setCell ⟨b, 2, none⟩ u2).setCell ⟨b, 3, none⟩ u3).setCell ⟨b, 4, none⟩ u4).setCell ⟨b, 5, none⟩ u5).setCell ⟨b, 6, none⟩ u6).setCell ⟨b, 7, none⟩ u7).setCell ⟨b, 8, none⟩ u8).setCell ⟨b, 9, none⟩ u9).setCell ⟨b, 10, none⟩ u10) b t #[u0, u1, u2, u3, u4, u5, u6, u7, u8, u9, u10, x11] := h9.put 10 u10
  have h11 : Row ((((((((((((w.setCell ⟨b, 0, none⟩ u0).setCell ⟨b, 1, none⟩ u1).setCell ⟨b, 2, none⟩ u2).setCell ⟨b, 3, none⟩ u3).setCell ⟨b, 4, none⟩ u4).setCell ⟨b, 5, none⟩ u5).setCell ⟨b, 6, none⟩ u6).setCell ⟨b, 7, none⟩ u7).setCell ⟨b, 8, none⟩ u8).setCell ⟨b, 9, none⟩ u9).setCell ⟨b, 10, none⟩ u10).setCell ⟨b, 11, none⟩ u11) b t #[u0, u1, u2, u3, u4, u5, u6, u7, u8, u9, u10, u11] := h10.put 11 u11
  exact h11
theorem below12 {w0 w : World} {B b : Nat} (u0 u1 u2 u3 u4 u5 u6 u7 u8 u9 u10 u11 : Value) (h : Below B w0 w) (hB : B ≤ b) :
    Below B w0 ((((((((((((w.setCell ⟨b, 0, none⟩ u0).setCell ⟨b, 1, none⟩ u1).setCell ⟨b, 2, none⟩ u2).setCell ⟨b, 3, none⟩ u3).setCell ⟨b, 4, none⟩ u4).setCell ⟨b, 5, none⟩ u5).setCell ⟨b, 6, none⟩ u6).setCell ⟨b, 7, none⟩ u7).setCell ⟨b, 8, none⟩ u8).setCell ⟨b, 9, none⟩ u9).setCell ⟨b, 10, none⟩ u10).setCell ⟨b, 11, none⟩ u11) := ((((((((((((h.setCell (p := ⟨b, 0, none⟩) hB _).setCell (p := ⟨b, 1, none⟩) hB _).setCell (p := ⟨b, 2, none⟩) hB _).setCell (p := ⟨b, 3, none⟩) hB _).setCell (p := ⟨b, 4, none⟩) hB _).setCell (p := ⟨b, 5, none⟩) hB _).setCell (p := ⟨b, 6, none⟩) hB _).setCell (p := ⟨b, 7, none⟩) hB _).setCell (p := ⟨b, 8, none⟩) hB _).setCell (p := ⟨b, 9, none⟩) hB _).setCell (p := ⟨b, 10, none⟩) hB _).setCell (p := ⟨b, 11, none⟩) hB _)
end Go.Proofs.YtejoabaanclcbaaGreat



namespace Go.Proofs.YtejoabaanclcbaaGreat
open Go.RowKit

theorem ret_i64 {a b : Int} (h : a = b) : Ending.returned (.int .i64 a) = .returned (.int .i64 b) := by rw [h]
theorem grown_below {a b : World} {r : Option Nat} (h : Below a.heap.size a b) : a.grownBy b r := ⟨h.os, h.tape, h.output, h.size, fun i hi _ => h.block i hi⟩
/-- An int64. -/
def I64 (x : Int) : Prop := -9223372036854775808 ≤ x ∧ x ≤ 9223372036854775807
theorem tmod_neg {x n : Int} (h0 : ¬ 0 ≤ x) (h1 : 1 ≤ n) : -n < x.tmod n ∧ x.tmod n ≤ 0 ∧ (x.tmod n < 0 → x.tmod n + n = x % n) ∧ (¬ x.tmod n < 0 → x.tmod n = x % n) := by
  have a := Int.lt_tmod_of_pos x (by omega : 0 < n)
  have c := Int.emod_nonneg x (by omega : n ≠ 0)
  have d := Int.emod_lt_of_pos x (by omega : 0 < n)
  have e : x.tmod n = x % n - ↑(if 0 ≤ x ∨ n ∣ x then 0 else n.natAbs) := Int.tmod_eq_emod
  by_cases hd : n ∣ x
  · rw [if_pos (.inr hd)] at e
    have := Int.emod_eq_zero_of_dvd hd
    omega
  · rw [if_neg (fun h => h.elim h0 hd)] at e
    have : x % n ≠ 0 := fun h => hd (Int.dvd_of_emod_eq_zero h)
    omega
set_option maxHeartbeats 400000 in
theorem mod_any (x n : Int) (w : World) (hx : I64 x) (h1 : 1 ≤ n) (h2 : n ≤ 100000000) :
    Calls Tryz.prog 31 #[.int .i64 x, .int .i64 n] w fun e w' => e = .returned (.int .i64 (x % n)) ∧ w = w' := by
  obtain ⟨hx1, hx2⟩ := hx
  by_cases h0 : 0 ≤ x
  · have c := Int.emod_nonneg x (by omega : n ≠ 0)
    go_enter Tryz.func31, Tryz.ntmps31
    go_wp2
    go_ret
    exact ⟨rfl, rfl⟩
  · obtain ⟨a, b, c, d⟩ := tmod_neg h0 h1
    by_cases h3 : x.tmod n < 0
    · have C := Lib.hid (c h3); clear c d
      go_enter Tryz.func31, Tryz.ntmps31
      go_wp2
      go_ret
      exact ⟨ret_i64 C.out, rfl⟩
    · have D := Lib.hid (d h3); clear c d
      go_enter Tryz.func31, Tryz.ntmps31
      go_wp2
      go_ret
      exact ⟨ret_i64 D.out, rfl⟩
/-- The first n numbers of a list that lies in W. -/
def Ints (W : World) (A : Option Addr) (n : Nat) : Prop := ∀ i, i < n → ∃ bk off x, A = some ⟨bk, off, none⟩ ∧ bk < W.heap.size ∧ W.cell? ⟨bk, off + i, none⟩ = some (.int .i64 x) ∧ I64 x
/-- Block b holds a reader, made since the world W; below W's end nothing has turned. -/
structure Src (W : World) (b : Nat) (w : World) : Prop where
  base : W.heap.size ≤ b
  below : Below W.heap.size W w
  row : ∃ (A : Option Addr) (n c k : Nat), k ≤ n ∧ n ≤ 2000 ∧ w.heap[b]? = some (.cells #[.slice A n c, .int .i64 k] 58 (0, 0)) ∧ Ints W A n

theorem Src.under {W w w' : World} {b : Nat} (h : Src W b w) (hb : Below w.heap.size w w') : Src W b w' := by
  obtain ⟨A, n, c, k, h1, h2, h3, h4⟩ := h.row
  have hlt : b < w.heap.size := by
    rcases Nat.lt_or_ge b w.heap.size with hlt | hge
    · exact hlt
    · rw [Array.getElem?_eq_none hge] at h3; cases h3
  exact ⟨h.base, h.below.trans (hb.mono h.below.size), A, n, c, k, h1, h2, (hb.block b hlt).trans h3, h4⟩
theorem grown_refl (w : World) (r : Option Nat) : w.grownBy w r := ⟨rfl, rfl, rfl, Nat.le_refl _, fun _ _ _ => rfl⟩
theorem grown_trans {a b c : World} {r : Option Nat} (h : a.grownBy b r) (k : b.grownBy c r) : a.grownBy c r :=
  ⟨k.os.trans h.os, k.tape.trans h.tape, k.output.trans h.output, Nat.le_trans h.size k.size, fun i hi hr => (k.block i (Nat.lt_of_lt_of_le hi h.size) hr).trans (h.block i hi hr)⟩
theorem below_grown {a b c : World} {B g : Nat} (h : Below B a b) (k : b.grownBy c (some g)) (hg : B ≤ g) (hB : B ≤ b.heap.size) : Below B a c :=
  ⟨k.os.trans h.os, k.tape.trans h.tape, k.output.trans h.output, Nat.le_trans h.size k.size, fun i hi => (k.block i (by omega) (by simp; omega)).trans (h.block i hi)⟩

/-- What a call on the reader leaves: a number that meets p, the reader as it should be, and nothing but the reader's block turned. -/
def Reads (p : Int → Prop) (W : World) (b : Nat) (w : World) (e : Ending) (w' : World) : Prop := ∃ x, p x ∧ e = .returned (.int .i64 x) ∧ Src W b w' ∧ w.grownBy w' (some b)

theorem set_row {w : World} {b n c k : Nat} {A : Option Addr} {v : Value} (h : w.heap[b]? = some (.cells #[.slice A n c, .int .i64 k] 58 (0, 0))) (p q : Nat) :
    (((w.drewN p).setCell ⟨b, 1, none⟩ v).drewN q).heap[b]? = some (.cells #[.slice A n c, v] 58 (0, 0)) ∧ w.grownBy (((w.drewN p).setCell ⟨b, 1, none⟩ v).drewN q) (some b) := by
  constructor
  · show ((w.drewN p).setCell ⟨b, 1, none⟩ v).heap[b]? = _
    simp [World.setCell, Array.getElem?_modify, h]
  · have hb : Below 0 w ((w.drewN p).setCell ⟨b, 1, none⟩ v) := ⟨rfl, rfl, rfl, by simp [World.setCell], fun i hi => by omega⟩
    exact ⟨hb.os, hb.tape, hb.output, hb.size, fun i _ hne => Below.heap_setCell (w.drewN p) ⟨b, 1, none⟩ v i (fun e => hne (by rw [e]))⟩

set_option maxHeartbeats 400000 in
theorem raw_any (W : World) (b : Nat) (w : World) (h : Src W b w) :
    Calls Tryz.prog 32 #[.pointer (some ⟨b, 0, none⟩)] w (Reads I64 W b w) := by
  obtain ⟨A, n, c, k, h1, h2, h3, h4⟩ := h.row
  have c0 : w.cell? ⟨b, 0, none⟩ = some (.slice A n c) := by simp [World.cell?, h3]
  have c1 : w.cell? ⟨b, 1, none⟩ = some (.int .i64 k) := by simp [World.cell?, h3]
  have f1 : w.frozen? ⟨b, 1, none⟩ = false := by simp [World.frozen?, h3]
  by_cases hk : k < n
  · obtain ⟨bk, off, x, rfl, hlt, hx, hi⟩ := h4 k hk
    have hbb := h.base
    have hne : bk < b := by omega
    have cx : w.cell? ⟨bk, off + k, none⟩ = some (.int .i64 x) := (h.below.cell (p := ⟨bk, off + k, none⟩) hlt).trans hx
    have hS := h; have H3 := Lib.hid h3; clear h3 h hx hbb hlt
    have H4 := Lib.hid h4; clear h4
    go_enter Tryz.func32, Tryz.ntmps32
    go_wp2
    go_quiet (fail)
    go_wp2
    go_quiet (fail)
    go_wp2
    go_ret
    exact ⟨x, hi, rfl, ⟨hS.base, below_grown hS.below (set_row H3.out _ _).2 hS.base hS.below.size, _, n, c, k + 1, by omega, h2, (set_row H3.out _ _).1, H4.out⟩, (set_row H3.out _ _).2⟩
  · have hkn : k = n := by omega
    subst hkn
    have hS := h; clear h3 h h4
    go_enter Tryz.func32, Tryz.ntmps32
    go_wp2
    go_quiet (fail)
    go_wp2
    go_ret
    exact ⟨0, ⟨by omega, by omega⟩, rfl, hS.under ⟨rfl, rfl, rfl, Nat.le_refl _, fun _ _ => rfl⟩, grown_below ⟨rfl, rfl, rfl, Nat.le_refl _, fun _ _ => rfl⟩⟩

set_option maxHeartbeats 400000 in
theorem n_any (W : World) (b : Nat) (w : World) (n : Int) (h : Src W b w) (n1 : 1 ≤ n) (n2 : n ≤ 100000000) :
    Calls Tryz.prog 13 #[.pointer (some ⟨b, 0, none⟩), .int .i64 n] w (Reads (fun x => 0 ≤ x ∧ x < n) W b w) := by
  go_enter Tryz.func13, Tryz.ntmps13
  go_wp2_with fail
  refine (raw_any W b _ h).mono ?_
  rintro e w1 ⟨x, hx, rfl, hs, hg⟩
  go_wp2_with fail
  refine (mod_any _ _ _ hx n1 n2).mono ?_
  rintro e w2 ⟨rfl, rfl⟩
  go_wp2_with fail
  go_ret
  exact ⟨x % n, ⟨Int.emod_nonneg x (by omega), Int.emod_lt_of_pos x (by omega)⟩, rfl, hs, hg⟩

set_option maxHeartbeats 400000 in
theorem range_any (W : World) (b : Nat) (w : World) (lo hi : Int) (h : Src W b w) (n1 : lo ≤ hi) (n2 : hi - lo ≤ 90000000) (l1 : -1000000000 ≤ lo) (l2 : lo ≤ 1000000000) :
    Calls Tryz.prog 21 #[.pointer (some ⟨b, 0, none⟩), .int .i64 lo, .int .i64 hi] w (Reads (fun x => lo ≤ x ∧ x ≤ hi) W b w) := by
  go_enter Tryz.func21, Tryz.ntmps21
  go_wp2_with fail
  refine (n_any W b _ _ h (by omega) (by omega)).mono ?_
  rintro e w1 ⟨x, ⟨x1, x2⟩, rfl, hs, hg⟩
  go_wp2_with fail
  go_ret
  exact ⟨lo + x, ⟨by omega, by omega⟩, rfl, hs, hg⟩

/-- What New leaves: a reader in a new block. -/
def News (W : World) (e : Ending) (w' : World) : Prop := e = .returned (.pointer (some ⟨W.heap.size, 0, none⟩)) ∧ Src W W.heap.size w' ∧ Below W.heap.size W w'
theorem Ints.less {W : World} {A : Option Addr} {n m : Nat} (h : Ints W A n) (hm : m ≤ n) : Ints W A m := fun i hi => h i (by omega)
theorem new_src {w : World} {A : Option Addr} {n c : Nat} (hn : n ≤ 2000) (hI : Ints w A n) : Src w w.heap.size (w.alloc (.cells #[.slice A n c, .int .i64 0] 58)) :=
  ⟨Nat.le_refl _, (Below.refl _ _).alloc (Nat.le_refl _) _, A, n, c, 0, Nat.zero_le _, hn, heap_alloc_new w _, hI⟩
set_option maxHeartbeats 400000 in
theorem new_none (w : World) :
    Calls Tryz.prog 10 #[.slice none 0 0] w (News w) := by
  go_enter Tryz.func10, Tryz.ntmps10
  go_wp2
  go_ret
  exact ⟨rfl, new_src (by omega) (fun i hi => by omega), (Below.refl _ _).alloc (Nat.le_refl _) _⟩
set_option maxHeartbeats 400000 in
theorem new_some (w : World) (a : Addr) (n c : Nat) (hc : n ≤ c) (_hm : c ≤ 9223372036854775807) (hI : Ints w (some a) n) :
    Calls Tryz.prog 10 #[.slice (some a) n c] w (News w) := by
  go_enter Tryz.func10, Tryz.ntmps10
  go_wp2
  all_goals
    go_ret
    exact ⟨rfl, new_src (by omega) (hI.less (by omega)), (Below.refl _ _).alloc (Nat.le_refl _) _⟩
/-- A list as the program holds it. -/
def ListIn (w : World) (v : Value) : Prop := v = .slice none 0 0 ∨ ∃ (a : Addr) (n c : Nat), v = .slice (some a) n c ∧ n ≤ c ∧ c ≤ 9223372036854775807 ∧ Ints w (some a) n
theorem new_any (w : World) (v : Value) (h : ListIn w v) : Calls Tryz.prog 10 #[v] w (News w) := by
  rcases h with rfl | ⟨a, n, c, rfl, h1, h2, h3⟩
  · exact new_none w
  · exact new_some w a n c h1 h2 h3
theorem Ints.under {W W' : World} {A : Option Addr} {n : Nat} (h : Ints W A n) (hb : Below W.heap.size W W') : Ints W' A n := fun i hi => by
  obtain ⟨bk, off, x, e, hlt, hc, hx⟩ := h i hi
  exact ⟨bk, off, x, e, Nat.lt_of_lt_of_le hlt hb.size, (hb.cell (p := ⟨bk, off + i, none⟩) hlt).trans hc, hx⟩
theorem ListIn.under {W W' : World} {v : Value} (h : ListIn W v) (hb : Below W.heap.size W W') : ListIn W' v := by
  rcases h with rfl | ⟨a, n, c, rfl, h1, h2, h3⟩
  · exact .inl rfl
  · exact .inr ⟨a, n, c, rfl, h1, h2, h3.under hb⟩
end Go.Proofs.YtejoabaanclcbaaGreat


