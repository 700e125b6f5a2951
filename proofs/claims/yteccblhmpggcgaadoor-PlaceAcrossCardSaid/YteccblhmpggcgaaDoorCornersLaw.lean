/- The walk of PlaceCorners: for every vertex the law returns true, and what lay in memory is as it was. -/
import Derived.Test.YteccblhmpggcgaaDoorCornersMath
import Derived.Deep.Cut
import Derived.Deep.CutRange
import Derived.Deep.AppendLies
namespace Go.Proofs.YteccblhmpggcgaaDoor
open Go.RowKit

/-- What the variable 'normal' holds. -/
def nrow (v : Nat) : List Nat → Array Value
  | [] => #[.int .i64 0, .int .i64 0, .int .i64 0, .int .i64 0]
  | _ => #[.int .i64 (Vn v : Nat), .int .i64 (Vw v 0), .int .i64 (Vw v 1), .int .i64 (Vw v 2)]
theorem nrow_snoc (v n : Nat) (L : List Nat) : nrow v (L ++ [n]) = #[.int .i64 (Vn v : Nat), .int .i64 (Vw v 0), .int .i64 (Vw v 1), .int .i64 (Vw v 2)] := by
  cases L <;> rfl
theorem nrow_pos (v : Nat) {L : List Nat} (h : L ≠ []) : nrow v L = #[.int .i64 (Vn v : Nat), .int .i64 (Vw v 0), .int .i64 (Vw v 1), .int .i64 (Vw v 2)] := by
  cases L
  · exact absurd rfl h
  · rfl
theorem nrow_four (v : Nat) (L : List Nat) : ∃ y0 y1 y2 y3, nrow v L = #[y0, y1, y2, y3] := by cases L <;> exact ⟨_, _, _, _, rfl⟩
theorem set4_far {w : World} {g4 gm : Nat} {u0 u1 u2 u3 a b c d : Value} (h : g4 ≠ gm) (k : w.cell? ⟨gm, 0, none⟩ = some a ∧ w.cell? ⟨gm, 1, none⟩ = some b ∧ w.cell? ⟨gm, 2, none⟩ = some c ∧ w.cell? ⟨gm, 3, none⟩ = some d) :
    ((((w.setCell ⟨g4, 0, none⟩ u0).setCell ⟨g4, 1, none⟩ u1).setCell ⟨g4, 2, none⟩ u2).setCell ⟨g4, 3, none⟩ u3).cell? ⟨gm, 0, none⟩ = some a ∧ ((((w.setCell ⟨g4, 0, none⟩ u0).setCell ⟨g4, 1, none⟩ u1).setCell ⟨g4, 2, none⟩ u2).setCell ⟨g4, 3, none⟩ u3).cell? ⟨gm, 1, none⟩ = some b ∧
    ((((w.setCell ⟨g4, 0, none⟩ u0).setCell ⟨g4, 1, none⟩ u1).setCell ⟨g4, 2, none⟩ u2).setCell ⟨g4, 3, none⟩ u3).cell? ⟨gm, 2, none⟩ = some c ∧ ((((w.setCell ⟨g4, 0, none⟩ u0).setCell ⟨g4, 1, none⟩ u1).setCell ⟨g4, 2, none⟩ u2).setCell ⟨g4, 3, none⟩ u3).cell? ⟨gm, 3, none⟩ = some d := by
  have e : ∀ i j u (w : World), (w.setCell ⟨g4, i, none⟩ u).cell? ⟨gm, j, none⟩ = w.cell? ⟨gm, j, none⟩ := fun i j u w => World.cell?_setCell_other w _ _ u (fun e => h (by injection e))
  rw [e, e, e, e, e, e, e, e, e, e, e, e, e, e, e, e]; exact k
/-- The texts of a list of faces. -/
def txs (v : Nat) (L : List Nat) : List Value := L.map fun g => .string (tx v g)
theorem txs_snoc (v n : Nat) (L : List Nat) : txs v (L ++ [n]) = txs v L ++ [.string (tx v n)] := by unfold txs; simp
/-- What is known between the steps. -/
structure Kn (W : World) (v g4 : Nat) (L : List Nat) (vt : Value) (w : World) : Prop where
  below : Below W.heap.size W w
  b4 : W.heap.size ≤ g4
  row : Row w g4 23 (nrow v L)
  own : w.ownsRow W.heap.size 9 1 vt L.length (txs v L)
  none_ : L = [] → vt = .slice none 0 0
section
variable {W w w' : World} {v g4 : Nat} {L : List Nat} {vt : Value}
theorem Kn.under (h : Kn W v g4 L vt w) (hb : Below w.heap.size w w') : Kn W v g4 L vt w' := ⟨h.below.trans (hb.mono h.below.size), h.b4, h.row.under hb, own_under h.own hb, h.none_⟩
theorem Kn.alloc (h : Kn W v g4 L vt w) (o : Obj) : Kn W v g4 L vt (w.alloc o) := h.under ((Below.refl _ _).alloc (Nat.le_refl _) o)
theorem Kn.far (h : Kn W v g4 L vt w) {p : Addr} {t : TypeId} {cs : Array Value} (hr : Row w p.block t cs) (h1 : t ≠ 23) (h2 : t ≠ 9) (hp : W.heap.size ≤ p.block) (u : Value) : Kn W v g4 L vt (w.setCell p u) := by
  have n1 : g4 ≠ p.block := by
    rintro rfl
    have k := h.row
    unfold Row at k hr
    rw [k] at hr
    injection hr with hr
    injection hr with _ ht
    exact h1 ht.symm
  have n2 := own_ne h.own hr (Ne.symm h2)
  exact ⟨h.below.setCell hp _, h.b4, h.row.far (Ne.symm n1) _, h.own.kept (row := some p.block) ⟨rfl, rfl, rfl, by simp, fun i _ hne => Below.heap_setCell w p u i (fun e => hne (by rw [e]))⟩ (.inr (Ne.symm n2)), h.none_⟩
end
theorem Kn.shape {W w : World} {v g4 : Nat} {L : List Nat} {vt : Value} (h : Kn W v g4 L vt w) : ∃ A cap, vt = .slice A L.length cap ∧ L.length ≤ cap ∧ cap ≤ 9223372036854775807 ∧
    ∀ i, (hi : i < L.length) → ∃ g, A = some ⟨g, 0, none⟩ ∧ w.cell? ⟨g, i, none⟩ = some (.string (tx v L[i])) := by
  by_cases hL : L = []
  · exact ⟨none, 0, by rw [h.none_ hL, hL]; rfl, by rw [hL]; exact Nat.le_refl _, by omega, fun i hi => by rw [hL] at hi; simp at hi⟩
  · obtain ⟨g, cap, rfl, _, _, c1, c2, hc⟩ := own_open h.own (List.length_pos_iff.2 hL)
    refine ⟨_, _, rfl, c1, by unfold maxLen at c2; exact c2, fun i hi => ⟨g, rfl, hc i _ ?_⟩⟩
    unfold txs
    rw [List.getElem?_map, List.getElem?_eq_getElem hi]; rfl
theorem row_row_ne {w : World} {g g' : Nat} {t t' : TypeId} {cs cs' : Array Value} (h : Row w g t cs) (k : Row w g' t' cs') (hne : t ≠ t') : g ≠ g' := by
  rintro rfl
  unfold Row at h k
  rw [h] at k
  injection k with k
  injection k with _ ht
  exact hne ht
theorem own_far {w : World} {base size n g j : Nat} {e : TypeId} {v : Value} {xs : List Value} (h : w.ownsRow base e size v n xs) (hne : some g ≠ v.ownBlock) (u : Value) : (w.setCell ⟨g, j, none⟩ u).ownsRow base e size v n xs :=
  h.kept (row := some g) ⟨rfl, rfl, rfl, by simp, fun i _ hn => Below.heap_setCell w ⟨g, j, none⟩ u i (fun e => hn (by rw [e]))⟩ (.inr (Ne.symm hne))
theorem Kn.push {W w w1 : World} {v g4 n : Nat} {L : List Nat} {vt vt' : Value} (h : Kn W v g4 L vt w) (o : Obj) (hown : w1.ownsRow W.heap.size 9 1 vt' (L.length + 1) (txs v L ++ [.string (tx v n)])) (hg : (w.alloc o).drew.grownBy w1 vt.ownBlock) :
    Kn W v g4 (L ++ [n]) vt' ((((w1.setCell ⟨g4, 0, none⟩ (.int .i64 (Vn v : Nat))).setCell ⟨g4, 1, none⟩ (.int .i64 (Vw v 0))).setCell ⟨g4, 2, none⟩ (.int .i64 (Vw v 1))).setCell ⟨g4, 3, none⟩ (.int .i64 (Vw v 2))) := by
  obtain ⟨y0, y1, y2, y3, hy⟩ := nrow_four v L
  have hr : Row w1 g4 23 #[y0, y1, y2, y3] := hy ▸ ((h.row.alloc o).drew).grown hg (own_ne h.own h.row (by decide))
  have hb : Below W.heap.size W w1 := below_own ((h.below.alloc h.below.size o).drew) (by have := h.below.size; simp; omega) ((h.own.alloc o).drew) hg
  have hne : some g4 ≠ vt'.ownBlock := own_ne hown hr (by decide)
  have hr0 : Row (w1.setCell ⟨g4, 0, none⟩ (.int .i64 (Vn v : Nat))) g4 23 #[.int .i64 (Vn v : Nat), y1, y2, y3] := hr.put 0 _
  have hr1 : Row ((w1.setCell ⟨g4, 0, none⟩ (.int .i64 (Vn v : Nat))).setCell ⟨g4, 1, none⟩ (.int .i64 (Vw v 0))) g4 23 #[.int .i64 (Vn v : Nat), .int .i64 (Vw v 0), y2, y3] := hr0.put 1 _
  have hr2 : Row (((w1.setCell ⟨g4, 0, none⟩ (.int .i64 (Vn v : Nat))).setCell ⟨g4, 1, none⟩ (.int .i64 (Vw v 0))).setCell ⟨g4, 2, none⟩ (.int .i64 (Vw v 1))) g4 23 #[.int .i64 (Vn v : Nat), .int .i64 (Vw v 0), .int .i64 (Vw v 1), y3] := hr1.put 2 _
  refine ⟨(((hb.setCell (p := ⟨g4, 0, none⟩) h.b4 _).setCell (p := ⟨g4, 1, none⟩) h.b4 _).setCell (p := ⟨g4, 2, none⟩) h.b4 _).setCell (p := ⟨g4, 3, none⟩) h.b4 _, h.b4, ?_, ?_, fun e => by simp at e⟩
  · rw [nrow_snoc]; exact hr2.put 3 _
  · rw [txs_snoc, List.length_append]
    exact own_far (own_far (own_far (own_far hown hne _) hne _) hne _) hne _
theorem push_far {w w1 : World} {g g4 : Nat} {t t' : TypeId} {cs cs' : Array Value} {vt : Value} {base size m : Nat} {e : TypeId} {xs : List Value} (r : Row w g t cs) (r4 : Row w g4 t' cs') (hne : t ≠ t') (ho : w.ownsRow base e size vt m xs) (h2 : e ≠ t) (o : Obj) (hg : (w.alloc o).drew.grownBy w1 vt.ownBlock) (a b c d : Value) :
    Row ((((w1.setCell ⟨g4, 0, none⟩ a).setCell ⟨g4, 1, none⟩ b).setCell ⟨g4, 2, none⟩ c).setCell ⟨g4, 3, none⟩ d) g t cs := by
  have n : g4 ≠ g := Ne.symm (row_row_ne r r4 hne)
  exact (((((r.alloc o).drew.grown hg (own_ne ho r h2)).far (p := ⟨g4, 0, none⟩) n _).far (p := ⟨g4, 1, none⟩) n _).far (p := ⟨g4, 2, none⟩) n _).far (p := ⟨g4, 3, none⟩) n _
abbrev z3 : Array Value := #[.int .i64 0, .int .i64 0, .int .i64 0]
theorem z3_set {n k v : Nat} (hn : n < 20) (h3 : k < 3) (h : Ico.cor n k = v) : z3.setIfInBounds k (.int .i64 840) = #[.int .i64 (ind n 0 v), .int .i64 (ind n 1 v), .int .i64 (ind n 2 v)] := by
  obtain ⟨h1, h2, h3'⟩ := Ico.cor_ne n hn
  have : k = 0 ∨ k = 1 ∨ k = 2 := by omega
  subst h
  unfold ind
  rcases this with rfl | rfl | rfl
  · rw [if_pos rfl, if_neg (Ne.symm h1), if_neg (Ne.symm h3')]; rfl
  · rw [if_neg h1, if_pos rfl, if_neg (Ne.symm h2)]; rfl
  · rw [if_neg h3', if_neg h2, if_pos rfl]; rfl
theorem normal_v (n v : Nat) (w : World) (hn : n < 20) (hv : v < 12) (h : Ico.has n v = true) :
    Calls Tryd.prog 13 #[.agg #[.int .i64 n, .int .i64 (ind n 0 v), .int .i64 (ind n 1 v), .int .i64 (ind n 2 v)]] w fun e w' => e = .returned (.tuple #[.agg #[.int .i64 (Vn v : Nat), .int .i64 (Vw v 0), .int .i64 (Vw v 1), .int .i64 (Vw v 2)], .int .i64 0]) ∧ Below w.heap.size w w' := by
  obtain ⟨h1, h2⟩ := normal_ind hn hv h
  rw [← h1, ← h2, ← h2, ← h2]
  exact normal_yes n _ _ _ w (ind_vld hn h)
theorem format_v (n v : Nat) (w : World) (hE : Env w) (hn : n < 20) (h : Ico.has n v = true) :
    Calls Tryd.prog 17 #[.agg #[.int .i64 n, .int .i64 (ind n 0 v), .int .i64 (ind n 1 v), .int .i64 (ind n 2 v)]] w fun e w' => e = .returned (.tuple #[.string (tx v n), .int .i64 0]) ∧ Below w.heap.size w w' :=
  format_yes n _ _ _ w hE (ind_vld hn h)
theorem infoString : (Tryd.prog.info? 9).map (fun i => (i.zero, i.size, i.bytes)) = some (some (.string ⟨#[]⟩), 1, 16) := by kernel_rfl
attribute [local go_sem] eq_place
set_option maxRecDepth 100000 in
set_option maxHeartbeats 4000000 in
theorem placeCorners_any (vertex : Int) (w : World) (hE : Env w) (hv : I64 vertex) :
    Calls Tryd.prog 8 #[.int .i64 vertex] w fun e w' => e = .returned (.bool true) ∧ Below w.heap.size w w' := by
  obtain ⟨i0, hi, hz0, hz1, hz2⟩ := info_parts infoString
  go_enter Tryd.func8, Tryd.ntmps8
  go_wp2_with fail
  refine (mod_any _ _ _ hv (by omega) (by omega)).mono ?_
  rintro e w7 ⟨rfl, rfl⟩
  have o1 : 0 ≤ vertex % 12 := Int.emod_nonneg _ (by omega)
  have o2 : vertex % 12 < 12 := Int.emod_lt_of_pos _ (by omega)
  generalize vertex % 12 = v0 at *
  obtain ⟨v, rfl⟩ := Int.eq_ofNat_of_zero_le o1
  have hv12 : v < 12 := by omega
  clear o1 o2 hv
  go_wp2_with fail
  have K0 : Kn w v w.heap.size [] (.slice none 0 0) (w.alloc (.cells #[.int .i64 0, .int .i64 0, .int .i64 0, .int .i64 0] 23)) :=
    ⟨(Below.refl _ _).alloc (Nat.le_refl _) _, Nat.le_refl _, Row.new _ _ _, World.ownsRow_nil _ _ _ _, fun _ => rfl⟩
  obtain ⟨g4, hg4⟩ : ∃ g4, w.heap.size = g4 := ⟨_, rfl⟩
  have HG := Lib.hid hg4
  rw [hg4] at K0 ⊢
  clear hg4
  go_loopw [5, 6] (fun vt i wr => ∃ n : Nat, n ≤ 20 ∧ i = .int .i64 n ∧ Kn w v g4 (fl v n) vt wr) (fun _ i _ => 20 - (intOf i).toNat)
  case atStart => exact ⟨0, by omega, rfl, K0⟩
  case round =>
    clear K0
    obtain ⟨n, hn, rfl, K⟩ := hrel
    by_cases hlt : n < 20
    · go_wp2_with (go_at_call 24; refine (corners_yes _ _ hlt).mono ?_; rintro e w1 ⟨rfl, hb1⟩)
      have K1 := (K.under hb1).alloc (.cells #[.int .i64 (Ico.cor n 0), .int .i64 (Ico.cor n 1), .int .i64 (Ico.cor n 2)] 43)
      have r1 := Row.new w1 #[.int .i64 (Ico.cor n 0), .int .i64 (Ico.cor n 1), .int .i64 (Ico.cor n 2)] 43
      clear K hb1
      rw [← fk0] at K1
      generalize hX : w1.alloc (.cells #[.int .i64 (Ico.cor n 0), .int .i64 (Ico.cor n 1), .int .i64 (Ico.cor n 2)] 43) = X at *
      generalize w1.heap.size = gc at *
      clear hX
      go_loopw [5, 9] (fun vt i wi => ∃ k : Nat, k ≤ 3 ∧ i = .int .i64 k ∧ Kn w v g4 (fk v n k) vt wi ∧ Row wi gc 43 #[.int .i64 (Ico.cor n 0), .int .i64 (Ico.cor n 1), .int .i64 (Ico.cor n 2)]) (fun _ i _ => 3 - (intOf i).toNat)
      case atStart => exact ⟨0, by omega, rfl, K1, r1⟩
      case round =>
        clear K1 r1
        obtain ⟨k, hk3, rfl, K, r⟩ := hrel
        by_cases hl3 : k < 3
        · have c0 : wr.cell? ⟨gc, k, none⟩ = some (.int .i64 (Ico.cor n k)) := (r.cell k).trans (by
            have : k = 0 ∨ k = 1 ∨ k = 2 := by omega
            rcases this with rfl | rfl | rfl <;> rfl)
          by_cases hc : Ico.cor n k = v
          · have q0 : ((Ico.cor n k : Int) != (v : Int)) = false := by simp [hc]
            have HC := Lib.hid hc; clear hc
            go_upto_region 15 with fail
            have K1 := K.alloc (.cells z3 43)
            have r1 := r.alloc (.cells z3 43)
            have R1 := Row.new wr z3 43
            have hge : w.heap.size ≤ wr.heap.size := K.below.size
            refine forget (fun Y => Kn w v g4 (fk v n k) «u5» Y ∧ Row Y gc 43 #[.int .i64 (Ico.cor n 0), .int .i64 (Ico.cor n 1), .int .i64 (Ico.cor n 2)] ∧ Row Y wr.heap.size 43 z3 ∧ gc ≠ wr.heap.size) ⟨K1, r1, R1, by have := r.lt; omega⟩ ?_
            clear K K1 r r1 R1 c0
            generalize wr.heap.size = gq at *
            rintro Y ⟨K, r, R, hne⟩
            have c0 : Y.cell? ⟨gq, k, none⟩ = some (.int .i64 0) := (R.cell k).trans (by
              have : k = 0 ∨ k = 1 ∨ k = 2 := by omega
              rcases this with rfl | rfl | rfl <;> rfl)
            have f0 := R.thaw k
            go_upto_region 16 with fail
            have hP := R.put k (.int .i64 840)
            rw [z3_set hlt hl3 HC.out] at hP
            refine forget (fun Z => Kn w v g4 (fk v n k) «u5» Z ∧ Row Z gc 43 #[.int .i64 (Ico.cor n 0), .int .i64 (Ico.cor n 1), .int .i64 (Ico.cor n 2)] ∧ Row Z gq 43 #[.int .i64 (ind n 0 v), .int .i64 (ind n 1 v), .int .i64 (ind n 2 v)])
              ⟨K.far (p := ⟨gq, k, none⟩) R (by decide) (by decide) hge _, r.far (Ne.symm hne) _, hP⟩ ?_
            clear K r R c0 f0 hP
            rintro Z ⟨K, r, R⟩
            obtain ⟨q0, q1, q2⟩ := row3 R
            go_upto_region 17 with fail
            refine forget (fun U => Kn w v g4 (fk v n k) «u5» U ∧ Row U gc 43 #[.int .i64 (Ico.cor n 0), .int .i64 (Ico.cor n 1), .int .i64 (Ico.cor n 2)] ∧ Row U Z.heap.size 23 #[.int .i64 n, .int .i64 (ind n 0 v), .int .i64 (ind n 1 v), .int .i64 (ind n 2 v)])
              ⟨K.alloc _, r.alloc _, Row.new _ _ _⟩ ?_
            clear K r R q0 q1 q2
            generalize Z.heap.size = gp at *
            rintro U ⟨K, r, R⟩
            obtain ⟨q0, q1, q2, q3⟩ := row4 R
            have hh := has_cor hl3 HC.out
            have HH := Lib.hid hh; clear hh
            go_wp2_with fail
            refine (normal_v n v _ hlt hv12 HH.out).mono ?_
            rintro e w2 ⟨rfl, hb2⟩
            have K2 := (K.under hb2).alloc (.cells #[.int .i64 (Vn v : Nat), .int .i64 (Vw v 0), .int .i64 (Vw v 1), .int .i64 (Vw v 2)] 23)
            have r2 := (r.under hb2).alloc (.cells #[.int .i64 (Vn v : Nat), .int .i64 (Vw v 0), .int .i64 (Vw v 1), .int .i64 (Vw v 2)] 23)
            have R2 := (R.under hb2).alloc (.cells #[.int .i64 (Vn v : Nat), .int .i64 (Vw v 0), .int .i64 (Vw v 1), .int .i64 (Vw v 2)] 23)
            have M2 := Row.new w2 #[.int .i64 (Vn v : Nat), .int .i64 (Vw v 0), .int .i64 (Vw v 1), .int .i64 (Vw v 2)] 23
            go_upto_region 18 with fail
            refine forget (fun V => Kn w v g4 (fk v n k) «u5» V ∧ Row V gc 43 #[.int .i64 (Ico.cor n 0), .int .i64 (Ico.cor n 1), .int .i64 (Ico.cor n 2)] ∧ Row V gp 23 #[.int .i64 n, .int .i64 (ind n 0 v), .int .i64 (ind n 1 v), .int .i64 (ind n 2 v)] ∧ Row V w2.heap.size 23 #[.int .i64 (Vn v : Nat), .int .i64 (Vw v 0), .int .i64 (Vw v 1), .int .i64 (Vw v 2)] ∧ g4 ≠ w2.heap.size)
              ⟨K2, r2, R2, M2, by have := (K.under hb2).row.lt; omega⟩ ?_
            clear K r R hb2 K2 r2 R2 M2 q0 q1 q2 q3
            generalize w2.heap.size = gm at *
            rintro V ⟨K, r, R, M, hgm⟩
            obtain ⟨q0, q1, q2, q3⟩ := row4 R
            go_wp2_with fail
            refine (format_v n v _ (hE.under K.below) hlt HH.out).mono ?_
            rintro e w3 ⟨rfl, hb3⟩
            have K3 := K.under hb3
            have r3 := r.under hb3
            have M3 := M.under hb3
            clear K r R M q0 q1 q2 q3 hb3
            rw [(fk_yes hlt hl3 HC.out).1] at K3
            go_upto_region 19 with fail
            obtain ⟨A, cap, hu5, hcap, hcap2, htx⟩ := K3.shape
            have U5 := Lib.hid hu5
            rw [hu5]
            clear hu5
            go_cut [76] from 61 to 76 (fun b wc => b = .bool false ∧ Kn w v g4 (fl v n) «u5» wc ∧ Row wc gc 43 #[.int .i64 (Ico.cor n 0), .int .i64 (Ico.cor n 1), .int .i64 (Ico.cor n 2)] ∧ Row wc gm 23 #[.int .i64 (Vn v : Nat), .int .i64 (Vw v 0), .int .i64 (Vw v 1), .int .i64 (Vw v 2)])
            case first =>
              by_cases hL : fl v n = []
              · have e : (fl v n).length ≤ 0 := by rw [hL]; exact Nat.le_refl 0
                have KK := Lib.hid K3; clear K3 hL
                have RR := Lib.hid r3; clear r3
                have MM := Lib.hid M3; clear M3
                clear htx
                generalize (fl v n).length = len at *
                go_wp2_with fail
                go_meet
                exact ⟨rfl, KK.out, RR.out, MM.out⟩
              · have e : 0 < (fl v n).length := List.length_pos_iff.2 hL
                have rr := K3.row
                rw [nrow_pos v hL] at rr
                obtain ⟨a0, a1, a2, a3⟩ := row4 rr
                obtain ⟨m0, m1, m2, m3⟩ := row4 M3
                have KK := Lib.hid K3; clear K3 hL rr
                have RR := Lib.hid r3; clear r3
                have MM := Lib.hid M3; clear M3
                clear htx
                generalize (fl v n).length = len at *
                go_wp2_with fail
                go_meet
                exact ⟨rfl, KK.out, RR.out, MM.out⟩
            case rest =>
            obtain ⟨rfl, K, r, M⟩ := hcut
            clear K3 r3 M3 htx
            obtain ⟨A', cap', hu', hcap', hcap3, htx⟩ := K.shape
            rw [U5.out] at hu'
            injection hu' with hA _ hC
            subst hA
            subst hC
            clear hcap' hcap3
            have HT := Lib.hid htx; clear htx
            have HK := Lib.hid K; clear K
            have HR := Lib.hid r; clear r
            have HM := Lib.hid M; clear M
            go_wp2_with fail
            go_loop [79] (fun t => ∃ i : Nat, i ≤ (fl v n).length ∧ t = .int .i64 i) (fun t => (fl v n).length - (intOf t).toNat)
            case atStart => exact ⟨0, Nat.zero_le _, rfl⟩
            case round =>
              obtain ⟨i, hi2, rfl⟩ := hrel
              by_cases hl : i < (fl v n).length
              · obtain ⟨g, rfl, hc⟩ := HT.out i hl
                have hx := tx_ne (v := v) (g := (fl v n)[i]) (h := n) (by have := fl_lt (List.getElem_mem hl); omega) hlt (by have := fl_lt (List.getElem_mem hl); omega)
                clear HT U5 HK
                generalize (fl v n)[i] = y at *
                generalize (fl v n).length = len at *
                go_wp2_with fail
                go_round
                case rel => exact ⟨i + 1, by omega, by go_num⟩
                case measure => simp [intOf]; omega
              · obtain rfl : i = (fl v n).length := by omega
                go_upto_region 27 with fail
                have K := HK.out; clear HK HT
                have rr := HR.out; clear HR
                have M := HM.out; clear HM
                rw [U5.out] at K; clear U5
                have hge : w.heap.size ≤ wc.heap.size := K.below.size
                have hl5 := fl_len_le v n
                obtain ⟨m0, m1, m2, m3⟩ := row4 M
                have NE := Lib.hid (own_ne K.own M (by decide))
                have NE4 := Lib.hid (own_ne K.own K.row (by decide))
                obtain ⟨y0, y1, y2, y3, hy⟩ := nrow_four v (fl v n)
                have k4 := K.row
                rw [hy] at k4
                have K4 := Lib.hid k4; clear k4 hy
                have hge4 := K.b4
                have MM := Lib.hid M; clear M
                have RR := Lib.hid rr; clear rr
                have KK := Lib.hid K; clear K
                go_region_held3 (fun w' => w'.cell? ⟨gm, 0, none⟩ = some (.int .i64 (Vn v : Nat)) ∧ w'.cell? ⟨gm, 1, none⟩ = some (.int .i64 (Vw v 0)) ∧ w'.cell? ⟨gm, 2, none⟩ = some (.int .i64 (Vw v 1)) ∧ w'.cell? ⟨gm, 3, none⟩ = some (.int .i64 (Vw v 2)))
                  (first | go_keep | exact row4 (((MM.out.alloc _).drew).grown hgrow NE.out) | exact set4_far hgm (by assumption))
                  ((refine step_append_lies _ (by rfl) _ _ _ (by rfl) w.heap.size 9 i0 _ 1 16 Tryd.underlying52 hi hz0 hz1 hz2 rfl (by omega) _ (fl v n).length (txs v (fl v n)) (by rfl) ((KK.out.own.alloc _).drew) ⟨wc.heap.size, 0, none⟩ 1 1 [.string (tx v n)] (by rfl) (by rfl) (World.news_of_block (cs := #[.string (tx v n)]) (t := 9) (fr := (0, 0)) (heap_alloc_new wc _)) (by simp [Value.oneCell']) (by omega) (by unfold maxLen; omega) (by omega) (by simp; omega) (wc.heap.size + 1) (by simp) ?_; intro gg cap2 w1 hown1 hgrow hat hlt2; have R4 := ((K4.out.alloc _).drew).grown hgrow NE4.out; obtain ⟨t0, t1, t2, t3⟩ := row4 R4; have s0 := R4.thaw 0; have s1 := R4.thaw 1; have s2 := R4.thaw 2; have s3 := R4.thaw 3))
                have FK := Lib.hid (fk_yes hlt hl3 HC.out).2
                have hKf := KK.out.push _ hown1 hgrow
                have hRf := push_far RR.out KK.out.row (by decide) KK.out.own (by decide) _ hgrow (.int .i64 (Vn v : Nat)) (.int .i64 (Vw v 0)) (.int .i64 (Vw v 1)) (.int .i64 (Vw v 2))
                rw [← FK.out] at hKf
                have KF := Lib.hid hKf; clear hKf
                have RF := Lib.hid hRf; clear hRf
                clear t0 t1 t2 t3 s0 s1 s2 s3 R4 hown1 hgrow hat m0 m1 m2 m3
                go_wp2_with fail
                go_roundw
                case rel => exact ⟨k + 1, by omega, by go_num, KF.out, RF.out⟩
                case measure => simp [intOf]; omega
          · have q0 : ((Ico.cor n k : Int) != (v : Int)) = true := by rw [bne_iff_ne]; omega
            rw [← fk_no hc] at K
            clear hc
            go_wp2_with fail
            go_roundw
            case rel => exact ⟨k + 1, by omega, by go_num, K, r⟩
            case measure => simp [intOf]; omega
        · obtain rfl : k = 3 := by omega
          rw [fk3] at K
          go_wp2_with fail
          go_roundw
          case rel => exact ⟨n + 1, by omega, by go_num, K⟩
          case measure => simp [intOf]; omega
    · obtain rfl : n = 20 := by omega
      have hl := fl_len v hv12
      obtain ⟨g, cap, rfl, _, _, c1, c2, _⟩ := own_open K.own (by omega)
      rw [hl] at *
      have B := Lib.hid K.below
      clear K hl
      unfold maxLen at c2
      go_wp2_with fail
      refine (awake_from _ hE B.out).mono ?_
      rintro e w9 ⟨rfl, b9⟩
      go_wp2_with fail
      go_ret
      exact ⟨rfl, b9⟩
end Go.Proofs.YteccblhmpggcgaaDoor
