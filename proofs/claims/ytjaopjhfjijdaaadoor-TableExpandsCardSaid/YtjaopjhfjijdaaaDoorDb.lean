/- What data.Table holds while it makes a table. More on what data.Table holds. -/
import Derived.Test.YtjaopjhfjijdaaaDoorCd
namespace Go.Proofs.YtjaopjhfjijdaaaDoor
open Go.RowKit

/-- The cells of sequences. -/
def rowS (L : List (Int × Value)) : List Value := L.flatMap fun p => [.int .i64 p.1, p.2]
theorem rowS_snoc (L : List (Int × Value)) (c : Int) (v : Value) : rowS (L ++ [(c, v)]) = rowS L ++ [.int .i64 c, v] := by simp [rowS]
theorem rowS_at : ∀ (L : List (Int × Value)) (i : Nat) (h : i < L.length), (rowS L)[i * 2]? = some (.int .i64 (L[i]).1) ∧ (rowS L)[i * 2 + 1]? = some (L[i]).2
  | x :: r, 0, _ => ⟨rfl, rfl⟩
  | x :: r, i + 1, h => by
    have := rowS_at r i (by simpa using h)
    have e : rowS (x :: r) = .int .i64 x.1 :: x.2 :: rowS r := rfl
    rw [e, show (i + 1) * 2 = i * 2 + 1 + 1 by omega]
    simpa using this
/-- A list of at most three numbers in a block of its own; those at P are codes. -/
def Inn (w Y : World) (u : Value) (P : Nat → Prop) : Prop :=
  ∃ n, n ≤ 3 ∧ ((u = .slice none 0 0 ∧ n = 0) ∨ ∃ g cap cur, u = .slice (some ⟨g, 0, none⟩) n cap ∧ n ≤ cap ∧ cap ≤ 9223372036854775807 ∧ w.heap.size ≤ g ∧ Row Y g 3 cur ∧ ∀ k, k < n → ∃ x, cur[k]? = some (.int .i64 x) ∧ cdP x ∧ (P k → knd x ≠ 0))
section
variable {W w Y Y' : World} {u : Value} {P Q : Nat → Prop} {b g4 g5 : Nat} {ver : Int} {es : List En} {L : List (Int × Value)}
theorem Inn.weak (h : Inn w Y u P) (hq : ∀ k, Q k → P k) : Inn w Y u Q := by
  obtain ⟨n, h3, h⟩ := h
  refine ⟨n, h3, h.imp id (fun ⟨g, cap, cur, a, b, c, d, e, f⟩ => ⟨g, cap, cur, a, b, c, d, e, fun k hk => ?_⟩)⟩
  obtain ⟨x, x1, x2, x3⟩ := f k hk
  exact ⟨x, x1, x2, fun q => x3 (hq k q)⟩
/-- It stays while blocks are written that are no rows of numbers, or another one. -/
theorem Inn.step (h : Inn w Y u P) {r : Option Nat} (hg : Y.grownBy Y' r) (hr : ∀ g cur, w.heap.size ≤ g → Row Y g 3 cur → some g ≠ r) : Inn w Y' u P := by
  obtain ⟨n, h3, h⟩ := h
  exact ⟨n, h3, h.imp id (fun ⟨g, cap, cur, a, b, c, d, e, f⟩ => ⟨g, cap, cur, a, b, c, d, e.grown hg (hr g cur d e), f⟩)⟩
theorem cdP_100 : cdP 100 ∧ knd 100 ≠ 0 := by unfold cdP; decide +kernel
theorem set_at {cur : Array Value} {k m : Nat} {x : Int} (h : cur[m]? = some (.int .i64 x)) : (cur.setIfInBounds k (.int .i64 100))[m]? = some (.int .i64 (if m = k then 100 else x)) := by
  by_cases e : m = k
  · subst e
    have hlt := (Array.getElem?_eq_some_iff.1 h).1
    rw [if_pos rfl, Array.getElem?_setIfInBounds_self_of_lt hlt]
  · rw [if_neg e, Array.getElem?_setIfInBounds_ne (Ne.symm e)]
    exact h
/-- 100 is laid into a row of numbers. -/
theorem Inn.put (h : Inn w Y u P) {g k : Nat} {cur : Array Value} (_hr : Row Y g 3 cur) : Inn w (Y.setCell ⟨g, k, none⟩ (.int .i64 100)) u P := by
  obtain ⟨n, h3, h⟩ := h
  refine ⟨n, h3, h.imp id (fun ⟨g', cap, cur', a, b, c, d, e, f⟩ => ?_)⟩
  by_cases q : g = g'
  · subst q
    refine ⟨g, cap, _, a, b, c, d, e.put k _, fun m hm => ?_⟩
    obtain ⟨x, x1, x2, x3⟩ := f m hm
    refine ⟨_, set_at x1, ?_, fun pm => ?_⟩
    · split
      · exact cdP_100.1
      · exact x2
    · split
      · exact cdP_100.2
      · exact x3 pm
  · exact ⟨g', cap, cur', a, b, c, d, e.far (p := ⟨g, k, none⟩) q _, f⟩
theorem Inn.put_at {g n cap k : Nat} {cur : Array Value} (h : Inn w Y (.slice (some ⟨g, 0, none⟩) n cap) P) (_hr : Row Y g 3 cur) : Inn w (Y.setCell ⟨g, k, none⟩ (.int .i64 100)) (.slice (some ⟨g, 0, none⟩) n cap) (fun m => P m ∨ m = k) := by
  obtain ⟨n', h3, h⟩ := h
  refine ⟨n', h3, ?_⟩
  rcases h with ⟨q, -⟩ | ⟨g', cap', cur', a, b, c, d, e, f⟩
  · cases q
  · injection a with a1 a2 a3
    injection a1 with a1
    injection a1 with a1
    subst a1; subst a2; subst a3
    refine .inr ⟨g, cap, _, rfl, b, c, d, e.put k _, fun m hm => ?_⟩
    obtain ⟨x, x1, x2, x3⟩ := f m hm
    refine ⟨_, set_at x1, ?_, fun pm => ?_⟩
    · split
      · exact cdP_100.1
      · exact x2
    · split
      · exact cdP_100.2
      · rename_i ne
        exact x3 (pm.resolve_right ne)
theorem Inn.nm (h : Inn w Y u P) (hP : ∀ k, P k) : ∃ C, NmIn Y u C ∧ C.length ≤ 3 ∧ ∀ c ∈ C, knd c ≠ 0 := by
  obtain ⟨n, h3, ⟨rfl, rfl⟩ | ⟨g, cap, cur, rfl, b, c, d, e, f⟩⟩ := h
  · exact ⟨[], NmIn.nil _, by simp, fun c hc => absurd hc List.not_mem_nil⟩
  · have hx : ∀ i, ∃ x : Int, i < n → cur[i]? = some (.int .i64 x) ∧ I64 x ∧ knd x ≠ 0 := fun i => by
      by_cases hi : i < n
      · obtain ⟨x, x1, x2, x3⟩ := f i hi
        exact ⟨x, fun _ => ⟨x1, cdP_i64 x2, x3 (hP i)⟩⟩
      · exact ⟨0, fun q => absurd q hi⟩
    obtain ⟨F, hF⟩ : ∃ F : Nat → Int, ∀ i, i < n → cur[i]? = some (.int .i64 (F i)) ∧ I64 (F i) ∧ knd (F i) ≠ 0 := ⟨fun i => Classical.choose (hx i), fun i => Classical.choose_spec (hx i)⟩
    refine ⟨(List.range n).map F, ⟨some ⟨g, 0, none⟩, cap, by simp, by simpa using b, c, fun i hi => ?_⟩, by simpa using h3, fun x hx => ?_⟩
    · have hi' : i < n := by simpa using hi
      refine ⟨g, 0, rfl, e.lt, ?_, by simpa using (hF i hi').2.1⟩
      rw [e.cell, Nat.zero_add, (hF i hi').1]
      simp
    · obtain ⟨i, hi, rfl⟩ := List.mem_map.1 hx
      exact (hF i (List.mem_range.1 hi)).2.2
/-- A row of numbers of one's own is such a list. -/
theorem Inn.own {base : Nat} {C : List Int} (hC : ∀ c ∈ C, cdP c) (hl : C.length ≤ 3) (h : Y.ownsRow base 3 1 u C.length (C.map (Value.int .i64))) (hb : w.heap.size ≤ base) : Inn w Y u (fun _ => False) := by
  have h' := h
  refine ⟨C.length, hl, ?_⟩
  rcases h.2 with ⟨rfl, h0⟩ | ⟨g, cap, cur, rfl, hg, hh, hle, hmax, hs, ht⟩
  · exact .inl ⟨rfl, h0⟩
  · refine .inr ⟨g, cap, cur, rfl, hle, by unfold maxLen at hmax; omega, by omega, hh, fun k hk => ⟨C[k], ?_, hC _ (List.getElem_mem hk), fun q => q.elim⟩⟩
    have hc := h'.cellAt k (by omega)
    have hr : Row Y g 3 cur := hh
    rw [hr.cell] at hc
    rw [hc]
    simp [hk]
/-- The state: the reader, the boxes of the result and of the table, the rows of entries and of sequences. -/
structure Dt (W w : World) (b g4 g5 : Nat) (ver : Int) (es : List En) (L : List (Int × Value)) (P : Nat → Nat → Prop) (Y : World) : Prop where
  src : Src W b Y
  gro : w.grownBy Y (some b)
  bl : b < w.heap.size
  l4 : w.heap.size ≤ g4
  l5 : w.heap.size ≤ g5
  n45 : g4 ≠ g5
  r4 : Row Y g4 25 #[.int .i64 0, .slice none 0 0, .slice none 0 0]
  row : ∃ v u, Row Y g5 25 #[.int .i64 ver, v, u] ∧ Y.ownsRow w.heap.size 47 5 v es.length (rowE es) ∧ Y.ownsRow w.heap.size 58 2 u L.length (rowS L)
  inn : ∀ j (h : j < L.length), Inn w Y (L[j]).2 (P j)
theorem Dt.step {P : Nat → Nat → Prop} (h : Dt W w b g4 g5 ver es L P Y) (hs : Src W b Y') (hg : Y.grownBy Y' (some b)) : Dt W w b g4 g5 ver es L P Y' := by
  have bl := h.bl
  have l4 := h.l4
  have l5 := h.l5
  obtain ⟨v, u, r, o1, o2⟩ := h.row
  have k1 : v.ownBlock ≠ some b := fun q => by have := (o1.lt b q).1; omega
  have k2 : u.ownBlock ≠ some b := fun q => by have := (o2.lt b q).1; omega
  exact ⟨hs, grown_trans h.gro hg, bl, l4, l5, h.n45, h.r4.grown hg (fun q => by injection q; omega), ⟨v, u, r.grown hg (fun q => by injection q; omega), o1.kept hg (.inr k1), o2.kept hg (.inr k2)⟩, fun j hj => (h.inn j hj).step hg (fun g cur hg' hr q => by injection q; omega)⟩
theorem Dt.under {P : Nat → Nat → Prop} (h : Dt W w b g4 g5 ver es L P Y) (hb : Below Y.heap.size Y Y') : Dt W w b g4 g5 ver es L P Y' := h.step (h.src.under hb) (grown_below hb)
end
/-- A block that is one's own or a row of one's own is written: what the frame says. -/
theorem gro_own {w Y Y' : World} {b base size n : Nat} {e : TypeId} {v : Value} {xs : List Value} (h : w.grownBy Y (some b)) (hb : w.heap.size ≤ base) (ho : Y.ownsRow base e size v n xs) (hg : Y.grownBy Y' v.ownBlock) : w.grownBy Y' (some b) :=
  ⟨hg.os.trans h.os, hg.tape.trans h.tape, hg.output.trans h.output, Nat.le_trans h.size hg.size, fun i hi hne => (hg.block i (Nat.lt_of_lt_of_le hi h.size) (fun q => by have := (ho.lt i q.symm).1; omega)).trans (h.block i hi hne)⟩
theorem gro_set {w Y : World} {b g j : Nat} {u : Value} (h : w.grownBy Y (some b)) (hg : w.heap.size ≤ g) : w.grownBy (Y.setCell ⟨g, j, none⟩ u) (some b) :=
  ⟨h.os, h.tape, h.output, by simp [World.setCell]; exact h.size, fun i hi hne => (Below.heap_setCell Y ⟨g, j, none⟩ u i (fun q => by simp at q; omega)).trans (h.block i hi hne)⟩
theorem src_put {W Y : World} {b g j : Nat} {u : Value} (h : Src W b Y) (hg : W.heap.size ≤ g) (hb : g ≠ b) : Src W b (Y.setCell ⟨g, j, none⟩ u) := by
  obtain ⟨A, n, cp, k, h1, h2, h3, h4⟩ := h.row
  exact ⟨h.base, h.below.setCell (p := ⟨g, j, none⟩) hg _, A, n, cp, k, h1, h2, (Below.heap_setCell Y ⟨g, j, none⟩ u b (Ne.symm hb)).trans h3, h4⟩
theorem row_ne {Y : World} {g g' : Nat} {t t' : TypeId} {cs cs' : Array Value} (h : Row Y g t cs) (h' : Row Y g' t' cs') (hne : t ≠ t') : g ≠ g' := by
  rintro rfl
  unfold Row at h h'
  rw [h] at h'
  injection h' with h'
  injection h' with _ h'
  exact hne h'
/-- An entry more. -/
theorem Dt.appE {W w Y Y' : World} {b g4 g5 : Nat} {ver : Int} {es : List En} {L : List (Int × Value)} {P : Nat → Nat → Prop} (h : Dt W w b g4 g5 ver es L P Y) (x : En) {v u v' : Value}
    (hr : Row Y g5 25 #[.int .i64 ver, v, u]) (ho : Y.ownsRow w.heap.size 47 5 v es.length (rowE es)) (hu : Y.ownsRow w.heap.size 58 2 u L.length (rowS L))
    (ho' : Y'.ownsRow w.heap.size 47 5 v' (es.length + 1) (rowE es ++ encE x)) (hg : Y.grownBy Y' v.ownBlock) (hd : u.ownBlock = none ∨ u.ownBlock ≠ v.ownBlock) :
    Dt W w b g4 g5 ver (es ++ [x]) L P (Y'.setCell ⟨g5, 1, none⟩ v') ∧ Row Y' g5 25 #[.int .i64 ver, v, u] := by
  have bl := h.bl
  have l4 := h.l4
  have l5 := h.l5
  have hW := h.src.base
  have r5 := hr.grown hg (own_ne ho hr (by decide))
  have r4 := h.r4.grown hg (own_ne ho h.r4 (by decide))
  have hne' := own_ne ho' r5 (by decide)
  have hu1 := hu.kept hg hd
  have hue := own_ne hu1 r5 (by decide)
  refine ⟨⟨src_put (src_own h.src bl (by omega) ho hg) (by omega) (by omega), gro_set (gro_own h.gro (Nat.le_refl _) ho hg) l5, bl, l4, l5, h.n45, r4.far (p := ⟨g5, 1, none⟩) (Ne.symm h.n45) _, ⟨v', u, r5.put 1 _, ?_, hu1.kept grown_put ?_⟩, fun j hj => ((h.inn j hj).step hg (fun g cur hg' hr' q => absurd q (own_ne ho hr' (by decide)))).step grown_put (fun g cur hg' hr' q => by injection q with q; exact row_ne hr' r5 (by decide) q)⟩, r5⟩
  · rw [rowE_snoc, List.length_append, List.length_singleton]
    refine ho'.kept grown_put ?_
    cases hv : v'.ownBlock
    · exact .inl rfl
    · exact .inr (fun q => hne' (by rw [hv, ← q]))
  · cases hv : u.ownBlock
    · exact .inl rfl
    · exact .inr (fun q => hue (by rw [hv, ← q]))
/-- A sequence more. -/
theorem Dt.appS {W w Y Y' : World} {b g4 g5 : Nat} {ver : Int} {es : List En} {L : List (Int × Value)} {P : Nat → Nat → Prop} (h : Dt W w b g4 g5 ver es L P Y) (c : Int) (q : Value) {v u u' : Value}
    (hr : Row Y g5 25 #[.int .i64 ver, v, u]) (ho : Y.ownsRow w.heap.size 47 5 v es.length (rowE es)) (hu : Y.ownsRow w.heap.size 58 2 u L.length (rowS L))
    (hq : Inn w Y q (P L.length)) (hu' : Y'.ownsRow w.heap.size 58 2 u' (L.length + 1) (rowS L ++ [.int .i64 c, q])) (hg : Y.grownBy Y' u.ownBlock) (hd : v.ownBlock = none ∨ v.ownBlock ≠ u.ownBlock) :
    Dt W w b g4 g5 ver es (L ++ [(c, q)]) P (Y'.setCell ⟨g5, 2, none⟩ u') ∧ Row Y' g5 25 #[.int .i64 ver, v, u] := by
  have bl := h.bl
  have l4 := h.l4
  have l5 := h.l5
  have hW := h.src.base
  have r5 := hr.grown hg (own_ne hu hr (by decide))
  have r4 := h.r4.grown hg (own_ne hu h.r4 (by decide))
  have hne' := own_ne hu' r5 (by decide)
  have hv1 := ho.kept hg hd
  have hve := own_ne hv1 r5 (by decide)
  have st : ∀ u P, Inn w Y u P → Inn w (Y'.setCell ⟨g5, 2, none⟩ u') u P := fun _ _ hi => (hi.step hg (fun g cur hg' hr' q => absurd q (own_ne hu hr' (by decide)))).step grown_put (fun g cur hg' hr' q => by injection q with q; exact row_ne hr' r5 (by decide) q)
  refine ⟨⟨src_put (src_own h.src bl (by omega) hu hg) (by omega) (by omega), gro_set (gro_own h.gro (Nat.le_refl _) hu hg) l5, bl, l4, l5, h.n45, r4.far (p := ⟨g5, 2, none⟩) (Ne.symm h.n45) _, ⟨v, u', r5.put 2 _, hv1.kept grown_put ?_, ?_⟩, fun j hj => ?_⟩, r5⟩
  · cases hv : v.ownBlock
    · exact .inl rfl
    · exact .inr (fun q => hve (by rw [hv, ← q]))
  · rw [rowS_snoc, List.length_append, List.length_singleton]
    refine hu'.kept grown_put ?_
    cases hv : u'.ownBlock
    · exact .inl rfl
    · exact .inr (fun q => hne' (by rw [hv, ← q]))
  · by_cases hlt : j < L.length
    · rw [List.getElem_append_left hlt]
      exact st _ _ (h.inn j hlt)
    · have e : j = L.length := by simp at hj; omega
      subst e
      rw [List.getElem_append_right (Nat.le_refl _)]
      simp only [Nat.sub_self, List.getElem_cons_zero]
      exact st _ _ hq
theorem own_apart {Y : World} {base s s' n n' : Nat} {e e' : TypeId} {v v' : Value} {xs xs' : List Value} (h : Y.ownsRow base e s v n xs) (h' : Y.ownsRow base e' s' v' n' xs') (hne : e ≠ e') : v.ownBlock = none ∨ v.ownBlock ≠ v'.ownBlock := by
  rcases h.2 with ⟨rfl, _⟩ | ⟨g, cap, cur, rfl, _, hh, _⟩
  · exact .inl rfl
  · refine .inr (fun q => ?_)
    have hr : Row Y g e cur := hh
    exact own_ne h' hr (Ne.symm hne) (by rw [← q]; rfl)
end Go.Proofs.YtjaopjhfjijdaaaDoor
namespace Go.Proofs.YtjaopjhfjijdaaaDoor
open Go.RowKit

/-- A sequence that is made: its box gq, its codes in memory of their own since the world Y0. -/
def Dq (W : World) (b : Nat) (Y0 : World) (gq : Nat) (c : Int) (C : List Int) (v : Value) (Y : World) : Prop :=
  Src W b Y ∧ Y0.grownBy Y (some b) ∧ Y0.heap.size ≤ gq ∧ b < Y0.heap.size ∧ (∀ x ∈ C, cdP x) ∧ Row Y gq 58 #[.int .i64 c, v] ∧ Y.ownsRow Y0.heap.size 3 1 v C.length (C.map (Value.int .i64))
section
variable {W w Y0 Y Y' : World} {b g4 g5 gq : Nat} {c ver : Int} {C : List Int} {v u : Value} {es : List En} {L : List (Int × Value)} {P Q : Nat → Nat → Prop}
theorem Dq.start (hs : Src W b Y0) (c : Int) : Dq W b Y0 Y0.heap.size c [] (.slice none 0 0) (Y0.alloc (.cells #[.int .i64 c, .slice none 0 0] 58)) := by
  have hb := (Below.refl Y0.heap.size Y0).alloc (Nat.le_refl _) (.cells #[.int .i64 c, .slice none 0 0] 58)
  refine ⟨hs.under hb, grown_below hb, Nat.le_refl _, ?_, fun x hx => absurd hx List.not_mem_nil, Row.new _ _ _, World.ownsRow_nil _ _ _ _⟩
  obtain ⟨_, _, _, _, _, _, h3, _⟩ := hs.row
  exact (Array.getElem?_eq_some_iff.1 h3).1
theorem Dq.step (h : Dq W b Y0 gq c C v Y) (hs : Src W b Y') (hg : Y.grownBy Y' (some b)) : Dq W b Y0 gq c C v Y' := by
  obtain ⟨h1, h2, h3, h4, h5, h6, h7⟩ := h
  exact ⟨hs, grown_trans h2 hg, h3, h4, h5, h6.grown hg (fun q => by injection q; omega), h7.kept hg (.inr (fun q => by have := (h7.lt b q).1; omega))⟩
theorem Dq.under (h : Dq W b Y0 gq c C v Y) (hb : Below Y.heap.size Y Y') : Dq W b Y0 gq c C v Y' := h.step (h.1.under hb) (grown_below hb)
theorem Dq.app (h : Dq W b Y0 gq c C v Y) {y : Int} (hy : cdP y) {v' : Value} (ho' : Y'.ownsRow Y0.heap.size 3 1 v' (C.length + 1) (C.map (Value.int .i64) ++ [y].map (Value.int .i64))) (hg : Y.grownBy Y' v.ownBlock) :
    Dq W b Y0 gq c (C ++ [y]) v' (Y'.setCell ⟨gq, 1, none⟩ v') ∧ Row Y' gq 58 #[.int .i64 c, v] := by
  obtain ⟨h1, h2, h3, h4, h5, h6, h7⟩ := h
  have r := h6.grown hg (own_ne h7 h6 (by decide))
  have hne := own_ne ho' r (by decide)
  have hb := h1.base
  have hW := h1.below.size
  have hW0 : W.heap.size ≤ Y0.heap.size := by omega
  refine ⟨⟨src_put (src_own h1 h4 hW0 h7 hg) (by omega) (by omega), gro_set (gro_own h2 (Nat.le_refl _) h7 hg) h3, h3, h4, fun x hx => ?_, r.put 1 _, ?_⟩, r⟩
  · rcases List.mem_append.1 hx with hx | hx
    · exact h5 x hx
    · rw [List.mem_singleton.1 hx]; exact hy
  · rw [List.length_append, List.length_singleton, List.map_append]
    refine ho'.kept grown_put ?_
    cases hv : v'.ownBlock
    · exact .inl rfl
    · exact .inr (fun q => hne (by rw [hv, ← q]))
theorem Dq.inn (h : Dq W b Y0 gq c C v Y) (hl : C.length ≤ 3) (hw : w.heap.size ≤ Y0.heap.size) : Inn w Y v (fun _ => False) := Inn.own h.2.2.2.2.1 hl h.2.2.2.2.2.2 hw
theorem two_at {g : Nat} {t : TypeId} {x y : Value} (h : Row Y g t #[x, y]) : ∀ (j : Nat) (z : Value), [x, y][j]? = some z → Y.cell? ((⟨g, 0, none⟩ : Addr).add j) = some z := by
  intro j z hz
  rw [Addr.add_lit, Nat.zero_add]
  match j, hz with
  | 0, hz => rw [h.cell]; simpa using hz
  | 1, hz => rw [h.cell]; simpa using hz
  | j + 2, hz => simp at hz
theorem Dt.weak (h : Dt W w b g4 g5 ver es L P Y) (hq : ∀ j k, j < L.length → Q j k → P j k) : Dt W w b g4 g5 ver es L Q Y :=
  ⟨h.src, h.gro, h.bl, h.l4, h.l5, h.n45, h.r4, h.row, fun j hj => (h.inn j hj).weak (fun k => hq j k hj)⟩
theorem row_same {g : Nat} {t t' : TypeId} {cs cs' : Array Value} (h : Row Y g t cs) (h' : Row Y g t' cs') : cs = cs' := by
  unfold Row at h h'
  rw [h] at h'
  injection h' with h'
  injection h' with h' _
theorem Inn.mark {g n cap k : Nat} {cur : Array Value} {x : Int} {P : Nat → Prop} (h : Inn w Y (.slice (some ⟨g, 0, none⟩) n cap) P) (hr : Row Y g 3 cur) (hx : cur[k]? = some (.int .i64 x)) (hk : knd x ≠ 0) : Inn w Y (.slice (some ⟨g, 0, none⟩) n cap) (fun m => P m ∨ m = k) := by
  obtain ⟨n', h3, h⟩ := h
  refine ⟨n', h3, ?_⟩
  rcases h with ⟨q, -⟩ | ⟨g', cap', cur', a, b, c, d, e, f⟩
  · cases q
  · injection a with a1 a2 a3
    injection a1 with a1
    injection a1 with a1
    subst a1; subst a2; subst a3
    obtain rfl := row_same e hr
    refine .inr ⟨g, cap, _, rfl, b, c, d, e, fun m hm => ?_⟩
    obtain ⟨y, x1, x2, x3⟩ := f m hm
    refine ⟨y, x1, x2, fun pm => ?_⟩
    rcases pm with pm | rfl
    · exact x3 pm
    · rw [hx] at x1
      injection x1 with x1
      injection x1 with _ x1
      exact x1 ▸ hk
theorem Dt.mark {i g n cap k : Nat} {cur : Array Value} {x : Int} (h : Dt W w b g4 g5 ver es L P Y) (hi : i < L.length) (hv : (L[i]).2 = .slice (some ⟨g, 0, none⟩) n cap) (hr : Row Y g 3 cur) (hx : cur[k]? = some (.int .i64 x)) (hk : knd x ≠ 0) :
    Dt W w b g4 g5 ver es L (fun j m => P j m ∨ (j = i ∧ m = k)) Y := by
  refine ⟨h.src, h.gro, h.bl, h.l4, h.l5, h.n45, h.r4, h.row, fun j hj => ?_⟩
  by_cases e : j = i
  · subst e
    have := h.inn j hj
    rw [hv] at this ⊢
    exact (this.mark hr hx hk).weak (fun m q => q.imp id (fun q => q.2))
  · exact (h.inn j hj).weak (fun m q => q.resolve_right (fun q => e q.1))
theorem Dt.put {i g n cap k : Nat} {cur : Array Value} (h : Dt W w b g4 g5 ver es L P Y) (hi : i < L.length) (hv : (L[i]).2 = .slice (some ⟨g, 0, none⟩) n cap) (hr : Row Y g 3 cur) (hg : w.heap.size ≤ g) :
    Dt W w b g4 g5 ver es L (fun j m => P j m ∨ (j = i ∧ m = k)) (Y.setCell ⟨g, k, none⟩ (.int .i64 100)) := by
  have bl := h.bl
  have hW := h.src.base
  obtain ⟨v, u, r, o1, o2⟩ := h.row
  have n4 := row_ne hr h.r4 (by decide)
  have n5 := row_ne hr r (by decide)
  have e1 := own_ne o1 hr (by decide)
  have e2 := own_ne o2 hr (by decide)
  refine ⟨src_put h.src (by omega) (by omega), gro_set h.gro hg, bl, h.l4, h.l5, h.n45, h.r4.far (p := ⟨g, k, none⟩) n4 _, ⟨v, u, r.far (p := ⟨g, k, none⟩) n5 _, o1.kept grown_put (.inr (Ne.symm e1)), o2.kept grown_put (.inr (Ne.symm e2))⟩, fun j hj => ?_⟩
  by_cases e : j = i
  · subst e
    have := h.inn j hj
    rw [hv] at this ⊢
    exact (this.put_at hr).weak (fun m q => q.imp id (fun q => q.2))
  · exact ((h.inn j hj).put hr).weak (fun m q => q.resolve_right (fun q => e q.1))
theorem dt_done {i n cap : Nat} {A : Option Addr} {kk : Nat} (h : Dt W w b g4 g5 ver es L (fun j m => j < i ∨ (j = i ∧ m < kk)) Y) (hi : i < L.length) (hv : (L[i]).2 = .slice A n cap) (hk : n ≤ kk) : Dt W w b g4 g5 ver es L (fun j _ => j < i + 1) Y := by
  refine ⟨h.src, h.gro, h.bl, h.l4, h.l5, h.n45, h.r4, h.row, fun j hj => ?_⟩
  by_cases e : j = i
  · subst e
    obtain ⟨n', h3, h⟩ := h.inn j hj
    refine ⟨n', h3, h.imp id (fun ⟨g, cap', cur, a, b, c, d, e, f⟩ => ⟨g, cap', cur, a, b, c, d, e, fun m hm => ?_⟩)⟩
    rw [hv] at a
    injection a with _ a _
    obtain ⟨x, x1, x2, x3⟩ := f m hm
    exact ⟨x, x1, x2, fun _ => x3 (.inr ⟨rfl, by omega⟩)⟩
  · exact (h.inn j hj).weak (fun m q => .inl (by omega))
end
/-- The entries and the sequences that Table makes. -/
def EsP (es : List En) : Prop := ∀ i (h : i < es.length), (es[i]).1 = 100 * ((i : Int) + 1) ∧ okE es[i]
def LsP (L : List (Int × Value)) : Prop := L.length ≤ 3 ∧ ∀ i (h : i < L.length), (L[i]).1 = 10000 + (i : Int)
def SsP (ss : List Sq) : Prop := ss.length ≤ 3 ∧ ∀ i (h : i < ss.length), (ss[i]).1 = 10000 + (i : Int) ∧ (ss[i]).2.length ≤ 3 ∧ ∀ c ∈ (ss[i]).2, knd c ≠ 0
/-- A table of one's own: the rows of its entries and of its sequences, and the codes of these, none of which a reader's block holds. -/
def TbL (b base : Nat) (Y : World) (va vb : Value) (es : List En) (ss : List Sq) (L : List (Int × Value)) : Prop :=
  b < base ∧ (∀ e ∈ es, I64 e.1) ∧ Y.ownsRow base 47 5 va es.length (rowE es) ∧ Y.ownsRow base 58 2 vb L.length (rowS L) ∧ ∃ e : ss.length = L.length, ∀ j (h : j < L.length), (ss[j]'(e ▸ h)).1 = (L[j]).1 ∧ I64 (L[j]).1 ∧ NmO b Y (L[j]).2 (ss[j]'(e ▸ h)).2
theorem TbL.step {b base : Nat} {Y Y' : World} {va vb : Value} {es : List En} {ss : List Sq} {L : List (Int × Value)} (h : TbL b base Y va vb es ss L) (hg : Y.grownBy Y' (some b)) : TbL b base Y' va vb es ss L := by
  obtain ⟨hb, hI, o1, o2, el, hs⟩ := h
  exact ⟨hb, hI, o1.kept hg (.inr (fun q => by have := (o1.lt b q).1; omega)), o2.kept hg (.inr (fun q => by have := (o2.lt b q).1; omega)), el, fun j hj => ⟨(hs j hj).1, (hs j hj).2.1, (hs j hj).2.2.step hg⟩⟩
theorem TbL.under {b base : Nat} {Y Y' : World} {va vb : Value} {es : List En} {ss : List Sq} {L : List (Int × Value)} (h : TbL b base Y va vb es ss L) (hb : Below Y.heap.size Y Y') : TbL b base Y' va vb es ss L := h.step (grown_below hb)
/-- A sequence more. -/
theorem TbL.app {b base : Nat} {Y Y' : World} {va vb vb' : Value} {es : List En} {ss : List Sq} {L : List (Int × Value)} (h : TbL b base Y va vb es ss L) {c : Int} {q : Value} {C : List Int} (hc : I64 c) (hq : NmO b Y q C)
    (ho' : Y'.ownsRow base 58 2 vb' (L.length + 1) (rowS L ++ [.int .i64 c, q])) (hg : Y.grownBy Y' vb.ownBlock) : TbL b base Y' va vb' es (ss ++ [(c, C)]) (L ++ [(c, q)]) := by
  obtain ⟨hb, hI, o1, o2, el, hs⟩ := h
  have hr : ∀ g cur, g ≠ b → Row Y g 3 cur → some g ≠ vb.ownBlock := fun g cur _ r => own_ne o2 r (by decide)
  refine ⟨hb, hI, o1.kept hg (own_apart o1 o2 (by decide)), by rw [List.length_append, rowS_snoc]; exact ho', by rw [List.length_append, List.length_append, el]; rfl, fun j hj => ?_⟩
  rw [List.length_append, List.length_singleton] at hj
  by_cases e : j < L.length
  · have e' : j < ss.length := by omega
    obtain ⟨a1, a2, a3⟩ := hs j e
    rw [List.getElem_append_left e', List.getElem_append_left e]
    exact ⟨a1, a2, a3.step' hg hr⟩
  · obtain rfl : j = L.length := by omega
    rw [List.getElem_append_right (by omega), List.getElem_append_right (by omega)]
    simp only [el, Nat.sub_self, List.getElem_singleton]
    exact ⟨trivial, hc, hq.step' hg hr⟩
def TbO (b base : Nat) (Y : World) (t : Value) (ver : Int) (es : List En) (ss : List Sq) : Prop := ∃ v u, ∃ L : List (Int × Value), t = .agg #[.int .i64 ver, v, u] ∧ TbL b base Y v u es ss L
theorem TbO.step {b base : Nat} {Y Y' : World} {t : Value} {ver : Int} {es : List En} {ss : List Sq} (h : TbO b base Y t ver es ss) (hg : Y.grownBy Y' (some b)) : TbO b base Y' t ver es ss := by
  obtain ⟨v, u, L, e, h⟩ := h
  exact ⟨v, u, L, e, h.step hg⟩
theorem TbO.under {b base : Nat} {Y Y' : World} {t : Value} {ver : Int} {es : List En} {ss : List Sq} (h : TbO b base Y t ver es ss) (hb : Below Y.heap.size Y Y') : TbO b base Y' t ver es ss := h.step (grown_below hb)
theorem sq_of {b base : Nat} {Y : World} {u : Value} {L : List (Int × Value)} {ss : List Sq} (o2 : Y.ownsRow base 58 2 u L.length (rowS L)) (el : ss.length = L.length) (hs : ∀ j (h : j < L.length), (ss[j]'(el ▸ h)).1 = (L[j]).1 ∧ I64 (L[j]).1 ∧ NmO b Y (L[j]).2 (ss[j]'(el ▸ h)).2) : SqIn Y u ss := by
  rcases o2.2 with ⟨q, h0⟩ | ⟨g, cap, cur, q, _, _, hle, hmax, _⟩
  · have hL : ss = [] := List.eq_nil_of_length_eq_zero (by omega)
    subst q
    rw [hL]
    exact SqIn.nil _
  · subst q
    have hlt := (o2.lt g rfl).2
    refine ⟨some ⟨g, 0, none⟩, cap, by rw [el], by omega, by unfold maxLen at hmax; omega, fun i hi => ?_⟩
    have hi' : i < L.length := by omega
    obtain ⟨a1, a2, a3⟩ := hs i hi'
    refine ⟨g, 0, (L[i]).2, rfl, hlt, ?_, ?_, a3.1, ?_⟩
    · rw [Nat.zero_add, o2.cellAt (i * 2) (by omega), (rowS_at L i hi').1, a1]
    · rw [Nat.zero_add, o2.cellAt (i * 2 + 1) (by omega), (rowS_at L i hi').2]
    · rw [a1]; exact a2
theorem TbL.tb {b base : Nat} {Y : World} {va vb : Value} {ver : Int} {es : List En} {ss : List Sq} {L : List (Int × Value)} (h : TbL b base Y va vb es ss L) : TbIn Y (.agg #[.int .i64 ver, va, vb]) ver es ss := by
  obtain ⟨hb, hI, o1, o2, el, hs⟩ := h
  exact ⟨va, vb, rfl, EnIn.own hI o1, sq_of o2 el hs⟩
theorem TbO.tb {b base : Nat} {Y : World} {t : Value} {ver : Int} {es : List En} {ss : List Sq} (h : TbO b base Y t ver es ss) : TbIn Y t ver es ss := by
  obtain ⟨v, u, L, e, h⟩ := h
  subst e
  exact h.tb
theorem seqs_of {w Y : World} {b : Nat} (hb : b < w.heap.size) : ∀ (L : List (Int × Value)), (∀ j (h : j < L.length), Inn w Y (L[j]).2 (fun _ => True)) → ∃ ss : List Sq, ∃ e : ss.length = L.length, ∀ j (h : j < L.length), (ss[j]'(e ▸ h)).1 = (L[j]).1 ∧ NmO b Y (L[j]).2 (ss[j]'(e ▸ h)).2 ∧ (ss[j]'(e ▸ h)).2.length ≤ 3 ∧ ∀ c ∈ (ss[j]'(e ▸ h)).2, knd c ≠ 0
  | [], _ => ⟨[], rfl, fun j h => absurd h (Nat.not_lt_zero _)⟩
  | p :: r, h => by
    obtain ⟨ss, e, hs⟩ := seqs_of hb r (fun j hj => h (j + 1) (by simpa using hj))
    have h0 := h 0 (by simp)
    obtain ⟨C, h1, h2, h3⟩ := h0.nm (fun _ => trivial)
    refine ⟨(p.1, C) :: ss, by simp [e], fun j hj => ?_⟩
    cases j with
    | zero =>
      refine ⟨rfl, ⟨h1, fun g off n c q => ?_⟩, h2, h3⟩
      obtain ⟨n', -, ⟨q', -⟩ | ⟨g', cap, cur, q', -, -, hg, hrow, -⟩⟩ := h0
      · rw [show (p :: r)[0].2 = p.2 from rfl] at q'
        rw [show (p :: r)[0].2 = p.2 from rfl] at q
        rw [q'] at q; cases q
      · rw [show (p :: r)[0].2 = p.2 from rfl] at q'
        rw [show (p :: r)[0].2 = p.2 from rfl] at q
        rw [q'] at q
        injection q with q
        injection q with q
        injection q with q
        subst q
        exact ⟨by omega, cur, hrow⟩
    | succ j => exact hs j (by simpa using hj)
theorem Dt.final {W w Y : World} {b g4 g5 : Nat} {ver : Int} {es : List En} {L : List (Int × Value)} (h : Dt W w b g4 g5 ver es L (fun j _ => j < L.length) Y) {v u : Value} (_hr : Row Y g5 25 #[.int .i64 ver, v, u]) (ho : Y.ownsRow w.heap.size 47 5 v es.length (rowE es)) (hu : Y.ownsRow w.heap.size 58 2 u L.length (rowS L)) (he : EsP es) (hl : LsP L) :
    Row (((Y.setCell ⟨g4, 0, none⟩ (.int .i64 ver)).setCell ⟨g4, 1, none⟩ v).setCell ⟨g4, 2, none⟩ u) g4 25 #[.int .i64 ver, v, u] ∧ ∃ ss, TbO b w.heap.size (((Y.setCell ⟨g4, 0, none⟩ (.int .i64 ver)).setCell ⟨g4, 1, none⟩ v).setCell ⟨g4, 2, none⟩ u) (.agg #[.int .i64 ver, v, u]) ver es ss ∧ SsP ss ∧ Src W b (((Y.setCell ⟨g4, 0, none⟩ (.int .i64 ver)).setCell ⟨g4, 1, none⟩ v).setCell ⟨g4, 2, none⟩ u) ∧ w.grownBy (((Y.setCell ⟨g4, 0, none⟩ (.int .i64 ver)).setCell ⟨g4, 1, none⟩ v).setCell ⟨g4, 2, none⟩ u) (some b) := by
  have bl := h.bl
  have l4 := h.l4
  have hW := h.src.base
  have hg : Y.grownBy (((Y.setCell ⟨g4, 0, none⟩ (.int .i64 ver)).setCell ⟨g4, 1, none⟩ v).setCell ⟨g4, 2, none⟩ u) (some g4) := grown_trans (grown_trans grown_put grown_put) grown_put
  have e1 := own_ne ho h.r4 (by decide)
  have e2 := own_ne hu h.r4 (by decide)
  have o1 := ho.kept hg (.inr (Ne.symm e1))
  have o2 := hu.kept hg (.inr (Ne.symm e2))
  have r0 := h.r4.put 0 (.int .i64 ver)
  have r1 := r0.put 1 v
  refine ⟨r1.put 2 u, ?_⟩
  obtain ⟨ss, e, hs⟩ := seqs_of (w := w) (b := b) (Y := (((Y.setCell ⟨g4, 0, none⟩ (.int .i64 ver)).setCell ⟨g4, 1, none⟩ v).setCell ⟨g4, 2, none⟩ u)) bl L (fun j hj => ((h.inn j hj).weak (fun _ _ => hj)).step hg (fun g cur _ hr' q => by injection q with q; exact row_ne hr' h.r4 (by decide) q))
  refine ⟨ss, ⟨v, u, L, rfl, bl, fun x hx => ?_, o1, o2, e, fun j hj => ⟨(hs j hj).1, ?_, (hs j hj).2.1⟩⟩, ⟨by have := hl.1; omega, fun i hi => ?_⟩, src_put (src_put (src_put h.src (by omega) (by omega)) (by omega) (by omega)) (by omega) (by omega), gro_set (gro_set (gro_set h.gro l4) l4) l4⟩
  · obtain ⟨i, hi, rfl⟩ := List.getElem_of_mem hx
    have := knd_1.1 (he i hi).2.2.1
    exact ⟨by omega, by omega⟩
  · rw [hl.2 j hj]
    exact ⟨by omega, by have := hl.1; omega⟩
  · have hi' : i < L.length := by omega
    obtain ⟨a1, a2, a3, a4⟩ := hs i hi'
    exact ⟨by rw [a1, hl.2 i hi'], a3, a4⟩
end Go.Proofs.YtjaopjhfjijdaaaDoor
