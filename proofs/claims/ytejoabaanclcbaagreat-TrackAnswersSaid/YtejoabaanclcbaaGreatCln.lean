/- The cells of a grid: what is known while they are collected; a cell more. -/
import Derived.Test.YtejoabaanclcbaaGreatQae
import Derived.Test.YtejoabaanclcbaaGreatAdj
import Derived.Deep.RegionHeld3
import Derived.Deep.AppendLies
namespace Go.Proofs.YtejoabaanclcbaaGreat
open Go.RowKit Go.Maps

/-- The cells of triples. -/
def tc (t : Lat.Tr) : List Value := [.int .i64 (t.1 : Int), .int .i64 (t.2.1 : Int), .int .i64 (t.2.2 : Int)]
def tcs (L : List Lat.Tr) : List Value := L.flatMap tc
theorem tcs_snoc (L : List Lat.Tr) (t : Lat.Tr) : tcs (L ++ [t]) = tcs L ++ tc t := by simp [tcs]
theorem tc_one (t : Lat.Tr) : ∀ u ∈ tc t, u.oneCell' = true := by
  intro u hu
  simp only [tc, List.mem_cons, List.not_mem_nil, or_false] at hu
  rcases hu with rfl | rfl | rfl <;> rfl
theorem tcs_len (L : List Lat.Tr) : (tcs L).length = L.length * 3 := by
  induction L with
  | nil => rfl
  | cons x L ih => simp [tcs, tc] at *; omega
/-- The lattice is kept by whatever turns one block that is neither its own nor its nodes'. -/
theorem La.keep {W w w' : World} {n gl g' : Nat} (h : La W n gl w) (hg : w.grownBy w' (some g')) (h1 : gl ≠ g') (h2 : W.heap.size ≤ g') (h3 : ∃ cs t, w.heap[g']? = some (.cells cs t (0, 0)) ∧ t ≠ 32) : La W n gl w' := by
  obtain ⟨g, cap, k1, k2⟩ := h.nds
  have hl : some gl ≠ some g' := fun e => h1 (Option.some.inj e)
  refine ⟨below_by h.below h.below.size h2 hg, h.gl0, Nat.lt_of_lt_of_le h.lt hg.size, ⟨g, cap, (hg.cell_far ⟨gl, 0, none⟩ h.lt hl).trans k1, k2.kept hg (.inr ?_)⟩, fun f a b hf hab => (hg.cell_far ⟨gl, 1 + f * 81 + a * 9 + b, none⟩ h.lt hl).trans (h.idx f a b hf hab)⟩
  intro e
  obtain ⟨cs, t, hh, ht⟩ := h3
  have e1 : g = g' := by simpa [Value.ownBlock] using e
  subst e1
  rcases k2.2 with ⟨e, _⟩ | ⟨g2, cap2, cur2, e, _, hh2, _⟩
  · cases e
  · injection e with e
    injection e with e
    injection e with e
    subst e
    rw [hh2] at hh
    injection hh with hh
    injection hh with _ ht2
    exact ht ht2.symm
theorem own_heap {w : World} {base size n g cap : Nat} {e : TypeId} {xs : List Value} (h : w.ownsRow base e size (.slice (some ⟨g, 0, none⟩) n cap) n xs) : base ≤ g ∧ g < w.heap.size ∧ n ≤ cap ∧ cap ≤ maxLen ∧ ∃ cs, w.heap[g]? = some (.cells cs e (0, 0)) := by
  rcases h.2 with ⟨e, _⟩ | ⟨g2, cap2, cur2, e, hb, hh2, hle, hmax, _⟩
  · cases e
  · injection e with e e2 e3
    injection e with e
    injection e with e
    subst e e3
    exact ⟨hb, (Array.getElem?_eq_some_iff.1 hh2).1, hle, hmax, _, hh2⟩
theorem row1 {w : World} {b : Nat} {t : TypeId} {x : Value} (h : Row w b t #[x]) : w.cell? ⟨b, 0, none⟩ = some x := (h.cell 0).trans rfl
/-- What is known while the cells are collected: the lattice, the two captured variables, the list. -/
structure Cl (W : World) (n gl bl bv g cap : Nat) (L : List Lat.Tr) (w : World) : Prop where
  la : La W n gl w
  pl : Row w bl 156 #[.pointer (some ⟨gl, 0, none⟩)]
  vr : Row w bv 150 #[.slice (some ⟨g, 0, none⟩) L.length cap]
  own : w.ownsRow W.heap.size 130 3 (.slice (some ⟨g, 0, none⟩) L.length cap) L.length (tcs L)
  bv0 : W.heap.size ≤ bv
  ne : gl ≠ g
  nv : gl ≠ bv
section
variable {W w w' : World} {n gl bl bv g cap : Nat} {L : List Lat.Tr}
theorem Cl.under (h : Cl W n gl bl bv g cap L w) (hb : Below w.heap.size w w') : Cl W n gl bl bv g cap L w' :=
  ⟨h.la.under hb, h.pl.under hb, h.vr.under hb, own_under h.own hb, h.bv0, h.ne, h.nv⟩
theorem Cl.drew (h : Cl W n gl bl bv g cap L w) : Cl W n gl bl bv g cap L w.drew := ⟨h.la.drew, h.pl, h.vr, h.own, h.bv0, h.ne, h.nv⟩
/-- Behind an append and the store of the new list. -/
theorem Cl.more {g' cap' : Nat} {t : Lat.Tr} (h : Cl W n gl bl bv g cap L w) (ho : w'.ownsRow W.heap.size 130 3 (.slice (some ⟨g', 0, none⟩) (L.length + 1) cap') (L.length + 1) (tcs L ++ tc t)) (hg : w.grownBy w' (some g)) (hat : some g = some g' ∨ g' = w.heap.size) :
    Row w' bl 156 #[.pointer (some ⟨gl, 0, none⟩)] ∧ Row w' bv 150 #[.slice (some ⟨g, 0, none⟩) L.length cap] ∧ Cl W n gl bl bv g' cap' (L ++ [t]) (w'.setCell ⟨bv, 0, none⟩ (.slice (some ⟨g', 0, none⟩) (L.length + 1) cap')) := by
  obtain ⟨k1, k2, k3, k4, cs, k5⟩ := own_heap h.own
  have r1 := h.pl.grown hg (own_ne h.own h.pl (by decide))
  have r2 := h.vr.grown hg (own_ne h.own h.vr (by decide))
  have l1 := h.la.keep hg h.ne k1 ⟨cs, _, k5, by decide⟩
  have hgl := h.la.lt
  have ne' : gl ≠ g' := by
    rcases hat with e | e
    · rw [← Option.some.inj e]; exact h.ne
    · omega
  have hs := grown_one w' bv 0 (.slice (some ⟨g', 0, none⟩) (L.length + 1) cap')
  obtain ⟨m1, m2, m3, m4, cs', m5⟩ := own_heap ho
  have hne : g' ≠ bv := by
    rintro rfl
    have := r2
    unfold Row at this
    rw [m5] at this
    injection this with this
    injection this with _ this
    exact absurd this (by decide)
  have hbl : bl ≠ bv := by
    rintro rfl
    have a := r1
    have b := r2
    unfold Row at a b
    rw [a] at b
    injection b with b
    injection b with _ b
    exact absurd b (by decide)
  refine ⟨r1, r2, l1.keep hs h.nv h.bv0 ⟨_, _, r2, by decide⟩, r1.grown hs (fun e => hbl (Option.some.inj e)), ?_, ?_, h.bv0, ne', h.nv⟩
  · have := r2.put 0 (.slice (some ⟨g', 0, none⟩) (L.length + 1) cap')
    simpa using this
  · rw [tcs_snoc, List.length_append]
    exact ho.kept hs (.inr (by simpa [Value.ownBlock] using hne))
end
/-- What add leaves. -/
def AddR (W : World) (n gl bl bv : Nat) (L : List Lat.Tr) (_w0 : World) (e : Ending) (w : World) : Prop := e = .returned (.tuple #[]) ∧ Below W.heap.size W w ∧ ∃ g cap, Cl W n gl bl bv g cap L w
theorem infoTrip : (Tryz.prog.info? 130).map (fun i => (i.zero, i.size, i.bytes)) = some (some (.agg #[.int .i64 0, .int .i64 0, .int .i64 0]), 3, 24) := by kernel_rfl
set_option maxRecDepth 100000 in
set_option maxHeartbeats 8000000 in
theorem add_any (W : World) (n gl bl bv g cap f a0 b0 a1 b1 a2 b2 : Nat) (c0 c1 c2 : Int) (L : List Lat.Tr) (w : World) (h : Cl W n gl bl bv g cap L w) (hn : Lat.frq n) (hf : f < 20) (h0 : a0 + b0 ≤ n) (h1 : a1 + b1 ≤ n) (h2 : a2 + b2 ≤ n) (hl : L.length ≤ 5000) :
    Calls Tryz.prog 126 #[.agg (tr12 f a0 b0 c0 a1 b1 c1 a2 b2 c2), .pointer (some ⟨bv, 0, none⟩), .pointer (some ⟨bl, 0, none⟩)] w (AddR W n gl bl bv (L ++ [(Lat.idx n f a0 b0, Lat.idx n f a1 b1, Lat.idx n f a2 b2)]) w) := by
  obtain ⟨i0, hi, hz0, hz1, hz2⟩ := info_parts infoTrip
  have HN := Lib.hid hn; clear hn
  have HAB := Lib.hid (And.intro h0 (And.intro h1 h2)); clear h0 h1 h2
  go_enter Tryz.func126, Tryz.ntmps126
  go_upto_region 1 with fail
  have HC := (⟨h.under ((Below.refl _ _).alloc (Nat.le_refl _) _), Row.new _ _ _⟩ : Cl W n gl bl bv g cap L (w.alloc (.cells (tr12 f a0 b0 c0 a1 b1 c1 a2 b2 c2) 137)) ∧ Row (w.alloc (.cells (tr12 f a0 b0 c0 a1 b1 c1 a2 b2 c2) 137)) w.heap.size 137 (tr12 f a0 b0 c0 a1 b1 c1 a2 b2 c2))
  have HNT := Lib.hid (show w.heap.size ≠ bv by have := h.vr.lt; omega)
  clear h
  refine forget (fun Y => Cl W n gl bl bv g cap L Y ∧ Row Y w.heap.size 137 (tr12 f a0 b0 c0 a1 b1 c1 a2 b2 c2)) HC ?_
  clear HC
  generalize w.heap.size = gt at *
  rintro Y hY
  have HC := Lib.hid (⟨hY.1.drew, hY.2.drew⟩ : Cl W n gl bl bv g cap L Y.drew ∧ Row Y.drew gt 137 (tr12 f a0 b0 c0 a1 b1 c1 a2 b2 c2))
  clear hY
  refine wp_region_held_drew (S := (fun w' : World => w'.cell? ⟨bl, 0, none⟩ = some (.pointer (some ⟨gl, 0, none⟩)) ∧ ((w'.cell? ⟨gt, 0, none⟩ = some (.int .i64 f) ∧ w'.cell? ⟨gt, 1, none⟩ = some (.int .i64 a0) ∧ w'.cell? ⟨gt, 2, none⟩ = some (.int .i64 b0) ∧ w'.cell? ⟨gt, 3, none⟩ = some (.int .i64 c0) ∧ w'.cell? ⟨gt, 4, none⟩ = some (.int .i64 f) ∧ w'.cell? ⟨gt, 5, none⟩ = some (.int .i64 a1)) ∧ (w'.cell? ⟨gt, 6, none⟩ = some (.int .i64 b1) ∧ w'.cell? ⟨gt, 7, none⟩ = some (.int .i64 c1) ∧ w'.cell? ⟨gt, 8, none⟩ = some (.int .i64 f) ∧ w'.cell? ⟨gt, 9, none⟩ = some (.int .i64 a2) ∧ w'.cell? ⟨gt, 10, none⟩ = some (.int .i64 b2) ∧ w'.cell? ⟨gt, 11, none⟩ = some (.int .i64 c2))))) (by kernel_rfl) ⟨row1 HC.out.1.pl, row12 HC.out.2⟩ (fun hHeld => ?_)
  generalize Y.drew = X5 at HC hHeld ⊢
  refine tk 1 rfl ?_
  try go_frame
  refine tk 2 rfl ?_
  try go_frame
  refine tk 3 rfl ?_
  try go_frame
  refine tk 5 rfl ?_
  try go_frame
  refine tk 6 rfl ?_
  try go_frame
  refine tk 7 rfl ?_
  try go_frame
  refine tk 9 rfl ?_
  try go_frame
  refine tk 10 rfl ?_
  try go_frame
  refine tk 11 rfl ?_
  try go_frame
  refine wpAnyH_ready (rs := [0, 4]) (by kernel_rfl) (by simp) ?_
  refine AllReadyH.cons (o := ⟨some 4, _, _, _, _, none⟩) rfl (fun Kx hK => ?_) (AllReadyH.cons (o := ⟨some 8, _, _, _, _, none⟩) rfl (fun Kx hK => ?_) AllReadyH.nil)
  · have P1 := row1 HC.out.1.vr
    go_simp
    clear P1 hHeld
    refine hK.out _ _ ⟨row1 HC.out.1.pl, row12 HC.out.2⟩ (fun hHeld => ?_)
    clear hK Kx
    try go_frame
    refine wpAnyH_ready (rs := [4]) (by kernel_rfl) (by simp) ?_
    refine AllReadyH.cons (o := ⟨some 8, _, _, _, _, none⟩) rfl (fun Kx hK => ?_) AllReadyH.nil
    go_simp
    refine (find_any W n gl f a0 b0 c0 _ HC.out.1.la HN.out hf HAB.out.1).mono ?_
    rintro e w6 ⟨rfl, hb6⟩
    have HC := Lib.hid (⟨HC.out.1.under hb6, HC.out.2.under hb6⟩ : Cl W n gl bl bv g cap L _ ∧ Row _ gt 137 (tr12 f a0 b0 c0 a1 b1 c1 a2 b2 c2))
    clear hb6
    go_wp2_with fail
    clear hHeld
    refine hK.out _ _ ⟨row1 HC.out.1.pl, row12 HC.out.2⟩ (fun hHeld => ?_)
    clear hK Kx
    try go_frame
    refine wpAnyH_ready (rs := [8]) (by kernel_rfl) (by simp) ?_
    refine AllReadyH.cons (o := ⟨some 12, _, _, _, _, none⟩) rfl (fun Kx hK => ?_) AllReadyH.nil
    go_simp
    refine (find_any W n gl f a1 b1 c1 _ HC.out.1.la HN.out hf HAB.out.2.1).mono ?_
    rintro e w7 ⟨rfl, hb7⟩
    have HC := Lib.hid (⟨HC.out.1.under hb7, HC.out.2.under hb7⟩ : Cl W n gl bl bv g cap L _ ∧ Row _ gt 137 (tr12 f a0 b0 c0 a1 b1 c1 a2 b2 c2))
    clear hb7
    go_wp2_with fail
    clear hHeld
    refine hK.out _ _ ⟨row1 HC.out.1.pl, row12 HC.out.2⟩ (fun hHeld => ?_)
    clear hK Kx
    try go_frame
    refine wpAnyH_ready (rs := [12]) (by kernel_rfl) (by simp) ?_
    refine AllReadyH.cons (o := ⟨some 16, _, _, _, _, none⟩) rfl (fun Kx hK => ?_) AllReadyH.nil
    go_simp
    refine (find_any W n gl f a2 b2 c2 _ HC.out.1.la HN.out hf HAB.out.2.2).mono ?_
    rintro e w8 ⟨rfl, hb8⟩
    have HC := Lib.hid (⟨HC.out.1.under hb8, HC.out.2.under hb8⟩ : Cl W n gl bl bv g cap L _ ∧ Row _ gt 137 (tr12 f a0 b0 c0 a1 b1 c1 a2 b2 c2))
    clear hb8
    go_wp2_with fail
    clear hHeld
    refine hK.out _ _ ⟨row1 HC.out.1.pl, row12 HC.out.2⟩ (fun hHeld => ?_)
    clear hK Kx
    try go_frame
    refine tk 13 rfl ?_
    try go_frame
    refine wpAnyH_ready (rs := [14]) (by kernel_rfl) (by simp) ?_
    refine AllReadyH.cons (o := ⟨some 18, _, _, _, _, none⟩) rfl (fun Kx hK => ?_) AllReadyH.nil
    go_simp
    have HC := Lib.hid (⟨HC.out.1.under ((Below.refl _ _).alloc (Nat.le_refl _) _), HC.out.2.under ((Below.refl _ _).alloc (Nat.le_refl _) _)⟩ : Cl W n gl bl bv g cap L (w8.alloc (.cells #[.int .i64 (Lat.idx n f a0 b0 : Nat), .int .i64 (Lat.idx n f a1 b1 : Nat), .int .i64 (Lat.idx n f a2 b2 : Nat)] 130)) ∧ Row (w8.alloc (.cells #[.int .i64 (Lat.idx n f a0 b0 : Nat), .int .i64 (Lat.idx n f a1 b1 : Nat), .int .i64 (Lat.idx n f a2 b2 : Nat)] 130)) gt 137 (tr12 f a0 b0 c0 a1 b1 c1 a2 b2 c2))
    clear hHeld
    refine hK.out _ _ ⟨row1 HC.out.1.pl, row12 HC.out.2⟩ (fun hHeld => ?_)
    clear hK Kx
    try go_frame
    refine wpAnyH_ready (rs := [15]) (by kernel_rfl) (by simp) ?_
    refine AllReadyH.cons (o := ⟨some 19, _, _, _, _, none⟩) rfl (fun Kx hK => ?_) AllReadyH.nil
    refine step_append_lies _ (by rfl) _ _ _ (by rfl) W.heap.size 130 i0 _ 3 24 Tryz.underlying150 hi hz0 hz1 hz2 rfl (by decide) (.slice (some ⟨g, 0, none⟩) L.length cap) L.length (tcs L) (by rfl) HC.out.1.own ⟨w8.heap.size, 0, none⟩ 1 1 (tc (Lat.idx n f a0 b0, Lat.idx n f a1 b1, Lat.idx n f a2 b2)) (by rfl) rfl (World.news_of_block (cs := #[.int .i64 (Lat.idx n f a0 b0 : Nat), .int .i64 (Lat.idx n f a1 b1 : Nat), .int .i64 (Lat.idx n f a2 b2 : Nat)]) (t := 130) (fr := (0, 0)) (heap_alloc_new w8 _)) (tc_one _) (by omega) (by unfold maxLen; omega) (by omega) HC.out.1.la.below.size (w8.alloc (.cells #[.int .i64 (Lat.idx n f a0 b0 : Nat), .int .i64 (Lat.idx n f a1 b1 : Nat), .int .i64 (Lat.idx n f a2 b2 : Nat)] 130)).heap.size rfl ?_
    intro g' cap' x hown1 hgrow hat hlt
    have HM := Lib.hid (Cl.more HC.out.1 hown1 hgrow hat)
    have hrt := HC.out.2.grown hgrow (own_ne HC.out.1.own HC.out.2 (by decide))
    clear hHeld
    refine hK.out _ _ ⟨row1 HM.out.1, row12 hrt⟩ (fun hHeld => ?_)
    have HRT := Lib.hid hrt
    have HB1 := Lib.hid (own_heap HC.out.1.own)
    clear hK Kx hown1 hgrow hat hlt HC hrt
    try go_frame
    have q0 := HM.out.2.1.thaw 0
    have p0 := row1 HM.out.2.1
    refine wpAnyH_ready (rs := [16]) (by kernel_rfl) (by simp) ?_
    refine AllReadyH.cons (o := ⟨none, _, _, _, _, none⟩) rfl (fun Kx hK => ?_) AllReadyH.nil
    go_simp
    clear q0 p0
    clear hHeld
    refine hK.out _ _ ⟨row1 HM.out.2.2.pl, row12 (HRT.out.far (p := ⟨bv, 0, none⟩) (fun e => by have := HRT.out.lt; exact HNT.out e.symm) _)⟩ (fun hHeld => ?_)
    clear hK Kx
    try go_frame
    refine wpAnyH_done (by kernel_rfl) ?_ _
    have HM := Lib.hid HM.out.2.2
    go_wp2_with fail
    go_end0
    exact ⟨rfl, HM.out.la.below, g', cap', HM.out⟩
  · go_simp
    refine (find_any W n gl f a0 b0 c0 _ HC.out.1.la HN.out hf HAB.out.1).mono ?_
    rintro e w6 ⟨rfl, hb6⟩
    have HC := Lib.hid (⟨HC.out.1.under hb6, HC.out.2.under hb6⟩ : Cl W n gl bl bv g cap L _ ∧ Row _ gt 137 (tr12 f a0 b0 c0 a1 b1 c1 a2 b2 c2))
    clear hb6
    go_wp2_with fail
    clear hHeld
    refine hK.out _ _ ⟨row1 HC.out.1.pl, row12 HC.out.2⟩ (fun hHeld => ?_)
    clear hK Kx
    try go_frame
    refine wpAnyH_ready (rs := [0, 8]) (by kernel_rfl) (by simp) ?_
    refine AllReadyH.cons (o := ⟨some 4, _, _, _, _, none⟩) rfl (fun Kx hK => ?_) (AllReadyH.cons (o := ⟨some 12, _, _, _, _, none⟩) rfl (fun Kx hK => ?_) AllReadyH.nil)
    · have P1 := row1 HC.out.1.vr
      go_simp
      clear P1 hHeld
      refine hK.out _ _ ⟨row1 HC.out.1.pl, row12 HC.out.2⟩ (fun hHeld => ?_)
      clear hK Kx
      try go_frame
      refine wpAnyH_ready (rs := [8]) (by kernel_rfl) (by simp) ?_
      refine AllReadyH.cons (o := ⟨some 12, _, _, _, _, none⟩) rfl (fun Kx hK => ?_) AllReadyH.nil
      go_simp
      refine (find_any W n gl f a1 b1 c1 _ HC.out.1.la HN.out hf HAB.out.2.1).mono ?_
      rintro e w7 ⟨rfl, hb7⟩
      have HC := Lib.hid (⟨HC.out.1.under hb7, HC.out.2.under hb7⟩ : Cl W n gl bl bv g cap L _ ∧ Row _ gt 137 (tr12 f a0 b0 c0 a1 b1 c1 a2 b2 c2))
      clear hb7
      go_wp2_with fail
      clear hHeld
      refine hK.out _ _ ⟨row1 HC.out.1.pl, row12 HC.out.2⟩ (fun hHeld => ?_)
      clear hK Kx
      try go_frame
      refine wpAnyH_ready (rs := [12]) (by kernel_rfl) (by simp) ?_
      refine AllReadyH.cons (o := ⟨some 16, _, _, _, _, none⟩) rfl (fun Kx hK => ?_) AllReadyH.nil
      go_simp
      refine (find_any W n gl f a2 b2 c2 _ HC.out.1.la HN.out hf HAB.out.2.2).mono ?_
      rintro e w8 ⟨rfl, hb8⟩
      have HC := Lib.hid (⟨HC.out.1.under hb8, HC.out.2.under hb8⟩ : Cl W n gl bl bv g cap L _ ∧ Row _ gt 137 (tr12 f a0 b0 c0 a1 b1 c1 a2 b2 c2))
      clear hb8
      go_wp2_with fail
      clear hHeld
      refine hK.out _ _ ⟨row1 HC.out.1.pl, row12 HC.out.2⟩ (fun hHeld => ?_)
      clear hK Kx
      try go_frame
      refine tk 13 rfl ?_
      try go_frame
      refine wpAnyH_ready (rs := [14]) (by kernel_rfl) (by simp) ?_
      refine AllReadyH.cons (o := ⟨some 18, _, _, _, _, none⟩) rfl (fun Kx hK => ?_) AllReadyH.nil
      go_simp
      have HC := Lib.hid (⟨HC.out.1.under ((Below.refl _ _).alloc (Nat.le_refl _) _), HC.out.2.under ((Below.refl _ _).alloc (Nat.le_refl _) _)⟩ : Cl W n gl bl bv g cap L (w8.alloc (.cells #[.int .i64 (Lat.idx n f a0 b0 : Nat), .int .i64 (Lat.idx n f a1 b1 : Nat), .int .i64 (Lat.idx n f a2 b2 : Nat)] 130)) ∧ Row (w8.alloc (.cells #[.int .i64 (Lat.idx n f a0 b0 : Nat), .int .i64 (Lat.idx n f a1 b1 : Nat), .int .i64 (Lat.idx n f a2 b2 : Nat)] 130)) gt 137 (tr12 f a0 b0 c0 a1 b1 c1 a2 b2 c2))
      clear hHeld
      refine hK.out _ _ ⟨row1 HC.out.1.pl, row12 HC.out.2⟩ (fun hHeld => ?_)
      clear hK Kx
      try go_frame
      refine wpAnyH_ready (rs := [15]) (by kernel_rfl) (by simp) ?_
      refine AllReadyH.cons (o := ⟨some 19, _, _, _, _, none⟩) rfl (fun Kx hK => ?_) AllReadyH.nil
      refine step_append_lies _ (by rfl) _ _ _ (by rfl) W.heap.size 130 i0 _ 3 24 Tryz.underlying150 hi hz0 hz1 hz2 rfl (by decide) (.slice (some ⟨g, 0, none⟩) L.length cap) L.length (tcs L) (by rfl) HC.out.1.own ⟨w8.heap.size, 0, none⟩ 1 1 (tc (Lat.idx n f a0 b0, Lat.idx n f a1 b1, Lat.idx n f a2 b2)) (by rfl) rfl (World.news_of_block (cs := #[.int .i64 (Lat.idx n f a0 b0 : Nat), .int .i64 (Lat.idx n f a1 b1 : Nat), .int .i64 (Lat.idx n f a2 b2 : Nat)]) (t := 130) (fr := (0, 0)) (heap_alloc_new w8 _)) (tc_one _) (by omega) (by unfold maxLen; omega) (by omega) HC.out.1.la.below.size (w8.alloc (.cells #[.int .i64 (Lat.idx n f a0 b0 : Nat), .int .i64 (Lat.idx n f a1 b1 : Nat), .int .i64 (Lat.idx n f a2 b2 : Nat)] 130)).heap.size rfl ?_
      intro g' cap' x hown1 hgrow hat hlt
      have HM := Lib.hid (Cl.more HC.out.1 hown1 hgrow hat)
      have hrt := HC.out.2.grown hgrow (own_ne HC.out.1.own HC.out.2 (by decide))
      clear hHeld
      refine hK.out _ _ ⟨row1 HM.out.1, row12 hrt⟩ (fun hHeld => ?_)
      have HRT := Lib.hid hrt
      have HB1 := Lib.hid (own_heap HC.out.1.own)
      clear hK Kx hown1 hgrow hat hlt HC hrt
      try go_frame
      have q0 := HM.out.2.1.thaw 0
      have p0 := row1 HM.out.2.1
      refine wpAnyH_ready (rs := [16]) (by kernel_rfl) (by simp) ?_
      refine AllReadyH.cons (o := ⟨none, _, _, _, _, none⟩) rfl (fun Kx hK => ?_) AllReadyH.nil
      go_simp
      clear q0 p0
      clear hHeld
      refine hK.out _ _ ⟨row1 HM.out.2.2.pl, row12 (HRT.out.far (p := ⟨bv, 0, none⟩) (fun e => by have := HRT.out.lt; exact HNT.out e.symm) _)⟩ (fun hHeld => ?_)
      clear hK Kx
      try go_frame
      refine wpAnyH_done (by kernel_rfl) ?_ _
      have HM := Lib.hid HM.out.2.2
      go_wp2_with fail
      go_end0
      exact ⟨rfl, HM.out.la.below, g', cap', HM.out⟩
    · go_simp
      refine (find_any W n gl f a1 b1 c1 _ HC.out.1.la HN.out hf HAB.out.2.1).mono ?_
      rintro e w7 ⟨rfl, hb7⟩
      have HC := Lib.hid (⟨HC.out.1.under hb7, HC.out.2.under hb7⟩ : Cl W n gl bl bv g cap L _ ∧ Row _ gt 137 (tr12 f a0 b0 c0 a1 b1 c1 a2 b2 c2))
      clear hb7
      go_wp2_with fail
      clear hHeld
      refine hK.out _ _ ⟨row1 HC.out.1.pl, row12 HC.out.2⟩ (fun hHeld => ?_)
      clear hK Kx
      try go_frame
      refine wpAnyH_ready (rs := [0, 12]) (by kernel_rfl) (by simp) ?_
      refine AllReadyH.cons (o := ⟨some 4, _, _, _, _, none⟩) rfl (fun Kx hK => ?_) (AllReadyH.cons (o := ⟨some 16, _, _, _, _, none⟩) rfl (fun Kx hK => ?_) AllReadyH.nil)
      · have P1 := row1 HC.out.1.vr
        go_simp
        clear P1 hHeld
        refine hK.out _ _ ⟨row1 HC.out.1.pl, row12 HC.out.2⟩ (fun hHeld => ?_)
        clear hK Kx
        try go_frame
        refine wpAnyH_ready (rs := [12]) (by kernel_rfl) (by simp) ?_
        refine AllReadyH.cons (o := ⟨some 16, _, _, _, _, none⟩) rfl (fun Kx hK => ?_) AllReadyH.nil
        go_simp
        refine (find_any W n gl f a2 b2 c2 _ HC.out.1.la HN.out hf HAB.out.2.2).mono ?_
        rintro e w8 ⟨rfl, hb8⟩
        have HC := Lib.hid (⟨HC.out.1.under hb8, HC.out.2.under hb8⟩ : Cl W n gl bl bv g cap L _ ∧ Row _ gt 137 (tr12 f a0 b0 c0 a1 b1 c1 a2 b2 c2))
        clear hb8
        go_wp2_with fail
        clear hHeld
        refine hK.out _ _ ⟨row1 HC.out.1.pl, row12 HC.out.2⟩ (fun hHeld => ?_)
        clear hK Kx
        try go_frame
        refine tk 13 rfl ?_
        try go_frame
        refine wpAnyH_ready (rs := [14]) (by kernel_rfl) (by simp) ?_
        refine AllReadyH.cons (o := ⟨some 18, _, _, _, _, none⟩) rfl (fun Kx hK => ?_) AllReadyH.nil
        go_simp
        have HC := Lib.hid (⟨HC.out.1.under ((Below.refl _ _).alloc (Nat.le_refl _) _), HC.out.2.under ((Below.refl _ _).alloc (Nat.le_refl _) _)⟩ : Cl W n gl bl bv g cap L (w8.alloc (.cells #[.int .i64 (Lat.idx n f a0 b0 : Nat), .int .i64 (Lat.idx n f a1 b1 : Nat), .int .i64 (Lat.idx n f a2 b2 : Nat)] 130)) ∧ Row (w8.alloc (.cells #[.int .i64 (Lat.idx n f a0 b0 : Nat), .int .i64 (Lat.idx n f a1 b1 : Nat), .int .i64 (Lat.idx n f a2 b2 : Nat)] 130)) gt 137 (tr12 f a0 b0 c0 a1 b1 c1 a2 b2 c2))
        clear hHeld
        refine hK.out _ _ ⟨row1 HC.out.1.pl, row12 HC.out.2⟩ (fun hHeld => ?_)
        clear hK Kx
        try go_frame
        refine wpAnyH_ready (rs := [15]) (by kernel_rfl) (by simp) ?_
        refine AllReadyH.cons (o := ⟨some 19, _, _, _, _, none⟩) rfl (fun Kx hK => ?_) AllReadyH.nil
        refine step_append_lies _ (by rfl) _ _ _ (by rfl) W.heap.size 130 i0 _ 3 24 Tryz.underlying150 hi hz0 hz1 hz2 rfl (by decide) (.slice (some ⟨g, 0, none⟩) L.length cap) L.length (tcs L) (by rfl) HC.out.1.own ⟨w8.heap.size, 0, none⟩ 1 1 (tc (Lat.idx n f a0 b0, Lat.idx n f a1 b1, Lat.idx n f a2 b2)) (by rfl) rfl (World.news_of_block (cs := #[.int .i64 (Lat.idx n f a0 b0 : Nat), .int .i64 (Lat.idx n f a1 b1 : Nat), .int .i64 (Lat.idx n f a2 b2 : Nat)]) (t := 130) (fr := (0, 0)) (heap_alloc_new w8 _)) (tc_one _) (by omega) (by unfold maxLen; omega) (by omega) HC.out.1.la.below.size (w8.alloc (.cells #[.int .i64 (Lat.idx n f a0 b0 : Nat), .int .i64 (Lat.idx n f a1 b1 : Nat), .int .i64 (Lat.idx n f a2 b2 : Nat)] 130)).heap.size rfl ?_
        intro g' cap' x hown1 hgrow hat hlt
        have HM := Lib.hid (Cl.more HC.out.1 hown1 hgrow hat)
        have hrt := HC.out.2.grown hgrow (own_ne HC.out.1.own HC.out.2 (by decide))
        clear hHeld
        refine hK.out _ _ ⟨row1 HM.out.1, row12 hrt⟩ (fun hHeld => ?_)
        have HRT := Lib.hid hrt
        have HB1 := Lib.hid (own_heap HC.out.1.own)
        clear hK Kx hown1 hgrow hat hlt HC hrt
        try go_frame
        have q0 := HM.out.2.1.thaw 0
        have p0 := row1 HM.out.2.1
        refine wpAnyH_ready (rs := [16]) (by kernel_rfl) (by simp) ?_
        refine AllReadyH.cons (o := ⟨none, _, _, _, _, none⟩) rfl (fun Kx hK => ?_) AllReadyH.nil
        go_simp
        clear q0 p0
        clear hHeld
        refine hK.out _ _ ⟨row1 HM.out.2.2.pl, row12 (HRT.out.far (p := ⟨bv, 0, none⟩) (fun e => by have := HRT.out.lt; exact HNT.out e.symm) _)⟩ (fun hHeld => ?_)
        clear hK Kx
        try go_frame
        refine wpAnyH_done (by kernel_rfl) ?_ _
        have HM := Lib.hid HM.out.2.2
        go_wp2_with fail
        go_end0
        exact ⟨rfl, HM.out.la.below, g', cap', HM.out⟩
      · go_simp
        refine (find_any W n gl f a2 b2 c2 _ HC.out.1.la HN.out hf HAB.out.2.2).mono ?_
        rintro e w8 ⟨rfl, hb8⟩
        have HC := Lib.hid (⟨HC.out.1.under hb8, HC.out.2.under hb8⟩ : Cl W n gl bl bv g cap L _ ∧ Row _ gt 137 (tr12 f a0 b0 c0 a1 b1 c1 a2 b2 c2))
        clear hb8
        go_wp2_with fail
        clear hHeld
        refine hK.out _ _ ⟨row1 HC.out.1.pl, row12 HC.out.2⟩ (fun hHeld => ?_)
        clear hK Kx
        try go_frame
        refine tk 13 rfl ?_
        try go_frame
        refine wpAnyH_ready (rs := [0, 14]) (by kernel_rfl) (by simp) ?_
        refine AllReadyH.cons (o := ⟨some 4, _, _, _, _, none⟩) rfl (fun Kx hK => ?_) (AllReadyH.cons (o := ⟨some 18, _, _, _, _, none⟩) rfl (fun Kx hK => ?_) AllReadyH.nil)
        · have P1 := row1 HC.out.1.vr
          go_simp
          clear P1 hHeld
          refine hK.out _ _ ⟨row1 HC.out.1.pl, row12 HC.out.2⟩ (fun hHeld => ?_)
          clear hK Kx
          try go_frame
          refine wpAnyH_ready (rs := [14]) (by kernel_rfl) (by simp) ?_
          refine AllReadyH.cons (o := ⟨some 18, _, _, _, _, none⟩) rfl (fun Kx hK => ?_) AllReadyH.nil
          go_simp
          have HC := Lib.hid (⟨HC.out.1.under ((Below.refl _ _).alloc (Nat.le_refl _) _), HC.out.2.under ((Below.refl _ _).alloc (Nat.le_refl _) _)⟩ : Cl W n gl bl bv g cap L (w8.alloc (.cells #[.int .i64 (Lat.idx n f a0 b0 : Nat), .int .i64 (Lat.idx n f a1 b1 : Nat), .int .i64 (Lat.idx n f a2 b2 : Nat)] 130)) ∧ Row (w8.alloc (.cells #[.int .i64 (Lat.idx n f a0 b0 : Nat), .int .i64 (Lat.idx n f a1 b1 : Nat), .int .i64 (Lat.idx n f a2 b2 : Nat)] 130)) gt 137 (tr12 f a0 b0 c0 a1 b1 c1 a2 b2 c2))
          clear hHeld
          refine hK.out _ _ ⟨row1 HC.out.1.pl, row12 HC.out.2⟩ (fun hHeld => ?_)
          clear hK Kx
          try go_frame
          refine wpAnyH_ready (rs := [15]) (by kernel_rfl) (by simp) ?_
          refine AllReadyH.cons (o := ⟨some 19, _, _, _, _, none⟩) rfl (fun Kx hK => ?_) AllReadyH.nil
          refine step_append_lies _ (by rfl) _ _ _ (by rfl) W.heap.size 130 i0 _ 3 24 Tryz.underlying150 hi hz0 hz1 hz2 rfl (by decide) (.slice (some ⟨g, 0, none⟩) L.length cap) L.length (tcs L) (by rfl) HC.out.1.own ⟨w8.heap.size, 0, none⟩ 1 1 (tc (Lat.idx n f a0 b0, Lat.idx n f a1 b1, Lat.idx n f a2 b2)) (by rfl) rfl (World.news_of_block (cs := #[.int .i64 (Lat.idx n f a0 b0 : Nat), .int .i64 (Lat.idx n f a1 b1 : Nat), .int .i64 (Lat.idx n f a2 b2 : Nat)]) (t := 130) (fr := (0, 0)) (heap_alloc_new w8 _)) (tc_one _) (by omega) (by unfold maxLen; omega) (by omega) HC.out.1.la.below.size (w8.alloc (.cells #[.int .i64 (Lat.idx n f a0 b0 : Nat), .int .i64 (Lat.idx n f a1 b1 : Nat), .int .i64 (Lat.idx n f a2 b2 : Nat)] 130)).heap.size rfl ?_
          intro g' cap' x hown1 hgrow hat hlt
          have HM := Lib.hid (Cl.more HC.out.1 hown1 hgrow hat)
          have hrt := HC.out.2.grown hgrow (own_ne HC.out.1.own HC.out.2 (by decide))
          clear hHeld
          refine hK.out _ _ ⟨row1 HM.out.1, row12 hrt⟩ (fun hHeld => ?_)
          have HRT := Lib.hid hrt
          have HB1 := Lib.hid (own_heap HC.out.1.own)
          clear hK Kx hown1 hgrow hat hlt HC hrt
          try go_frame
          have q0 := HM.out.2.1.thaw 0
          have p0 := row1 HM.out.2.1
          refine wpAnyH_ready (rs := [16]) (by kernel_rfl) (by simp) ?_
          refine AllReadyH.cons (o := ⟨none, _, _, _, _, none⟩) rfl (fun Kx hK => ?_) AllReadyH.nil
          go_simp
          clear q0 p0
          clear hHeld
          refine hK.out _ _ ⟨row1 HM.out.2.2.pl, row12 (HRT.out.far (p := ⟨bv, 0, none⟩) (fun e => by have := HRT.out.lt; exact HNT.out e.symm) _)⟩ (fun hHeld => ?_)
          clear hK Kx
          try go_frame
          refine wpAnyH_done (by kernel_rfl) ?_ _
          have HM := Lib.hid HM.out.2.2
          go_wp2_with fail
          go_end0
          exact ⟨rfl, HM.out.la.below, g', cap', HM.out⟩
        · go_simp
          have HC := Lib.hid (⟨HC.out.1.under ((Below.refl _ _).alloc (Nat.le_refl _) _), HC.out.2.under ((Below.refl _ _).alloc (Nat.le_refl _) _)⟩ : Cl W n gl bl bv g cap L (w8.alloc (.cells #[.int .i64 (Lat.idx n f a0 b0 : Nat), .int .i64 (Lat.idx n f a1 b1 : Nat), .int .i64 (Lat.idx n f a2 b2 : Nat)] 130)) ∧ Row (w8.alloc (.cells #[.int .i64 (Lat.idx n f a0 b0 : Nat), .int .i64 (Lat.idx n f a1 b1 : Nat), .int .i64 (Lat.idx n f a2 b2 : Nat)] 130)) gt 137 (tr12 f a0 b0 c0 a1 b1 c1 a2 b2 c2))
          clear hHeld
          refine hK.out _ _ ⟨row1 HC.out.1.pl, row12 HC.out.2⟩ (fun hHeld => ?_)
          clear hK Kx
          try go_frame
          refine wpAnyH_ready (rs := [0]) (by kernel_rfl) (by simp) ?_
          refine AllReadyH.cons (o := ⟨some 4, _, _, _, _, none⟩) rfl (fun Kx hK => ?_) AllReadyH.nil
          have P1 := row1 HC.out.1.vr
          go_simp
          clear P1 hHeld
          refine hK.out _ _ ⟨row1 HC.out.1.pl, row12 HC.out.2⟩ (fun hHeld => ?_)
          clear hK Kx
          try go_frame
          refine wpAnyH_ready (rs := [15]) (by kernel_rfl) (by simp) ?_
          refine AllReadyH.cons (o := ⟨some 19, _, _, _, _, none⟩) rfl (fun Kx hK => ?_) AllReadyH.nil
          refine step_append_lies _ (by rfl) _ _ _ (by rfl) W.heap.size 130 i0 _ 3 24 Tryz.underlying150 hi hz0 hz1 hz2 rfl (by decide) (.slice (some ⟨g, 0, none⟩) L.length cap) L.length (tcs L) (by rfl) HC.out.1.own ⟨w8.heap.size, 0, none⟩ 1 1 (tc (Lat.idx n f a0 b0, Lat.idx n f a1 b1, Lat.idx n f a2 b2)) (by rfl) rfl (World.news_of_block (cs := #[.int .i64 (Lat.idx n f a0 b0 : Nat), .int .i64 (Lat.idx n f a1 b1 : Nat), .int .i64 (Lat.idx n f a2 b2 : Nat)]) (t := 130) (fr := (0, 0)) (heap_alloc_new w8 _)) (tc_one _) (by omega) (by unfold maxLen; omega) (by omega) HC.out.1.la.below.size (w8.alloc (.cells #[.int .i64 (Lat.idx n f a0 b0 : Nat), .int .i64 (Lat.idx n f a1 b1 : Nat), .int .i64 (Lat.idx n f a2 b2 : Nat)] 130)).heap.size rfl ?_
          intro g' cap' x hown1 hgrow hat hlt
          have HM := Lib.hid (Cl.more HC.out.1 hown1 hgrow hat)
          have hrt := HC.out.2.grown hgrow (own_ne HC.out.1.own HC.out.2 (by decide))
          clear hHeld
          refine hK.out _ _ ⟨row1 HM.out.1, row12 hrt⟩ (fun hHeld => ?_)
          have HRT := Lib.hid hrt
          have HB1 := Lib.hid (own_heap HC.out.1.own)
          clear hK Kx hown1 hgrow hat hlt HC hrt
          try go_frame
          have q0 := HM.out.2.1.thaw 0
          have p0 := row1 HM.out.2.1
          refine wpAnyH_ready (rs := [16]) (by kernel_rfl) (by simp) ?_
          refine AllReadyH.cons (o := ⟨none, _, _, _, _, none⟩) rfl (fun Kx hK => ?_) AllReadyH.nil
          go_simp
          clear q0 p0
          clear hHeld
          refine hK.out _ _ ⟨row1 HM.out.2.2.pl, row12 (HRT.out.far (p := ⟨bv, 0, none⟩) (fun e => by have := HRT.out.lt; exact HNT.out e.symm) _)⟩ (fun hHeld => ?_)
          clear hK Kx
          try go_frame
          refine wpAnyH_done (by kernel_rfl) ?_ _
          have HM := Lib.hid HM.out.2.2
          go_wp2_with fail
          go_end0
          exact ⟨rfl, HM.out.la.below, g', cap', HM.out⟩
end Go.Proofs.YtejoabaanclcbaaGreat


