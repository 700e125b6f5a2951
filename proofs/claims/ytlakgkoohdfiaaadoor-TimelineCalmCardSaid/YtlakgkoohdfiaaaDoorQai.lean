/- Texts of this proof. -/
import Derived.Test.YtlakgkoohdfiaaaDoorERDescA
import Derived.Test.YtlakgkoohdfiaaaDoorERDescB
import Derived.Test.YtlakgkoohdfiaaaDoorERDescC
import Derived.Test.YtlakgkoohdfiaaaDoorERDescD
import Derived.Test.YtlakgkoohdfiaaaDoorQaa
import Derived.Test.YtlakgkoohdfiaaaDoorQah
namespace Go.Proofs.YtlakgkoohdfiaaaDoor.El
open Go.RowKit

set_option maxHeartbeats 1000000 in
theorem refDescribe_no (c : Int) (w : World) (h : ¬ Elt.Ex c) :
    Calls Tryd.prog 59 #[.int .i64 c] w fun e w' => e = .returned (.tuple #[.agg #[.string ⟨#[]⟩, .int .i64 0, .int .i64 0, .int .i64 0], .int .i64 4]) ∧ Below w.heap.size w w' := by
  by_cases h1 : c < 1
  · clear h
    go_enter Tryd.func59, Tryd.ntmps59
    go_wp2
    exact bodyPost_ret (v := .tuple #[.agg #[.string ⟨#[]⟩, .int .i64 0, .int .i64 0, .int .i64 0], .int .i64 4]) (by simp [results, Tryd.results59, go_sem]) rfl ⟨rfl, (Below.refl _ _).alloc (Nat.le_refl _) _⟩
  · have h2 : 11 < c := by unfold Elt.Ex at h; omega
    clear h
    go_enter Tryd.func59, Tryd.ntmps59
    go_wp2
    exact bodyPost_ret (v := .tuple #[.agg #[.string ⟨#[]⟩, .int .i64 0, .int .i64 0, .int .i64 0], .int .i64 4]) (by simp [results, Tryd.results59, go_sem]) rfl ⟨rfl, (Below.refl _ _).alloc (Nat.le_refl _) _⟩
theorem refDescribe_yes (c : Int) (w : World) (h : Elt.Ex c) :
    Calls Tryd.prog 59 #[.int .i64 c] w fun e w' => e = .returned (.tuple #[infoV c, .int .i64 0]) ∧ Below w.heap.size w w' := by
  rcases eleven h with rfl | rfl | rfl | rfl | rfl | rfl | rfl | rfl | rfl | rfl | rfl
  · exact refDescribe1 w
  · exact refDescribe2 w
  · exact refDescribe3 w
  · exact refDescribe4 w
  · exact refDescribe5 w
  · exact refDescribe6 w
  · exact refDescribe7 w
  · exact refDescribe8 w
  · exact refDescribe9 w
  · exact refDescribe10 w
  · exact refDescribe11 w
end Go.Proofs.YtlakgkoohdfiaaaDoor.El


namespace Go.Proofs.YtlakgkoohdfiaaaDoor.El
open Go.RowKit

/-- What Some leaves: a valid reading, the reader as it should be, and nothing but the reader's block turned. -/
def Smd (W : World) (b : Nat) (c : Int) (w : World) (e : Ending) (w' : World) : Prop := ∃ v, Elt.Val c v ∧ e = .returned (rdV c v) ∧ Src W b w' ∧ w.grownBy w' (some b)
/-- What is known inside. -/
structure Sm (W : World) (b : Nat) (w0 : World) (gr gi gp : Nat) (c v : Int) (w : World) : Prop where
  src : Src W b w
  gro : w0.grownBy w (some b)
  res : Row w gr 81 #[.int .i64 0, .int .i64 0]
  inf : Row w gi 102 #[.string (S [Elt.lt c]), .int .i64 (Elt.lo c), .int .i64 (Elt.hi c), .int .i64 (Elt.dg c)]
  pl : Row w gp 81 #[.int .i64 c, .int .i64 v]
  ne : gr ≠ gp
  ni : gi ≠ gp
  nj : gr ≠ gi
  nr : w0.heap.size ≤ gr
  np : w0.heap.size ≤ gp
  br : gr ≠ b
  bi : gi ≠ b
  bp : gp ≠ b
  w0W : W.heap.size ≤ w0.heap.size
section
variable {W w0 w w' : World} {b gr gi gp : Nat} {c v : Int}
theorem Sm.step (h : Sm W b w0 gr gi gp c v w) (hs : Src W b w') (hg : w.grownBy w' (some b)) : Sm W b w0 gr gi gp c v w' :=
  ⟨hs, grown_trans h.gro hg, h.res.grown hg (fun e => h.br (by injection e)), h.inf.grown hg (fun e => h.bi (by injection e)), h.pl.grown hg (fun e => h.bp (by injection e)), h.ne, h.ni, h.nj, h.nr, h.np, h.br, h.bi, h.bp, h.w0W⟩
theorem Sm.under (h : Sm W b w0 gr gi gp c v w) (hb : Below w.heap.size w w') : Sm W b w0 gr gi gp c v w' := h.step (h.src.under hb) (grown_below hb)
theorem grown_set {a c : World} {B : Nat} {row : Option Nat} (h : a.grownBy c row) (g j : Nat) (u : Value) (hg : a.heap.size ≤ g) (hB : B = g) : a.grownBy (c.setCell ⟨B, j, none⟩ u) row := by
  subst hB
  exact ⟨h.os, h.tape, h.output, Nat.le_trans h.size (by simp), fun i hi hr => (Below.heap_setCell c ⟨B, j, none⟩ u i (fun e => by simp at e; omega)).trans (h.block i hi hr)⟩
theorem src_set {c : World} (h : Src W b c) (g j : Nat) (u : Value) (hg : W.heap.size ≤ g) (hb : g ≠ b) : Src W b (c.setCell ⟨g, j, none⟩ u) := by
  obtain ⟨A, n, cp, k, h1, h2, h3, h4⟩ := h.row
  exact ⟨h.base, h.below.setCell (p := ⟨g, j, none⟩) hg _, A, n, cp, k, h1, h2, (Below.heap_setCell c ⟨g, j, none⟩ u b (Ne.symm hb)).trans h3, h4⟩
theorem Sm.set (h : Sm W b w0 gr gi gp c v w) (x : Int) : Sm W b w0 gr gi gp c x (w.setCell ⟨gp, 1, none⟩ (.int .i64 x)) :=
  ⟨src_set h.src _ _ _ (Nat.le_trans h.w0W h.np) h.bp, grown_set h.gro gp 1 _ h.np rfl, h.res.far (Ne.symm h.ne) _, h.inf.far (Ne.symm h.ni) _, h.pl.put 1 _, h.ne, h.ni, h.nj, h.nr, h.np, h.br, h.bi, h.bp, h.w0W⟩
theorem Sm.sets (h : Sm W b w0 gr gi gp c v w) (u0 u1 : Value) :
    Src W b ((w.setCell ⟨gr, 0, none⟩ u0).setCell ⟨gr, 1, none⟩ u1) ∧ w0.grownBy ((w.setCell ⟨gr, 0, none⟩ u0).setCell ⟨gr, 1, none⟩ u1) (some b) ∧ Row ((w.setCell ⟨gr, 0, none⟩ u0).setCell ⟨gr, 1, none⟩ u1) gr 81 #[u0, u1] := by
  have hW := Nat.le_trans h.w0W h.nr
  exact ⟨src_set (src_set h.src _ _ _ hW h.br) _ _ _ hW h.br, grown_set (grown_set h.gro gr 0 _ h.nr rfl) gr 1 _ h.nr rfl, set2_row u0 u1 h.res⟩
end
theorem wide {c : Int} (h : Elt.Ex c) : Elt.lo c + 800 ≤ Elt.hi c := by
  have : ∀ k : Fin 11, Elt.leas.getD k 0 + 800 ≤ Elt.mosts.getD k 0 := by decide +kernel
  exact this ⟨(c - 1).toNat, by unfold Elt.Ex at h; omega⟩
theorem sum_pos {c : Int} (h : Elt.Ex c) : 0 ≤ Elt.lo c + Elt.hi c := by
  have : ∀ k : Fin 11, 0 ≤ Elt.leas.getD k 0 + Elt.mosts.getD k 0 := by decide +kernel
  exact this ⟨(c - 1).toNat, by unfold Elt.Ex at h; omega⟩
set_option maxRecDepth 100000 in
set_option maxHeartbeats 4000000 in
theorem some_any (W : World) (b : Nat) (w : World) (c : Int) (h : Src W b w) (hx : Elt.Ex c) :
    Calls Tryd.prog 89 #[.pointer (some ⟨b, 0, none⟩), .int .i64 c] w (Smd W b c w) := by
  obtain ⟨⟨e1, e2, e3, e4, e5⟩, e6, e7, -⟩ := Elt.facts hx
  have e8 := wide hx
  have hbl : b < w.heap.size := by
    obtain ⟨_, _, _, _, _, _, h3, _⟩ := h.row
    exact (Array.getElem?_eq_some_iff.1 h3).1
  have hW := h.below.size
  have r0 := Row.new w #[.int .i64 0, .int .i64 0] 81
  have s0 := h.under ((Below.refl _ _).alloc (Nat.le_refl _) (.cells #[.int .i64 0, .int .i64 0] 81))
  have g0 : w.grownBy (w.alloc (.cells #[.int .i64 0, .int .i64 0] 81)) (some b) := grown_below ((Below.refl _ _).alloc (Nat.le_refl _) _)
  have z0 : (w.alloc (.cells #[.int .i64 0, .int .i64 0] 81)).heap.size = w.heap.size + 1 := by simp
  have HD := Lib.hid (fun W => refDescribe_yes c W hx)
  have HX := Lib.hid hx
  simp only [infoV] at HD
  clear hx h e4 e5
  go_enter Tryd.func89, Tryd.ntmps89
  go_wp2_with fail
  generalize w.alloc (.cells #[.int .i64 0, .int .i64 0] 81) = W0 at *
  refine (HD.out _).mono ?_
  rintro e w1 ⟨rfl, g1⟩
  have s1 := s0.under g1
  have r1 := r0.under g1
  have g01 := grown_trans g0 (grown_below g1)
  have z1 : w.heap.size + 1 ≤ w1.heap.size := by rw [← z0]; exact g1.size
  clear s0 r0 g0 g1 z0 HD
  go_upto_region 2 with fail
  refine forget (fun Y => Src W b Y ∧ w.grownBy Y (some b) ∧ Row Y w.heap.size 81 #[.int .i64 0, .int .i64 0] ∧ Row Y w1.heap.size 102 #[.string (S [Elt.lt c]), .int .i64 (Elt.lo c), .int .i64 (Elt.hi c), .int .i64 (Elt.dg c)])
    ⟨s1.under ((Below.refl _ _).alloc (Nat.le_refl _) _), grown_trans g01 (grown_below ((Below.refl _ _).alloc (Nat.le_refl _) _)), r1.alloc _, Row.new _ _ _⟩ ?_
  clear s1 r1 g01
  generalize w1.heap.size = gi at *
  rintro Y ⟨sY, gY, rY, iY⟩
  obtain ⟨i0, i1, i2, i3⟩ := row4 iY
  go_wp2_with fail
  refine (range_any W b _ _ _ sY (by omega) (by omega) (by omega) (by omega)).mono ?_
  rintro e w2 ⟨x, ⟨x1, x2⟩, rfl, s2, g2⟩
  have z2 : gi < w2.heap.size := Nat.lt_of_lt_of_le iY.lt g2.size
  have M2 : Sm W b w w.heap.size gi w2.heap.size c x (w2.alloc (.cells #[.int .i64 c, .int .i64 x] 81)) :=
    ⟨s2.under ((Below.refl _ _).alloc (Nat.le_refl _) _), grown_trans (grown_trans gY g2) (grown_below ((Below.refl _ _).alloc (Nat.le_refl _) _)),
      (rY.grown g2 (by simp; omega)).alloc _, (iY.grown g2 (by simp; omega)).alloc _, Row.new _ _ _, by omega, by omega, by omega, Nat.le_refl _, by omega, by omega, by omega, by omega, hW⟩
  go_upto_region 3 with fail
  refine forget (Sm W b w w.heap.size gi w2.heap.size c x) M2 ?_
  clear M2 s2 g2 sY gY rY iY i0 i1 i2 i3 z2 z1 hbl hW
  generalize w2.heap.size = gp at *
  rintro V M
  go_wp2_with fail
  refine (n_any W b _ _ M.src (by omega) (by omega)).mono ?_
  rintro e w3 ⟨j, ⟨j1, j2⟩, rfl, s3, g3⟩
  have M3 := M.step s3 g3
  clear M s3 g3
  have hj : j = 0 ∨ j = 1 ∨ j = 2 ∨ (j ≠ 0 ∧ j ≠ 1 ∧ j ≠ 2) := by omega
  clear j1 j2
  rcases hj with rfl | rfl | rfl | ⟨n0, n1, n2⟩
  · obtain ⟨i0, i1, i2, i3⟩ := row4 M3.inf
    go_wp2_with fail
    have rl := Row.new w3 #[.int .i64 (Elt.lo c), .int .i64 (Elt.hi c)] 3
    have M4 := M3.under ((Below.refl _ _).alloc (Nat.le_refl _) (.cells #[.int .i64 (Elt.lo c), .int .i64 (Elt.hi c)] 3))
    have hgb : w3.heap.size ≠ b := by
      obtain ⟨_, _, _, _, _, _, h3, _⟩ := M3.src.row
      have := (Array.getElem?_eq_some_iff.1 h3).1
      omega
    clear M3 i0 i1 i2 i3
    generalize w3.alloc (.cells #[.int .i64 (Elt.lo c), .int .i64 (Elt.hi c)] 3) = W3 at *
    generalize w3.heap.size = gl at *
    refine (pick_any (fun x => Elt.lo c ≤ x ∧ x ≤ Elt.hi c) W b _ gl 2 2 M4.src (by omega) (by omega) hgb rl.lt (fun i hi => by
      rcases (by omega : i = 0 ∨ i = 1) with rfl | rfl
      · exact ⟨_, (rl.cell 0).trans rfl, by omega, by omega⟩
      · exact ⟨_, (rl.cell 1).trans rfl, by omega, by omega⟩)).mono ?_
    rintro e w5 ⟨u, ⟨u1, u2⟩, rfl, s5, g5⟩
    have M5 := M4.step s5 g5
    obtain ⟨p0, p1⟩ := row2 M5.pl
    have f1 := M5.pl.thaw 1
    have HV := Lib.hid (show Elt.Val c u from ⟨HX.out, u1, u2⟩)
    clear M4 rl s5 g5 hgb
    go_upto_region 9 with fail
    refine forget (Sm W b w w.heap.size gi gp c u) (M5.set u) ?_
    · clear M5 p0 p1 f1
      rintro Z M
      go_upto_region 9 with fail
      obtain ⟨⟨p0, p1⟩, ⟨q0, q1⟩⟩ : (Z.cell? ⟨gp, 0, none⟩ = some (.int .i64 c) ∧ Z.cell? ⟨gp, 1, none⟩ = some (.int .i64 u)) ∧ (Z.cell? ⟨w.heap.size, 0, none⟩ = some (.int .i64 0) ∧ Z.cell? ⟨w.heap.size, 1, none⟩ = some (.int .i64 0)) := ⟨row2 M.pl, row2 M.res⟩
      have f0 := M.res.thaw 0
      have f1 := M.res.thaw 1
      have HZ := Lib.hid (M.sets (.int .i64 c) (.int .i64 u))
      clear M
      go_wp2_with fail
      exact bodyPost_ret (v := rdV c u) (results_cell_row Tryd.results89 _ _ w.heap.size 81 _ (0, 0) _ rfl HZ.out.2.2 Tryd.underlying81 rfl (by kernel_rfl)) rfl ⟨u, HV.out, rfl, HZ.out.1, HZ.out.2.1⟩
  · obtain ⟨i0, i1, i2, i3⟩ := row4 M3.inf
    have e9 := sum_pos HX.out
    have tA : (Elt.lo c + Elt.hi c).tdiv 2 = (Elt.lo c + Elt.hi c) / 2 := Int.tdiv_eq_ediv_of_nonneg e9
    have x1 : IntKind.i64.wrap (Elt.lo c + Elt.hi c) = Elt.lo c + Elt.hi c := IntWalk.i64_in _ (by omega)
    have x2 : IntKind.i64.wrap ((Elt.lo c + Elt.hi c) / 2) = (Elt.lo c + Elt.hi c) / 2 := IntWalk.i64_in _ (by omega)
    go_upto_region 8 with fail
    refine wp_region_held_drew (S := fun w' : World => w'.cell? ⟨gi, 1, none⟩ = some (.int .i64 (Elt.lo c)) ∧ w'.cell? ⟨gi, 2, none⟩ = some (.int .i64 (Elt.hi c))) (by kernel_rfl) ⟨i1, i2⟩ (fun hHeld => ?_)
    refine wpAnyH_take (i := 0) (v := ?_) rfl (by kernel_rfl) (by kernel_rfl) (by kernel_rfl) (fun _ _ _ h => h) (Or.inl ⟨by rfl, ?_⟩) (by assumption) ?_
    case refine_2 => (intro wx hSx; (try dsimp only at hSx); go_simp; first | done | with_reducible rfl)
    try simp only [Act.put, List.setIfInBounds_toArray]
    refine wpAnyH_take (i := 1) (v := ?_) rfl (by kernel_rfl) (by kernel_rfl) (by kernel_rfl) (fun _ _ _ h => h) (Or.inl ⟨by rfl, ?_⟩) (by assumption) ?_
    case refine_2 => (intro wx hSx; (try dsimp only at hSx); go_simp; first | done | with_reducible rfl)
    try simp only [Act.put]
    refine wpAnyH_take (i := 2) (v := ?_) rfl (by kernel_rfl) (by kernel_rfl) (by kernel_rfl) (fun _ _ _ h => h) (Or.inl ⟨by rfl, ?_⟩) (by assumption) ?_
    case refine_2 => (intro wx hSx; (try dsimp only at hSx); go_simp; first | done | with_reducible rfl)
    try simp only [Act.put]
    refine wpAnyH_take (i := 3) (v := ?_) rfl (by kernel_rfl) (by kernel_rfl) (by kernel_rfl) (fun _ _ _ h => h) (Or.inl ⟨by rfl, ?_⟩) (by assumption) ?_
    case refine_2 => (intro wx hSx; (try dsimp only at hSx); go_simp; first | done | with_reducible rfl)
    try simp only [Act.put]
    refine wpAnyH_take (i := 4) (v := ?_) rfl (by kernel_rfl) (by kernel_rfl) (by kernel_rfl) (fun _ _ _ h => h) (Or.inl ⟨by rfl, ?_⟩) (by assumption) ?_
    case refine_2 => (intro wx hSx; (try dsimp only at hSx); go_simp; first | done | with_reducible rfl)
    try simp only [Act.put]
    refine wpAnyH_take (i := 5) (v := ?_) rfl (by kernel_rfl) (by kernel_rfl) (by kernel_rfl) (fun _ _ _ h => h) (Or.inl ⟨by rfl, ?_⟩) (by assumption) ?_
    case refine_2 => (intro wx hSx; (try dsimp only at hSx); go_simp; first | done | with_reducible rfl)
    try simp only [Act.put]
    refine wpAnyH_take (i := 6) (v := ?_) rfl (by kernel_rfl) (by kernel_rfl) (by kernel_rfl) (fun _ _ _ h => h) (Or.inl ⟨by rfl, ?_⟩) (by assumption) ?_
    case refine_2 => (intro wx hSx; (try dsimp only at hSx); go_simp; first | done | with_reducible rfl)
    try simp only [Act.put]
    refine wpAnyH_ready (rs := [7]) (by kernel_rfl) (by simp) ?_
    refine AllReadyH.cons rfl (fun K hK => ?_) AllReadyH.nil
    go_simp
    have sD : Src W b w3.drew := M3.src.under ⟨rfl, rfl, rfl, Nat.le_refl _, fun _ _ => rfl⟩
    refine (range_any W b _ _ _ sD (by omega) (by omega) (by omega) (by omega)).mono ?_
    rintro e w4 ⟨y, ⟨y1, y2⟩, rfl, s4, g4⟩
    have M4 := M3.step s4 ⟨g4.os, g4.tape, g4.output, g4.size, g4.block⟩
    obtain ⟨k0, k1, k2, k3⟩ := row4 M4.inf
    go_wp2_with fail
    refine hK.out _ _ ⟨k1, k2⟩ (fun hHeld2 => ?_)
    clear hK K hHeld
    try simp only [Act.put, List.setIfInBounds_toArray, List.set_cons_zero, List.set_cons_succ]
    obtain ⟨u, hu⟩ : ∃ u, (Elt.lo c + Elt.hi c) / 2 + y = u := ⟨_, rfl⟩
    have u1 : Elt.lo c ≤ u := by omega
    have u2 : u ≤ Elt.hi c := by omega
    have x3 : IntKind.i64.wrap ((Elt.lo c + Elt.hi c) / 2 + y) = u := by rw [hu]; exact IntWalk.i64_in _ (by omega)
    have HU := Lib.hid hu; clear hu
    refine wpAnyH_take (i := 8) (v := ?_) rfl (by kernel_rfl) (by kernel_rfl) (by kernel_rfl) (fun _ _ _ h => h) (Or.inl ⟨by rfl, ?_⟩) (by assumption) ?_
    case refine_2 => (intro wx hSx; (try dsimp only at hSx); go_simp; first | done | with_reducible rfl)
    try simp only [Act.put, List.setIfInBounds_toArray]
    refine wpAnyH_take (i := 9) (v := ?_) rfl (by kernel_rfl) (by kernel_rfl) (by kernel_rfl) (fun _ _ _ h => h) (Or.inl ⟨by rfl, ?_⟩) (by assumption) ?_
    case refine_2 => (intro wx hSx; (try dsimp only at hSx); go_simp; first | done | with_reducible rfl)
    try simp only [Act.put]
    obtain ⟨p0, p1⟩ := row2 M4.pl
    have f1 := M4.pl.thaw 1
    refine wpAnyH_ready (rs := [10]) (by kernel_rfl) (by simp) ?_
    refine AllReadyH.cons rfl (fun K hK => ?_) AllReadyH.nil
    go_simp
    have M5 := M4.set u
    have MH := row4 M5.inf
    refine hK.out _ _ ⟨MH.2.1, MH.2.2.1⟩ (fun hHeld3 => ?_)
    clear hK K hHeld2
    try simp only [Act.put, List.setIfInBounds_toArray, List.set_cons_zero, List.set_cons_succ]
    refine wpAnyH_done (by kernel_rfl) ?_ _
    have HV := Lib.hid (show Elt.Val c u from ⟨HX.out, u1, u2⟩)
    obtain ⟨⟨a0, a1⟩, ⟨d0, d1⟩⟩ : ((w4.setCell ⟨gp, 1, none⟩ (.int .i64 u)).cell? ⟨gp, 0, none⟩ = some (.int .i64 c) ∧ (w4.setCell ⟨gp, 1, none⟩ (.int .i64 u)).cell? ⟨gp, 1, none⟩ = some (.int .i64 u)) ∧ ((w4.setCell ⟨gp, 1, none⟩ (.int .i64 u)).cell? ⟨w.heap.size, 0, none⟩ = some (.int .i64 0) ∧ (w4.setCell ⟨gp, 1, none⟩ (.int .i64 u)).cell? ⟨w.heap.size, 1, none⟩ = some (.int .i64 0)) := ⟨row2 M5.pl, row2 M5.res⟩
    have b0 := M5.res.thaw 0
    have b1 := M5.res.thaw 1
    have HZ := Lib.hid (M5.sets (.int .i64 c) (.int .i64 u))
    clear M3 M4 M5 p0 p1 f1 MH hHeld3 s4 g4 sD tA x1 x2 x3
    generalize w4.setCell ⟨gp, 1, none⟩ (.int .i64 u) = Z at *
    go_wp2_with fail
    exact bodyPost_ret (v := rdV c u) (results_cell_row Tryd.results89 _ _ w.heap.size 81 _ (0, 0) _ rfl HZ.out.2.2 Tryd.underlying81 rfl (by kernel_rfl)) rfl ⟨u, HV.out, rfl, HZ.out.1, HZ.out.2.1⟩
  · obtain ⟨i0, i1, i2, i3⟩ := row4 M3.inf
    have e9 := sum_pos HX.out
    have tA : (Elt.lo c + Elt.hi c).tdiv 2 = (Elt.lo c + Elt.hi c) / 2 := Int.tdiv_eq_ediv_of_nonneg e9
    have x1 : IntKind.i64.wrap (Elt.lo c + Elt.hi c) = Elt.lo c + Elt.hi c := IntWalk.i64_in _ (by omega)
    have x2 : IntKind.i64.wrap ((Elt.lo c + Elt.hi c) / 2) = (Elt.lo c + Elt.hi c) / 2 := IntWalk.i64_in _ (by omega)
    go_upto_region 8 with fail
    refine wp_region_held_drew (S := fun w' : World => w'.cell? ⟨gi, 1, none⟩ = some (.int .i64 (Elt.lo c)) ∧ w'.cell? ⟨gi, 2, none⟩ = some (.int .i64 (Elt.hi c))) (by kernel_rfl) ⟨i1, i2⟩ (fun hHeld => ?_)
    refine wpAnyH_take (i := 0) (v := ?_) rfl (by kernel_rfl) (by kernel_rfl) (by kernel_rfl) (fun _ _ _ h => h) (Or.inl ⟨by rfl, ?_⟩) (by assumption) ?_
    case refine_2 => (intro wx hSx; (try dsimp only at hSx); go_simp; first | done | with_reducible rfl)
    try simp only [Act.put, List.setIfInBounds_toArray]
    refine wpAnyH_take (i := 1) (v := ?_) rfl (by kernel_rfl) (by kernel_rfl) (by kernel_rfl) (fun _ _ _ h => h) (Or.inl ⟨by rfl, ?_⟩) (by assumption) ?_
    case refine_2 => (intro wx hSx; (try dsimp only at hSx); go_simp; first | done | with_reducible rfl)
    try simp only [Act.put]
    refine wpAnyH_take (i := 2) (v := ?_) rfl (by kernel_rfl) (by kernel_rfl) (by kernel_rfl) (fun _ _ _ h => h) (Or.inl ⟨by rfl, ?_⟩) (by assumption) ?_
    case refine_2 => (intro wx hSx; (try dsimp only at hSx); go_simp; first | done | with_reducible rfl)
    try simp only [Act.put]
    refine wpAnyH_take (i := 3) (v := ?_) rfl (by kernel_rfl) (by kernel_rfl) (by kernel_rfl) (fun _ _ _ h => h) (Or.inl ⟨by rfl, ?_⟩) (by assumption) ?_
    case refine_2 => (intro wx hSx; (try dsimp only at hSx); go_simp; first | done | with_reducible rfl)
    try simp only [Act.put]
    refine wpAnyH_take (i := 4) (v := ?_) rfl (by kernel_rfl) (by kernel_rfl) (by kernel_rfl) (fun _ _ _ h => h) (Or.inl ⟨by rfl, ?_⟩) (by assumption) ?_
    case refine_2 => (intro wx hSx; (try dsimp only at hSx); go_simp; first | done | with_reducible rfl)
    try simp only [Act.put]
    refine wpAnyH_take (i := 5) (v := ?_) rfl (by kernel_rfl) (by kernel_rfl) (by kernel_rfl) (fun _ _ _ h => h) (Or.inl ⟨by rfl, ?_⟩) (by assumption) ?_
    case refine_2 => (intro wx hSx; (try dsimp only at hSx); go_simp; first | done | with_reducible rfl)
    try simp only [Act.put]
    refine wpAnyH_take (i := 6) (v := ?_) rfl (by kernel_rfl) (by kernel_rfl) (by kernel_rfl) (fun _ _ _ h => h) (Or.inl ⟨by rfl, ?_⟩) (by assumption) ?_
    case refine_2 => (intro wx hSx; (try dsimp only at hSx); go_simp; first | done | with_reducible rfl)
    try simp only [Act.put]
    refine wpAnyH_ready (rs := [7]) (by kernel_rfl) (by simp) ?_
    refine AllReadyH.cons rfl (fun K hK => ?_) AllReadyH.nil
    go_simp
    have sD : Src W b w3.drew := M3.src.under ⟨rfl, rfl, rfl, Nat.le_refl _, fun _ _ => rfl⟩
    refine (range_any W b _ _ _ sD (by omega) (by omega) (by omega) (by omega)).mono ?_
    rintro e w4 ⟨y, ⟨y1, y2⟩, rfl, s4, g4⟩
    have M4 := M3.step s4 ⟨g4.os, g4.tape, g4.output, g4.size, g4.block⟩
    obtain ⟨k0, k1, k2, k3⟩ := row4 M4.inf
    go_wp2_with fail
    refine hK.out _ _ ⟨k1, k2⟩ (fun hHeld2 => ?_)
    clear hK K hHeld
    try simp only [Act.put, List.setIfInBounds_toArray, List.set_cons_zero, List.set_cons_succ]
    obtain ⟨u, hu⟩ : ∃ u, (Elt.lo c + Elt.hi c) / 2 + y = u := ⟨_, rfl⟩
    have u1 : Elt.lo c ≤ u := by omega
    have u2 : u ≤ Elt.hi c := by omega
    have x3 : IntKind.i64.wrap ((Elt.lo c + Elt.hi c) / 2 + y) = u := by rw [hu]; exact IntWalk.i64_in _ (by omega)
    have HU := Lib.hid hu; clear hu
    refine wpAnyH_take (i := 8) (v := ?_) rfl (by kernel_rfl) (by kernel_rfl) (by kernel_rfl) (fun _ _ _ h => h) (Or.inl ⟨by rfl, ?_⟩) (by assumption) ?_
    case refine_2 => (intro wx hSx; (try dsimp only at hSx); go_simp; first | done | with_reducible rfl)
    try simp only [Act.put, List.setIfInBounds_toArray]
    refine wpAnyH_take (i := 9) (v := ?_) rfl (by kernel_rfl) (by kernel_rfl) (by kernel_rfl) (fun _ _ _ h => h) (Or.inl ⟨by rfl, ?_⟩) (by assumption) ?_
    case refine_2 => (intro wx hSx; (try dsimp only at hSx); go_simp; first | done | with_reducible rfl)
    try simp only [Act.put]
    obtain ⟨p0, p1⟩ := row2 M4.pl
    have f1 := M4.pl.thaw 1
    refine wpAnyH_ready (rs := [10]) (by kernel_rfl) (by simp) ?_
    refine AllReadyH.cons rfl (fun K hK => ?_) AllReadyH.nil
    go_simp
    have M5 := M4.set u
    have MH := row4 M5.inf
    refine hK.out _ _ ⟨MH.2.1, MH.2.2.1⟩ (fun hHeld3 => ?_)
    clear hK K hHeld2
    try simp only [Act.put, List.setIfInBounds_toArray, List.set_cons_zero, List.set_cons_succ]
    refine wpAnyH_done (by kernel_rfl) ?_ _
    have HV := Lib.hid (show Elt.Val c u from ⟨HX.out, u1, u2⟩)
    obtain ⟨⟨a0, a1⟩, ⟨d0, d1⟩⟩ : ((w4.setCell ⟨gp, 1, none⟩ (.int .i64 u)).cell? ⟨gp, 0, none⟩ = some (.int .i64 c) ∧ (w4.setCell ⟨gp, 1, none⟩ (.int .i64 u)).cell? ⟨gp, 1, none⟩ = some (.int .i64 u)) ∧ ((w4.setCell ⟨gp, 1, none⟩ (.int .i64 u)).cell? ⟨w.heap.size, 0, none⟩ = some (.int .i64 0) ∧ (w4.setCell ⟨gp, 1, none⟩ (.int .i64 u)).cell? ⟨w.heap.size, 1, none⟩ = some (.int .i64 0)) := ⟨row2 M5.pl, row2 M5.res⟩
    have b0 := M5.res.thaw 0
    have b1 := M5.res.thaw 1
    have HZ := Lib.hid (M5.sets (.int .i64 c) (.int .i64 u))
    clear M3 M4 M5 p0 p1 f1 MH hHeld3 s4 g4 sD tA x1 x2 x3
    generalize w4.setCell ⟨gp, 1, none⟩ (.int .i64 u) = Z at *
    go_wp2_with fail
    exact bodyPost_ret (v := rdV c u) (results_cell_row Tryd.results89 _ _ w.heap.size 81 _ (0, 0) _ rfl HZ.out.2.2 Tryd.underlying81 rfl (by kernel_rfl)) rfl ⟨u, HV.out, rfl, HZ.out.1, HZ.out.2.1⟩
  · have q0 : (j == 0) = false := beq_eq_false_iff_ne.2 n0
    have q1 : (j == 1) = false := beq_eq_false_iff_ne.2 n1
    have q2 : (j == 2) = false := beq_eq_false_iff_ne.2 n2
    have HV := Lib.hid (show Elt.Val c x from ⟨HX.out, x1, x2⟩)
    clear n0 n1 n2
    go_upto_region 9 with fail
    refine forget (Sm W b w w.heap.size gi gp c x) M3 ?_
    · clear M3
      rintro Z M
      go_upto_region 9 with fail
      obtain ⟨⟨p0, p1⟩, ⟨q0, q1⟩⟩ : (Z.cell? ⟨gp, 0, none⟩ = some (.int .i64 c) ∧ Z.cell? ⟨gp, 1, none⟩ = some (.int .i64 x)) ∧ (Z.cell? ⟨w.heap.size, 0, none⟩ = some (.int .i64 0) ∧ Z.cell? ⟨w.heap.size, 1, none⟩ = some (.int .i64 0)) := ⟨row2 M.pl, row2 M.res⟩
      have f0 := M.res.thaw 0
      have f1 := M.res.thaw 1
      have HZ := Lib.hid (M.sets (.int .i64 c) (.int .i64 x))
      clear M
      go_wp2_with fail
      exact bodyPost_ret (v := rdV c x) (results_cell_row Tryd.results89 _ _ w.heap.size 81 _ (0, 0) _ rfl HZ.out.2.2 Tryd.underlying81 rfl (by kernel_rfl)) rfl ⟨x, HV.out, rfl, HZ.out.1, HZ.out.2.1⟩
end Go.Proofs.YtlakgkoohdfiaaaDoor.El

