/- Contracts of the reference's Describe, in, ByLetter, Digits, Format.; The contract of the reference's Some: a valid reading of the element.; Lists of readings and of numbers as the program holds them; membership in a list of numbers. -/
import Derived.Test.YtneglkfcelpdgaaGreatDoorMn
import Derived.Test.YtneglkfcelpdgaaGreatDoorMo
import Derived.Test.YtneglkfcelpdgaaGreatDoorMp
import Derived.Test.YtneglkfcelpdgaaGreatDoorMq
import Derived.Test.YtneglkfcelpdgaaGreatDoorMa
import Derived.Test.YtneglkfcelpdgaaGreatDoorMm
import Derived.OwnWalk
namespace Go.Proofs.YtneglkfcelpdgaaGreatDoor.El
open Go.RowKit

set_option maxHeartbeats 1000000 in
theorem refDescribe_no (c : Int) (w : World) (h : ¬ Elt.Ex c) :
    Calls Tryz.prog 83 #[.int .i64 c] w fun e w' => e = .returned (.tuple #[.agg #[.string ⟨#[]⟩, .int .i64 0, .int .i64 0, .int .i64 0], .int .i64 4]) ∧ Below w.heap.size w w' := by
  by_cases h1 : c < 1
  · clear h
    go_enter Tryz.func83, Tryz.ntmps83
    go_wp2
    exact bodyPost_ret (v := .tuple #[.agg #[.string ⟨#[]⟩, .int .i64 0, .int .i64 0, .int .i64 0], .int .i64 4]) (by simp [results, Tryz.results83, go_sem]) rfl ⟨rfl, (Below.refl _ _).alloc (Nat.le_refl _) _⟩
  · have h2 : 11 < c := by unfold Elt.Ex at h; omega
    clear h
    go_enter Tryz.func83, Tryz.ntmps83
    go_wp2
    exact bodyPost_ret (v := .tuple #[.agg #[.string ⟨#[]⟩, .int .i64 0, .int .i64 0, .int .i64 0], .int .i64 4]) (by simp [results, Tryz.results83, go_sem]) rfl ⟨rfl, (Below.refl _ _).alloc (Nat.le_refl _) _⟩
theorem refDescribe_yes (c : Int) (w : World) (h : Elt.Ex c) :
    Calls Tryz.prog 83 #[.int .i64 c] w fun e w' => e = .returned (.tuple #[infoV c, .int .i64 0]) ∧ Below w.heap.size w w' := by
  rcases eleven h with rfl | rfl | rfl | rfl | rfl | rfl | rfl | rfl | rfl | rfl | rfl
  · exact refDescribe1 w
  · exact refDescribe2 w
  · exact refDescribe3 w
  · exact refDescribe4 w
  · exact refDescribe5 w
  · exact refDescribe6 w
  · exact refDescribe7 w
  · exact refDescribe8 w
  · exact refDescribe9 w
  · exact refDescribe10 w
  · exact refDescribe11 w
end Go.Proofs.YtneglkfcelpdgaaGreatDoor.El
namespace Go.Proofs.YtneglkfcelpdgaaGreatDoor.El
open Go.RowKit

/-- What Some leaves: a valid reading, the reader as it should be, and nothing but the reader's block turned. -/
def Smd (W : World) (b : Nat) (c : Int) (w : World) (e : Ending) (w' : World) : Prop := ∃ v, Elt.Val c v ∧ e = .returned (rdV c v) ∧ Src W b w' ∧ w.grownBy w' (some b)
/-- What is known inside. -/
structure Sm (W : World) (b : Nat) (w0 : World) (gr gi gp : Nat) (c v : Int) (w : World) : Prop where
  src : Src W b w
  gro : w0.grownBy w (some b)
  res : Row w gr 63 #[.int .i64 0, .int .i64 0]
  inf : Row w gi 100 #[.string (S [Elt.lt c]), .int .i64 (Elt.lo c), .int .i64 (Elt.hi c), .int .i64 (Elt.dg c)]
  pl : Row w gp 63 #[.int .i64 c, .int .i64 v]
  ne : gr ≠ gp
  ni : gi ≠ gp
  nj : gr ≠ gi
  nr : w0.heap.size ≤ gr
  np : w0.heap.size ≤ gp
  br : gr ≠ b
  bi : gi ≠ b
  bp : gp ≠ b
  w0W : W.heap.size ≤ w0.heap.size
section
variable {W w0 w w' : World} {b gr gi gp : Nat} {c v : Int}
theorem Sm.step (h : Sm W b w0 gr gi gp c v w) (hs : Src W b w') (hg : w.grownBy w' (some b)) : Sm W b w0 gr gi gp c v w' :=
  ⟨hs, grown_trans h.gro hg, h.res.grown hg (fun e => h.br (by injection e)), h.inf.grown hg (fun e => h.bi (by injection e)), h.pl.grown hg (fun e => h.bp (by injection e)), h.ne, h.ni, h.nj, h.nr, h.np, h.br, h.bi, h.bp, h.w0W⟩
theorem Sm.under (h : Sm W b w0 gr gi gp c v w) (hb : Below w.heap.size w w') : Sm W b w0 gr gi gp c v w' := h.step (h.src.under hb) (grown_below hb)
theorem grown_set {a c : World} {B : Nat} {row : Option Nat} (h : a.grownBy c row) (g j : Nat) (u : Value) (hg : a.heap.size ≤ g) (hB : B = g) : a.grownBy (c.setCell ⟨B, j, none⟩ u) row := by
  subst hB
  exact ⟨h.os, h.tape, h.output, Nat.le_trans h.size (by simp), fun i hi hr => (Below.heap_setCell c ⟨B, j, none⟩ u i (fun e => by simp at e; omega)).trans (h.block i hi hr)⟩
theorem src_set {c : World} (h : Src W b c) (g j : Nat) (u : Value) (hg : W.heap.size ≤ g) (hb : g ≠ b) : Src W b (c.setCell ⟨g, j, none⟩ u) := by
  obtain ⟨A, n, cp, k, h1, h2, h3, h4⟩ := h.row
  exact ⟨h.base, h.below.setCell (p := ⟨g, j, none⟩) hg _, A, n, cp, k, h1, h2, (Below.heap_setCell c ⟨g, j, none⟩ u b (Ne.symm hb)).trans h3, h4⟩
theorem Sm.set (h : Sm W b w0 gr gi gp c v w) (x : Int) : Sm W b w0 gr gi gp c x (w.setCell ⟨gp, 1, none⟩ (.int .i64 x)) :=
  ⟨src_set h.src _ _ _ (Nat.le_trans h.w0W h.np) h.bp, grown_set h.gro gp 1 _ h.np rfl, h.res.far (Ne.symm h.ne) _, h.inf.far (Ne.symm h.ni) _, h.pl.put 1 _, h.ne, h.ni, h.nj, h.nr, h.np, h.br, h.bi, h.bp, h.w0W⟩
theorem Sm.sets (h : Sm W b w0 gr gi gp c v w) (u0 u1 : Value) :
    Src W b ((w.setCell ⟨gr, 0, none⟩ u0).setCell ⟨gr, 1, none⟩ u1) ∧ w0.grownBy ((w.setCell ⟨gr, 0, none⟩ u0).setCell ⟨gr, 1, none⟩ u1) (some b) ∧ Row ((w.setCell ⟨gr, 0, none⟩ u0).setCell ⟨gr, 1, none⟩ u1) gr 63 #[u0, u1] := by
  have hW := Nat.le_trans h.w0W h.nr
  exact ⟨src_set (src_set h.src _ _ _ hW h.br) _ _ _ hW h.br, grown_set (grown_set h.gro gr 0 _ h.nr rfl) gr 1 _ h.nr rfl, set2_row u0 u1 h.res⟩
end
theorem wide {c : Int} (h : Elt.Ex c) : Elt.lo c + 800 ≤ Elt.hi c := by
  have : ∀ k : Fin 11, Elt.leas.getD k 0 + 800 ≤ Elt.mosts.getD k 0 := by decide +kernel
  exact this ⟨(c - 1).toNat, by unfold Elt.Ex at h; omega⟩
theorem sum_pos {c : Int} (h : Elt.Ex c) : 0 ≤ Elt.lo c + Elt.hi c := by
  have : ∀ k : Fin 11, 0 ≤ Elt.leas.getD k 0 + Elt.mosts.getD k 0 := by decide +kernel
  exact this ⟨(c - 1).toNat, by unfold Elt.Ex at h; omega⟩
set_option maxRecDepth 100000 in
set_option maxHeartbeats 4000000 in
theorem some_any (W : World) (b : Nat) (w : World) (c : Int) (h : Src W b w) (hx : Elt.Ex c) :
    Calls Tryz.prog 68 #[.pointer (some ⟨b, 0, none⟩), .int .i64 c] w (Smd W b c w) := by
  obtain ⟨⟨e1, e2, e3, e4, e5⟩, e6, e7, -⟩ := Elt.facts hx
  have e8 := wide hx
  have hbl : b < w.heap.size := by
    obtain ⟨_, _, _, _, _, _, h3, _⟩ := h.row
    exact (Array.getElem?_eq_some_iff.1 h3).1
  have hW := h.below.size
  have r0 := Row.new w #[.int .i64 0, .int .i64 0] 63
  have s0 := h.under ((Below.refl _ _).alloc (Nat.le_refl _) (.cells #[.int .i64 0, .int .i64 0] 63))
  have g0 : w.grownBy (w.alloc (.cells #[.int .i64 0, .int .i64 0] 63)) (some b) := grown_below ((Below.refl _ _).alloc (Nat.le_refl _) _)
  have z0 : (w.alloc (.cells #[.int .i64 0, .int .i64 0] 63)).heap.size = w.heap.size + 1 := by simp
  have HD := Lib.hid (fun W => refDescribe_yes c W hx)
  have HX := Lib.hid hx
  simp only [infoV] at HD
  clear hx h e4 e5
  go_enter Tryz.func68, Tryz.ntmps68
  go_wp2_with fail
  generalize w.alloc (.cells #[.int .i64 0, .int .i64 0] 63) = W0 at *
  refine (HD.out _).mono ?_
  rintro e w1 ⟨rfl, g1⟩
  have s1 := s0.under g1
  have r1 := r0.under g1
  have g01 := grown_trans g0 (grown_below g1)
  have z1 : w.heap.size + 1 ≤ w1.heap.size := by rw [← z0]; exact g1.size
  clear s0 r0 g0 g1 z0 HD
  go_upto_region 2 with fail
  refine forget (fun Y => Src W b Y ∧ w.grownBy Y (some b) ∧ Row Y w.heap.size 63 #[.int .i64 0, .int .i64 0] ∧ Row Y w1.heap.size 100 #[.string (S [Elt.lt c]), .int .i64 (Elt.lo c), .int .i64 (Elt.hi c), .int .i64 (Elt.dg c)])
    ⟨s1.under ((Below.refl _ _).alloc (Nat.le_refl _) _), grown_trans g01 (grown_below ((Below.refl _ _).alloc (Nat.le_refl _) _)), r1.alloc _, Row.new _ _ _⟩ ?_
  clear s1 r1 g01
  generalize w1.heap.size = gi at *
  rintro Y ⟨sY, gY, rY, iY⟩
  obtain ⟨i0, i1, i2, i3⟩ := row4 iY
  go_wp2_with fail
  refine (range_any W b _ _ _ sY (by omega) (by omega) (by omega) (by omega)).mono ?_
  rintro e w2 ⟨x, ⟨x1, x2⟩, rfl, s2, g2⟩
  have z2 : gi < w2.heap.size := Nat.lt_of_lt_of_le iY.lt g2.size
  have M2 : Sm W b w w.heap.size gi w2.heap.size c x (w2.alloc (.cells #[.int .i64 c, .int .i64 x] 63)) :=
    ⟨s2.under ((Below.refl _ _).alloc (Nat.le_refl _) _), grown_trans (grown_trans gY g2) (grown_below ((Below.refl _ _).alloc (Nat.le_refl _) _)),
      (rY.grown g2 (by simp; omega)).alloc _, (iY.grown g2 (by simp; omega)).alloc _, Row.new _ _ _, by omega, by omega, by omega, Nat.le_refl _, by omega, by omega, by omega, by omega, hW⟩
  go_upto_region 3 with fail
  refine forget (Sm W b w w.heap.size gi w2.heap.size c x) M2 ?_
  clear M2 s2 g2 sY gY rY iY i0 i1 i2 i3 z2 z1 hbl hW
  generalize w2.heap.size = gp at *
  rintro V M
  go_wp2_with fail
  refine (n_any W b _ _ M.src (by omega) (by omega)).mono ?_
  rintro e w3 ⟨j, ⟨j1, j2⟩, rfl, s3, g3⟩
  have M3 := M.step s3 g3
  clear M s3 g3
  have hj : j = 0 ∨ j = 1 ∨ j = 2 ∨ (j ≠ 0 ∧ j ≠ 1 ∧ j ≠ 2) := by omega
  clear j1 j2
  rcases hj with rfl | rfl | rfl | ⟨n0, n1, n2⟩
  · obtain ⟨i0, i1, i2, i3⟩ := row4 M3.inf
    go_wp2_with fail
    have rl := Row.new w3 #[.int .i64 (Elt.lo c), .int .i64 (Elt.hi c)] 3
    have M4 := M3.under ((Below.refl _ _).alloc (Nat.le_refl _) (.cells #[.int .i64 (Elt.lo c), .int .i64 (Elt.hi c)] 3))
    have hgb : w3.heap.size ≠ b := by
      obtain ⟨_, _, _, _, _, _, h3, _⟩ := M3.src.row
      have := (Array.getElem?_eq_some_iff.1 h3).1
      omega
    clear M3 i0 i1 i2 i3
    generalize w3.alloc (.cells #[.int .i64 (Elt.lo c), .int .i64 (Elt.hi c)] 3) = W3 at *
    generalize w3.heap.size = gl at *
    refine (pick_any (fun x => Elt.lo c ≤ x ∧ x ≤ Elt.hi c) W b _ gl 2 2 M4.src (by omega) (by omega) hgb rl.lt (fun i hi => by
      rcases (by omega : i = 0 ∨ i = 1) with rfl | rfl
      · exact ⟨_, (rl.cell 0).trans rfl, by omega, by omega⟩
      · exact ⟨_, (rl.cell 1).trans rfl, by omega, by omega⟩)).mono ?_
    rintro e w5 ⟨u, ⟨u1, u2⟩, rfl, s5, g5⟩
    have M5 := M4.step s5 g5
    obtain ⟨p0, p1⟩ := row2 M5.pl
    have f1 := M5.pl.thaw 1
    have HV := Lib.hid (show Elt.Val c u from ⟨HX.out, u1, u2⟩)
    clear M4 rl s5 g5 hgb
    go_upto_region 9 with fail
    refine forget (Sm W b w w.heap.size gi gp c u) (M5.set u) ?_
    · clear M5 p0 p1 f1
      rintro Z M
      go_upto_region 9 with fail
      obtain ⟨⟨p0, p1⟩, ⟨q0, q1⟩⟩ : (Z.cell? ⟨gp, 0, none⟩ = some (.int .i64 c) ∧ Z.cell? ⟨gp, 1, none⟩ = some (.int .i64 u)) ∧ (Z.cell? ⟨w.heap.size, 0, none⟩ = some (.int .i64 0) ∧ Z.cell? ⟨w.heap.size, 1, none⟩ = some (.int .i64 0)) := ⟨row2 M.pl, row2 M.res⟩
      have f0 := M.res.thaw 0
      have f1 := M.res.thaw 1
      have HZ := Lib.hid (M.sets (.int .i64 c) (.int .i64 u))
      clear M
      go_wp2_with fail
      exact bodyPost_ret (v := rdV c u) (results_cell_row Tryz.results68 _ _ w.heap.size 63 _ (0, 0) _ rfl HZ.out.2.2 Tryz.underlying63 rfl (by kernel_rfl)) rfl ⟨u, HV.out, rfl, HZ.out.1, HZ.out.2.1⟩
  · obtain ⟨i0, i1, i2, i3⟩ := row4 M3.inf
    have e9 := sum_pos HX.out
    have tA : (Elt.lo c + Elt.hi c).tdiv 2 = (Elt.lo c + Elt.hi c) / 2 := Int.tdiv_eq_ediv_of_nonneg e9
    have x1 : IntKind.i64.wrap (Elt.lo c + Elt.hi c) = Elt.lo c + Elt.hi c := IntWalk.i64_in _ (by omega)
    have x2 : IntKind.i64.wrap ((Elt.lo c + Elt.hi c) / 2) = (Elt.lo c + Elt.hi c) / 2 := IntWalk.i64_in _ (by omega)
    go_upto_region 8 with fail
    refine wp_region_held_drew (S := fun w' : World => w'.cell? ⟨gi, 1, none⟩ = some (.int .i64 (Elt.lo c)) ∧ w'.cell? ⟨gi, 2, none⟩ = some (.int .i64 (Elt.hi c))) (by kernel_rfl) ⟨i1, i2⟩ (fun hHeld => ?_)
    refine wpAnyH_take (i := 0) (v := ?_) rfl (by kernel_rfl) (by kernel_rfl) (by kernel_rfl) (fun _ _ _ h => h) (Or.inl ⟨by rfl, ?_⟩) (by assumption) ?_
    case refine_2 => (intro wx hSx; (try dsimp only at hSx); go_simp; first | done | with_reducible rfl)
    try simp only [Act.put]
    refine wpAnyH_take (i := 1) (v := ?_) rfl (by kernel_rfl) (by kernel_rfl) (by kernel_rfl) (fun _ _ _ h => h) (Or.inl ⟨by rfl, ?_⟩) (by assumption) ?_
    case refine_2 => (intro wx hSx; (try dsimp only at hSx); go_simp; first | done | with_reducible rfl)
    try simp only [Act.put]
    refine wpAnyH_take (i := 2) (v := ?_) rfl (by kernel_rfl) (by kernel_rfl) (by kernel_rfl) (fun _ _ _ h => h) (Or.inl ⟨by rfl, ?_⟩) (by assumption) ?_
    case refine_2 => (intro wx hSx; (try dsimp only at hSx); go_simp; first | done | with_reducible rfl)
    try simp only [Act.put]
    refine wpAnyH_take (i := 3) (v := ?_) rfl (by kernel_rfl) (by kernel_rfl) (by kernel_rfl) (fun _ _ _ h => h) (Or.inl ⟨by rfl, ?_⟩) (by assumption) ?_
    case refine_2 => (intro wx hSx; (try dsimp only at hSx); go_simp; first | done | with_reducible rfl)
    try simp only [Act.put]
    refine wpAnyH_take (i := 4) (v := ?_) rfl (by kernel_rfl) (by kernel_rfl) (by kernel_rfl) (fun _ _ _ h => h) (Or.inl ⟨by rfl, ?_⟩) (by assumption) ?_
    case refine_2 => (intro wx hSx; (try dsimp only at hSx); go_simp; first | done | with_reducible rfl)
    try simp only [Act.put]
    refine wpAnyH_take (i := 5) (v := ?_) rfl (by kernel_rfl) (by kernel_rfl) (by kernel_rfl) (fun _ _ _ h => h) (Or.inl ⟨by rfl, ?_⟩) (by assumption) ?_
    case refine_2 => (intro wx hSx; (try dsimp only at hSx); go_simp; first | done | with_reducible rfl)
    try simp only [Act.put]
    refine wpAnyH_take (i := 6) (v := ?_) rfl (by kernel_rfl) (by kernel_rfl) (by kernel_rfl) (fun _ _ _ h => h) (Or.inl ⟨by rfl, ?_⟩) (by assumption) ?_
    case refine_2 => (intro wx hSx; (try dsimp only at hSx); go_simp; first | done | with_reducible rfl)
    try simp only [Act.put]
    refine wpAnyH_ready (rs := [7]) (by kernel_rfl) (by simp) ?_
    refine AllReadyH.cons rfl (fun K hK => ?_) AllReadyH.nil
    go_simp
    have sD : Src W b w3.drew := M3.src.under ⟨rfl, rfl, rfl, Nat.le_refl _, fun _ _ => rfl⟩
    refine (range_any W b _ _ _ sD (by omega) (by omega) (by omega) (by omega)).mono ?_
    rintro e w4 ⟨y, ⟨y1, y2⟩, rfl, s4, g4⟩
    have M4 := M3.step s4 ⟨g4.os, g4.tape, g4.output, g4.size, g4.block⟩
    obtain ⟨k0, k1, k2, k3⟩ := row4 M4.inf
    go_wp2_with fail
    refine hK.out _ _ ⟨k1, k2⟩ (fun hHeld2 => ?_)
    clear hK K hHeld
    try simp only [Act.put]
    obtain ⟨u, hu⟩ : ∃ u, (Elt.lo c + Elt.hi c) / 2 + y = u := ⟨_, rfl⟩
    have u1 : Elt.lo c ≤ u := by omega
    have u2 : u ≤ Elt.hi c := by omega
    have x3 : IntKind.i64.wrap ((Elt.lo c + Elt.hi c) / 2 + y) = u := by rw [hu]; exact IntWalk.i64_in _ (by omega)
    have HU := Lib.hid hu; clear hu
    refine wpAnyH_take (i := 8) (v := ?_) rfl (by kernel_rfl) (by kernel_rfl) (by kernel_rfl) (fun _ _ _ h => h) (Or.inl ⟨by rfl, ?_⟩) (by assumption) ?_
    case refine_2 => (intro wx hSx; (try dsimp only at hSx); go_simp; first | done | with_reducible rfl)
    try simp only [Act.put]
    refine wpAnyH_take (i := 9) (v := ?_) rfl (by kernel_rfl) (by kernel_rfl) (by kernel_rfl) (fun _ _ _ h => h) (Or.inl ⟨by rfl, ?_⟩) (by assumption) ?_
    case refine_2 => (intro wx hSx; (try dsimp only at hSx); go_simp; first | done | with_reducible rfl)
    try simp only [Act.put]
    obtain ⟨p0, p1⟩ := row2 M4.pl
    have f1 := M4.pl.thaw 1
    refine wpAnyH_ready (rs := [10]) (by kernel_rfl) (by simp) ?_
    refine AllReadyH.cons rfl (fun K hK => ?_) AllReadyH.nil
    go_simp
    have M5 := M4.set u
    have MH := row4 M5.inf
    refine hK.out _ _ ⟨MH.2.1, MH.2.2.1⟩ (fun hHeld3 => ?_)
    clear hK K hHeld2
    try simp only [Act.put]
    refine wpAnyH_done (by kernel_rfl) ?_ _
    have HV := Lib.hid (show Elt.Val c u from ⟨HX.out, u1, u2⟩)
    obtain ⟨⟨a0, a1⟩, ⟨d0, d1⟩⟩ : ((w4.setCell ⟨gp, 1, none⟩ (.int .i64 u)).cell? ⟨gp, 0, none⟩ = some (.int .i64 c) ∧ (w4.setCell ⟨gp, 1, none⟩ (.int .i64 u)).cell? ⟨gp, 1, none⟩ = some (.int .i64 u)) ∧ ((w4.setCell ⟨gp, 1, none⟩ (.int .i64 u)).cell? ⟨w.heap.size, 0, none⟩ = some (.int .i64 0) ∧ (w4.setCell ⟨gp, 1, none⟩ (.int .i64 u)).cell? ⟨w.heap.size, 1, none⟩ = some (.int .i64 0)) := ⟨row2 M5.pl, row2 M5.res⟩
    have b0 := M5.res.thaw 0
    have b1 := M5.res.thaw 1
    have HZ := Lib.hid (M5.sets (.int .i64 c) (.int .i64 u))
    clear M3 M4 M5 p0 p1 f1 MH hHeld3 s4 g4 sD tA x1 x2 x3
    generalize w4.setCell ⟨gp, 1, none⟩ (.int .i64 u) = Z at *
    go_wp2_with fail
    exact bodyPost_ret (v := rdV c u) (results_cell_row Tryz.results68 _ _ w.heap.size 63 _ (0, 0) _ rfl HZ.out.2.2 Tryz.underlying63 rfl (by kernel_rfl)) rfl ⟨u, HV.out, rfl, HZ.out.1, HZ.out.2.1⟩
  · obtain ⟨i0, i1, i2, i3⟩ := row4 M3.inf
    have e9 := sum_pos HX.out
    have tA : (Elt.lo c + Elt.hi c).tdiv 2 = (Elt.lo c + Elt.hi c) / 2 := Int.tdiv_eq_ediv_of_nonneg e9
    have x1 : IntKind.i64.wrap (Elt.lo c + Elt.hi c) = Elt.lo c + Elt.hi c := IntWalk.i64_in _ (by omega)
    have x2 : IntKind.i64.wrap ((Elt.lo c + Elt.hi c) / 2) = (Elt.lo c + Elt.hi c) / 2 := IntWalk.i64_in _ (by omega)
    go_upto_region 8 with fail
    refine wp_region_held_drew (S := fun w' : World => w'.cell? ⟨gi, 1, none⟩ = some (.int .i64 (Elt.lo c)) ∧ w'.cell? ⟨gi, 2, none⟩ = some (.int .i64 (Elt.hi c))) (by kernel_rfl) ⟨i1, i2⟩ (fun hHeld => ?_)
    refine wpAnyH_take (i := 0) (v := ?_) rfl (by kernel_rfl) (by kernel_rfl) (by kernel_rfl) (fun _ _ _ h => h) (Or.inl ⟨by rfl, ?_⟩) (by assumption) ?_
    case refine_2 => (intro wx hSx; (try dsimp only at hSx); go_simp; first | done | with_reducible rfl)
    try simp only [Act.put]
    refine wpAnyH_take (i := 1) (v := ?_) rfl (by kernel_rfl) (by kernel_rfl) (by kernel_rfl) (fun _ _ _ h => h) (Or.inl ⟨by rfl, ?_⟩) (by assumption) ?_
    case refine_2 => (intro wx hSx; (try dsimp only at hSx); go_simp; first | done | with_reducible rfl)
    try simp only [Act.put]
    refine wpAnyH_take (i := 2) (v := ?_) rfl (by kernel_rfl) (by kernel_rfl) (by kernel_rfl) (fun _ _ _ h => h) (Or.inl ⟨by rfl, ?_⟩) (by assumption) ?_
    case refine_2 => (intro wx hSx; (try dsimp only at hSx); go_simp; first | done | with_reducible rfl)
    try simp only [Act.put]
    refine wpAnyH_take (i := 3) (v := ?_) rfl (by kernel_rfl) (by kernel_rfl) (by kernel_rfl) (fun _ _ _ h => h) (Or.inl ⟨by rfl, ?_⟩) (by assumption) ?_
    case refine_2 => (intro wx hSx; (try dsimp only at hSx); go_simp; first | done | with_reducible rfl)
    try simp only [Act.put]
    refine wpAnyH_take (i := 4) (v := ?_) rfl (by kernel_rfl) (by kernel_rfl) (by kernel_rfl) (fun _ _ _ h => h) (Or.inl ⟨by rfl, ?_⟩) (by assumption) ?_
    case refine_2 => (intro wx hSx; (try dsimp only at hSx); go_simp; first | done | with_reducible rfl)
    try simp only [Act.put]
    refine wpAnyH_take (i := 5) (v := ?_) rfl (by kernel_rfl) (by kernel_rfl) (by kernel_rfl) (fun _ _ _ h => h) (Or.inl ⟨by rfl, ?_⟩) (by assumption) ?_
    case refine_2 => (intro wx hSx; (try dsimp only at hSx); go_simp; first | done | with_reducible rfl)
    try simp only [Act.put]
    refine wpAnyH_take (i := 6) (v := ?_) rfl (by kernel_rfl) (by kernel_rfl) (by kernel_rfl) (fun _ _ _ h => h) (Or.inl ⟨by rfl, ?_⟩) (by assumption) ?_
    case refine_2 => (intro wx hSx; (try dsimp only at hSx); go_simp; first | done | with_reducible rfl)
    try simp only [Act.put]
    refine wpAnyH_ready (rs := [7]) (by kernel_rfl) (by simp) ?_
    refine AllReadyH.cons rfl (fun K hK => ?_) AllReadyH.nil
    go_simp
    have sD : Src W b w3.drew := M3.src.under ⟨rfl, rfl, rfl, Nat.le_refl _, fun _ _ => rfl⟩
    refine (range_any W b _ _ _ sD (by omega) (by omega) (by omega) (by omega)).mono ?_
    rintro e w4 ⟨y, ⟨y1, y2⟩, rfl, s4, g4⟩
    have M4 := M3.step s4 ⟨g4.os, g4.tape, g4.output, g4.size, g4.block⟩
    obtain ⟨k0, k1, k2, k3⟩ := row4 M4.inf
    go_wp2_with fail
    refine hK.out _ _ ⟨k1, k2⟩ (fun hHeld2 => ?_)
    clear hK K hHeld
    try simp only [Act.put]
    obtain ⟨u, hu⟩ : ∃ u, (Elt.lo c + Elt.hi c) / 2 + y = u := ⟨_, rfl⟩
    have u1 : Elt.lo c ≤ u := by omega
    have u2 : u ≤ Elt.hi c := by omega
    have x3 : IntKind.i64.wrap ((Elt.lo c + Elt.hi c) / 2 + y) = u := by rw [hu]; exact IntWalk.i64_in _ (by omega)
    have HU := Lib.hid hu; clear hu
    refine wpAnyH_take (i := 8) (v := ?_) rfl (by kernel_rfl) (by kernel_rfl) (by kernel_rfl) (fun _ _ _ h => h) (Or.inl ⟨by rfl, ?_⟩) (by assumption) ?_
    case refine_2 => (intro wx hSx; (try dsimp only at hSx); go_simp; first | done | with_reducible rfl)
    try simp only [Act.put]
    refine wpAnyH_take (i := 9) (v := ?_) rfl (by kernel_rfl) (by kernel_rfl) (by kernel_rfl) (fun _ _ _ h => h) (Or.inl ⟨by rfl, ?_⟩) (by assumption) ?_
    case refine_2 => (intro wx hSx; (try dsimp only at hSx); go_simp; first | done | with_reducible rfl)
    try simp only [Act.put]
    obtain ⟨p0, p1⟩ := row2 M4.pl
    have f1 := M4.pl.thaw 1
    refine wpAnyH_ready (rs := [10]) (by kernel_rfl) (by simp) ?_
    refine AllReadyH.cons rfl (fun K hK => ?_) AllReadyH.nil
    go_simp
    have M5 := M4.set u
    have MH := row4 M5.inf
    refine hK.out _ _ ⟨MH.2.1, MH.2.2.1⟩ (fun hHeld3 => ?_)
    clear hK K hHeld2
    try simp only [Act.put]
    refine wpAnyH_done (by kernel_rfl) ?_ _
    have HV := Lib.hid (show Elt.Val c u from ⟨HX.out, u1, u2⟩)
    obtain ⟨⟨a0, a1⟩, ⟨d0, d1⟩⟩ : ((w4.setCell ⟨gp, 1, none⟩ (.int .i64 u)).cell? ⟨gp, 0, none⟩ = some (.int .i64 c) ∧ (w4.setCell ⟨gp, 1, none⟩ (.int .i64 u)).cell? ⟨gp, 1, none⟩ = some (.int .i64 u)) ∧ ((w4.setCell ⟨gp, 1, none⟩ (.int .i64 u)).cell? ⟨w.heap.size, 0, none⟩ = some (.int .i64 0) ∧ (w4.setCell ⟨gp, 1, none⟩ (.int .i64 u)).cell? ⟨w.heap.size, 1, none⟩ = some (.int .i64 0)) := ⟨row2 M5.pl, row2 M5.res⟩
    have b0 := M5.res.thaw 0
    have b1 := M5.res.thaw 1
    have HZ := Lib.hid (M5.sets (.int .i64 c) (.int .i64 u))
    clear M3 M4 M5 p0 p1 f1 MH hHeld3 s4 g4 sD tA x1 x2 x3
    generalize w4.setCell ⟨gp, 1, none⟩ (.int .i64 u) = Z at *
    go_wp2_with fail
    exact bodyPost_ret (v := rdV c u) (results_cell_row Tryz.results68 _ _ w.heap.size 63 _ (0, 0) _ rfl HZ.out.2.2 Tryz.underlying63 rfl (by kernel_rfl)) rfl ⟨u, HV.out, rfl, HZ.out.1, HZ.out.2.1⟩
  · have q0 : (j == 0) = false := beq_eq_false_iff_ne.2 n0
    have q1 : (j == 1) = false := beq_eq_false_iff_ne.2 n1
    have q2 : (j == 2) = false := beq_eq_false_iff_ne.2 n2
    have HV := Lib.hid (show Elt.Val c x from ⟨HX.out, x1, x2⟩)
    clear n0 n1 n2
    go_upto_region 9 with fail
    refine forget (Sm W b w w.heap.size gi gp c x) M3 ?_
    · clear M3
      rintro Z M
      go_upto_region 9 with fail
      obtain ⟨⟨p0, p1⟩, ⟨q0, q1⟩⟩ : (Z.cell? ⟨gp, 0, none⟩ = some (.int .i64 c) ∧ Z.cell? ⟨gp, 1, none⟩ = some (.int .i64 x)) ∧ (Z.cell? ⟨w.heap.size, 0, none⟩ = some (.int .i64 0) ∧ Z.cell? ⟨w.heap.size, 1, none⟩ = some (.int .i64 0)) := ⟨row2 M.pl, row2 M.res⟩
      have f0 := M.res.thaw 0
      have f1 := M.res.thaw 1
      have HZ := Lib.hid (M.sets (.int .i64 c) (.int .i64 x))
      clear M
      go_wp2_with fail
      exact bodyPost_ret (v := rdV c x) (results_cell_row Tryz.results68 _ _ w.heap.size 63 _ (0, 0) _ rfl HZ.out.2.2 Tryz.underlying63 rfl (by kernel_rfl)) rfl ⟨x, HV.out, rfl, HZ.out.1, HZ.out.2.1⟩
end Go.Proofs.YtneglkfcelpdgaaGreatDoor.El
namespace Go.Proofs.YtneglkfcelpdgaaGreatDoor.El
open Go.RowKit

theorem own_ne {w : World} {base size n g : Nat} {e t : TypeId} {v : Value} {xs : List Value} {cs : Array Value} (h : w.ownsRow base e size v n xs) (hr : Row w g t cs) (hne : e ≠ t) : some g ≠ v.ownBlock := by
  rcases h.2 with ⟨rfl, _⟩ | ⟨g', cap, cur, rfl, _, hh, _⟩
  · simp [Value.ownBlock]
  · intro he
    have : g = g' := by simpa [Value.ownBlock] using he
    subst this
    unfold Row at hr
    rw [hr] at hh
    injection hh with hh
    injection hh with _ ht
    exact hne ht.symm
theorem own_under {w w' : World} {base size n : Nat} {e : TypeId} {v : Value} {xs : List Value} (h : w.ownsRow base e size v n xs) (hb : Below w.heap.size w w') : w'.ownsRow base e size v n xs := by
  refine h.kept (row := none) (grown_below hb) ?_
  cases hv : v.ownBlock
  · exact .inl rfl
  · exact .inr (by simp)
theorem below_own {a b c : World} {B size n : Nat} {e : TypeId} {v : Value} {xs : List Value} (h : Below B a b) (hB : B ≤ b.heap.size) (ho : b.ownsRow B e size v n xs) (k : b.grownBy c v.ownBlock) : Below B a c :=
  ⟨k.os.trans h.os, k.tape.trans h.tape, k.output.trans h.output, Nat.le_trans h.size k.size, fun i hi => (k.block i (by omega) (fun e => by have := (ho.lt i e.symm).1; omega)).trans (h.block i hi)⟩
def encR (x : Elt.R) : List Value := [.int .i64 x.1, .int .i64 x.2]
/-- The cells of readings. -/
def rdc (L : List Elt.R) : List Value := L.flatMap encR
theorem rdc_snoc (L : List Elt.R) (x : Elt.R) : rdc (L ++ [x]) = rdc L ++ [.int .i64 x.1, .int .i64 x.2] := by simp [rdc, encR]
theorem rdc_at : ∀ (L : List Elt.R) (i : Nat) (h : i < L.length), (rdc L)[i * 2]? = some (.int .i64 (L[i]).1) ∧ (rdc L)[i * 2 + 1]? = some (.int .i64 (L[i]).2)
  | x :: r, 0, _ => ⟨rfl, rfl⟩
  | x :: r, i + 1, h => by
    have := rdc_at r i (by simpa using h)
    have e : rdc (x :: r) = .int .i64 x.1 :: .int .i64 x.2 :: rdc r := rfl
    rw [e, show (i + 1) * 2 = i * 2 + 1 + 1 by omega]
    simpa using this
/-- A list of readings as the program holds it. -/
def RdIn (w : World) (v : Value) (L : List Elt.R) : Prop := ∃ A cap, v = .slice A L.length cap ∧ L.length ≤ cap ∧ cap ≤ 9223372036854775807 ∧ ∀ i (h : i < L.length), ∃ g off, A = some ⟨g, off, none⟩ ∧ g < w.heap.size ∧ w.cell? ⟨g, off + i * 2, none⟩ = some (.int .i64 (L[i]).1) ∧ w.cell? ⟨g, off + i * 2 + 1, none⟩ = some (.int .i64 (L[i]).2)
theorem RdIn.under {w w' : World} {v : Value} {L : List Elt.R} (h : RdIn w v L) (hb : Below w.heap.size w w') : RdIn w' v L := by
  obtain ⟨A, cap, h1, h2, h3, h4⟩ := h
  refine ⟨A, cap, h1, h2, h3, fun i hi => ?_⟩
  obtain ⟨g, off, a, b, c, d⟩ := h4 i hi
  exact ⟨g, off, a, Nat.lt_of_lt_of_le b hb.size, (hb.cell (p := ⟨g, off + i * 2, none⟩) b).trans c, (hb.cell (p := ⟨g, off + i * 2 + 1, none⟩) b).trans d⟩
theorem RdIn.nil (w : World) : RdIn w (.slice none 0 0) [] := ⟨none, 0, rfl, Nat.le_refl _, by omega, fun i hi => by simp at hi⟩
theorem RdIn.own {w : World} {base : Nat} {v : Value} {L : List Elt.R} (h : w.ownsRow base 63 2 v L.length (rdc L)) : RdIn w v L := by
  have h' := h
  rcases h.2 with ⟨rfl, h0⟩ | ⟨g, cap, cur, rfl, _, hh, hle, hmax, _, _⟩
  · have := List.eq_nil_of_length_eq_zero h0
    subst this
    exact RdIn.nil w
  · refine ⟨some ⟨g, 0, none⟩, cap, rfl, hle, by unfold maxLen at hmax; omega, fun i hi => ⟨g, 0, rfl, (Array.getElem?_eq_some_iff.1 hh).1, ?_⟩⟩
    rw [Nat.zero_add, h'.cellAt (i * 2) (by omega), h'.cellAt (i * 2 + 1) (by omega)]
    exact rdc_at L i hi
/-- A list that is not empty lies in one block. -/
theorem RdIn.one {w : World} {v : Value} {L : List Elt.R} (h : RdIn w v L) (hp : 0 < L.length) : ∃ g off cap, v = .slice (some ⟨g, off, none⟩) L.length cap ∧ L.length ≤ cap ∧ cap ≤ 9223372036854775807 ∧ g < w.heap.size ∧ ∀ i (h : i < L.length), w.cell? ⟨g, off + i * 2, none⟩ = some (.int .i64 (L[i]).1) ∧ w.cell? ⟨g, off + i * 2 + 1, none⟩ = some (.int .i64 (L[i]).2) := by
  obtain ⟨A, cap, rfl, h2, h3, h4⟩ := h
  obtain ⟨g, off, rfl, hg, -, -⟩ := h4 0 hp
  refine ⟨g, off, cap, rfl, h2, h3, hg, fun i hi => ?_⟩
  obtain ⟨g', off', e, -, c, d⟩ := h4 i hi
  injection e with e
  injection e with e1 e2
  subst e1; subst e2
  exact ⟨c, d⟩
/-- A list of numbers as the program holds it. -/
def NmIn (w : World) (v : Value) (C : List Int) : Prop := ∃ A cap, v = .slice A C.length cap ∧ C.length ≤ cap ∧ cap ≤ 9223372036854775807 ∧ ∀ i (h : i < C.length), ∃ g off, A = some ⟨g, off, none⟩ ∧ g < w.heap.size ∧ w.cell? ⟨g, off + i, none⟩ = some (.int .i64 C[i])
theorem NmIn.under {w w' : World} {v : Value} {C : List Int} (h : NmIn w v C) (hb : Below w.heap.size w w') : NmIn w' v C := by
  obtain ⟨A, cap, h1, h2, h3, h4⟩ := h
  refine ⟨A, cap, h1, h2, h3, fun i hi => ?_⟩
  obtain ⟨g, off, a, b, c⟩ := h4 i hi
  exact ⟨g, off, a, Nat.lt_of_lt_of_le b hb.size, (hb.cell (p := ⟨g, off + i, none⟩) b).trans c⟩
theorem NmIn.of {w : World} {v : Value} (h : ListIn w v) : ∃ C, NmIn w v C := by
  rcases h with rfl | ⟨a, n, c, rfl, h1, h2, h3⟩
  · exact ⟨[], none, 0, rfl, Nat.le_refl _, by omega, fun i hi => by simp at hi⟩
  · have hx : ∀ i, ∃ x : Int, i < n → ∃ bk off, a = ⟨bk, off, none⟩ ∧ bk < w.heap.size ∧ w.cell? ⟨bk, off + i, none⟩ = some (.int .i64 x) := fun i => by
      by_cases hi : i < n
      · obtain ⟨bk, off, x, e, hl, hc, -⟩ := h3 i hi
        exact ⟨x, fun _ => ⟨bk, off, by injection e, hl, hc⟩⟩
      · exact ⟨0, fun h => absurd h hi⟩
    have hch : ∃ f : Nat → Int, ∀ i, i < n → ∃ bk off, a = ⟨bk, off, none⟩ ∧ bk < w.heap.size ∧ w.cell? ⟨bk, off + i, none⟩ = some (.int .i64 (f i)) := ⟨fun i => Classical.choose (hx i), fun i => Classical.choose_spec (hx i)⟩
    obtain ⟨f, hf⟩ := hch
    refine ⟨(List.range n).map f, some a, c, by simp, by simpa using h1, h2, fun i hi => ?_⟩
    have hi' : i < n := by simpa using hi
    obtain ⟨bk, off, e, hl, hc⟩ := hf i hi'
    exact ⟨bk, off, by rw [e], hl, by simpa using hc⟩
theorem NmIn.one {w : World} {v : Value} {C : List Int} (h : NmIn w v C) (hp : 0 < C.length) : ∃ g off cap, v = .slice (some ⟨g, off, none⟩) C.length cap ∧ C.length ≤ cap ∧ cap ≤ 9223372036854775807 ∧ g < w.heap.size ∧ ∀ i (h : i < C.length), w.cell? ⟨g, off + i, none⟩ = some (.int .i64 C[i]) := by
  obtain ⟨A, cap, rfl, h2, h3, h4⟩ := h
  obtain ⟨g, off, rfl, hg, -⟩ := h4 0 hp
  refine ⟨g, off, cap, rfl, h2, h3, hg, fun i hi => ?_⟩
  obtain ⟨g', off', e, -, c⟩ := h4 i hi
  injection e with e
  injection e with e1 e2
  subst e1; subst e2
  exact c
end Go.Proofs.YtneglkfcelpdgaaGreatDoor.El
