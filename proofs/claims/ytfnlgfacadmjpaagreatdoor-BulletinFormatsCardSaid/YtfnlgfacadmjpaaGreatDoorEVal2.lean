/- Contracts of the reference's Describe, in, ByLetter, Digits, Format. The contract of the reference's Some: a valid reading of the element. Lists of readings and of numbers as the program holds them; membership in a list of numbers. The contract of Validate of the program. The contracts of Validate and Find of the program. -/
import Derived.Test.YtfnlgfacadmjpaaGreatDoorERDescD
import Derived.Test.YtfnlgfacadmjpaaGreatDoorERDescB
import Derived.Test.YtfnlgfacadmjpaaGreatDoorERDescC
import Derived.Test.YtfnlgfacadmjpaaGreatDoorSrc
import Derived.OwnWalk
namespace Go.Proofs.YtfnlgfacadmjpaaGreatDoor.El
open Go.RowKit

set_option maxHeartbeats 1000000 in
theorem refDescribe_no (c : Int) (w : World) (h : ¬ Elt.Ex c) :
    Calls Tryz.prog 116 #[.int .i64 c] w fun e w' => e = .returned (.tuple #[.agg #[.string ⟨#[]⟩, .int .i64 0, .int .i64 0, .int .i64 0], .int .i64 4]) ∧ Below w.heap.size w w' := by
  by_cases h1 : c < 1
  · clear h
    go_enter Tryz.func116, Tryz.ntmps116
    go_wp2
    exact bodyPost_ret (v := .tuple #[.agg #[.string ⟨#[]⟩, .int .i64 0, .int .i64 0, .int .i64 0], .int .i64 4]) (by simp [results, Tryz.results116, go_sem]) rfl ⟨rfl, (Below.refl _ _).alloc (Nat.le_refl _) _⟩
  · have h2 : 11 < c := by unfold Elt.Ex at h; omega
    clear h
    go_enter Tryz.func116, Tryz.ntmps116
    go_wp2
    exact bodyPost_ret (v := .tuple #[.agg #[.string ⟨#[]⟩, .int .i64 0, .int .i64 0, .int .i64 0], .int .i64 4]) (by simp [results, Tryz.results116, go_sem]) rfl ⟨rfl, (Below.refl _ _).alloc (Nat.le_refl _) _⟩
theorem refDescribe_yes (c : Int) (w : World) (h : Elt.Ex c) :
    Calls Tryz.prog 116 #[.int .i64 c] w fun e w' => e = .returned (.tuple #[infoV c, .int .i64 0]) ∧ Below w.heap.size w w' := by
  rcases eleven h with rfl | rfl | rfl | rfl | rfl | rfl | rfl | rfl | rfl | rfl | rfl
  · exact refDescribe1 w
  · exact refDescribe2 w
  · exact refDescribe3 w
  · exact refDescribe4 w
  · exact refDescribe5 w
  · exact refDescribe6 w
  · exact refDescribe7 w
  · exact refDescribe8 w
  · exact refDescribe9 w
  · exact refDescribe10 w
  · exact refDescribe11 w
end Go.Proofs.YtfnlgfacadmjpaaGreatDoor.El
namespace Go.Proofs.YtfnlgfacadmjpaaGreatDoor.El
open Go.RowKit

/-- What Some leaves: a valid reading, the reader as it should be, and nothing but the reader's block turned. -/
def Smd (W : World) (b : Nat) (c : Int) (w : World) (e : Ending) (w' : World) : Prop := ∃ v, Elt.Val c v ∧ e = .returned (rdV c v) ∧ Src W b w' ∧ w.grownBy w' (some b)
/-- What is known inside. -/
structure Sm (W : World) (b : Nat) (w0 : World) (gr gi gp : Nat) (c v : Int) (w : World) : Prop where
  src : Src W b w
  gro : w0.grownBy w (some b)
  res : Row w gr 99 #[.int .i64 0, .int .i64 0]
  inf : Row w gi 139 #[.string (S [Elt.lt c]), .int .i64 (Elt.lo c), .int .i64 (Elt.hi c), .int .i64 (Elt.dg c)]
  pl : Row w gp 99 #[.int .i64 c, .int .i64 v]
  ne : gr ≠ gp
  ni : gi ≠ gp
  nj : gr ≠ gi
  nr : w0.heap.size ≤ gr
  np : w0.heap.size ≤ gp
  br : gr ≠ b
  bi : gi ≠ b
  bp : gp ≠ b
  w0W : W.heap.size ≤ w0.heap.size
section
variable {W w0 w w' : World} {b gr gi gp : Nat} {c v : Int}
theorem Sm.step (h : Sm W b w0 gr gi gp c v w) (hs : Src W b w') (hg : w.grownBy w' (some b)) : Sm W b w0 gr gi gp c v w' :=
  ⟨hs, grown_trans h.gro hg, h.res.grown hg (fun e => h.br (by injection e)), h.inf.grown hg (fun e => h.bi (by injection e)), h.pl.grown hg (fun e => h.bp (by injection e)), h.ne, h.ni, h.nj, h.nr, h.np, h.br, h.bi, h.bp, h.w0W⟩
theorem Sm.under (h : Sm W b w0 gr gi gp c v w) (hb : Below w.heap.size w w') : Sm W b w0 gr gi gp c v w' := h.step (h.src.under hb) (grown_below hb)
theorem grown_set {a c : World} {B : Nat} {row : Option Nat} (h : a.grownBy c row) (g j : Nat) (u : Value) (hg : a.heap.size ≤ g) (hB : B = g) : a.grownBy (c.setCell ⟨B, j, none⟩ u) row := by
  subst hB
  exact ⟨h.os, h.tape, h.output, Nat.le_trans h.size (by simp), fun i hi hr => (Below.heap_setCell c ⟨B, j, none⟩ u i (fun e => by simp at e; omega)).trans (h.block i hi hr)⟩
theorem src_set {c : World} (h : Src W b c) (g j : Nat) (u : Value) (hg : W.heap.size ≤ g) (hb : g ≠ b) : Src W b (c.setCell ⟨g, j, none⟩ u) := by
  obtain ⟨A, n, cp, k, h1, h2, h3, h4⟩ := h.row
  exact ⟨h.base, h.below.setCell (p := ⟨g, j, none⟩) hg _, A, n, cp, k, h1, h2, (Below.heap_setCell c ⟨g, j, none⟩ u b (Ne.symm hb)).trans h3, h4⟩
theorem Sm.set (h : Sm W b w0 gr gi gp c v w) (x : Int) : Sm W b w0 gr gi gp c x (w.setCell ⟨gp, 1, none⟩ (.int .i64 x)) :=
  ⟨src_set h.src _ _ _ (Nat.le_trans h.w0W h.np) h.bp, grown_set h.gro gp 1 _ h.np rfl, h.res.far (Ne.symm h.ne) _, h.inf.far (Ne.symm h.ni) _, h.pl.put 1 _, h.ne, h.ni, h.nj, h.nr, h.np, h.br, h.bi, h.bp, h.w0W⟩
theorem Sm.sets (h : Sm W b w0 gr gi gp c v w) (u0 u1 : Value) :
    Src W b ((w.setCell ⟨gr, 0, none⟩ u0).setCell ⟨gr, 1, none⟩ u1) ∧ w0.grownBy ((w.setCell ⟨gr, 0, none⟩ u0).setCell ⟨gr, 1, none⟩ u1) (some b) ∧ Row ((w.setCell ⟨gr, 0, none⟩ u0).setCell ⟨gr, 1, none⟩ u1) gr 99 #[u0, u1] := by
  have hW := Nat.le_trans h.w0W h.nr
  exact ⟨src_set (src_set h.src _ _ _ hW h.br) _ _ _ hW h.br, grown_set (grown_set h.gro gr 0 _ h.nr rfl) gr 1 _ h.nr rfl, set2_row u0 u1 h.res⟩
end
theorem wide {c : Int} (h : Elt.Ex c) : Elt.lo c + 800 ≤ Elt.hi c := by
  have : ∀ k : Fin 11, Elt.leas.getD k 0 + 800 ≤ Elt.mosts.getD k 0 := by decide +kernel
  exact this ⟨(c - 1).toNat, by unfold Elt.Ex at h; omega⟩
theorem sum_pos {c : Int} (h : Elt.Ex c) : 0 ≤ Elt.lo c + Elt.hi c := by
  have : ∀ k : Fin 11, 0 ≤ Elt.leas.getD k 0 + Elt.mosts.getD k 0 := by decide +kernel
  exact this ⟨(c - 1).toNat, by unfold Elt.Ex at h; omega⟩
set_option maxRecDepth 100000 in
set_option maxHeartbeats 4000000 in
theorem some_any (W : World) (b : Nat) (w : World) (c : Int) (h : Src W b w) (hx : Elt.Ex c) :
    Calls Tryz.prog 143 #[.pointer (some ⟨b, 0, none⟩), .int .i64 c] w (Smd W b c w) := by
  obtain ⟨⟨e1, e2, e3, e4, e5⟩, e6, e7, -⟩ := Elt.facts hx
  have e8 := wide hx
  have hbl : b < w.heap.size := by
    obtain ⟨_, _, _, _, _, _, h3, _⟩ := h.row
    exact (Array.getElem?_eq_some_iff.1 h3).1
  have hW := h.below.size
  have r0 := Row.new w #[.int .i64 0, .int .i64 0] 99
  have s0 := h.under ((Below.refl _ _).alloc (Nat.le_refl _) (.cells #[.int .i64 0, .int .i64 0] 99))
  have g0 : w.grownBy (w.alloc (.cells #[.int .i64 0, .int .i64 0] 99)) (some b) := grown_below ((Below.refl _ _).alloc (Nat.le_refl _) _)
  have z0 : (w.alloc (.cells #[.int .i64 0, .int .i64 0] 99)).heap.size = w.heap.size + 1 := by simp
  have HD := Lib.hid (fun W => refDescribe_yes c W hx)
  have HX := Lib.hid hx
  simp only [infoV] at HD
  clear hx h e4 e5
  go_enter Tryz.func143, Tryz.ntmps143
  go_wp2_with fail
  generalize w.alloc (.cells #[.int .i64 0, .int .i64 0] 99) = W0 at *
  refine (HD.out _).mono ?_
  rintro e w1 ⟨rfl, g1⟩
  have s1 := s0.under g1
  have r1 := r0.under g1
  have g01 := grown_trans g0 (grown_below g1)
  have z1 : w.heap.size + 1 ≤ w1.heap.size := by rw [← z0]; exact g1.size
  clear s0 r0 g0 g1 z0 HD
  go_upto_region 2 with fail
  refine forget (fun Y => Src W b Y ∧ w.grownBy Y (some b) ∧ Row Y w.heap.size 99 #[.int .i64 0, .int .i64 0] ∧ Row Y w1.heap.size 139 #[.string (S [Elt.lt c]), .int .i64 (Elt.lo c), .int .i64 (Elt.hi c), .int .i64 (Elt.dg c)])
    ⟨s1.under ((Below.refl _ _).alloc (Nat.le_refl _) _), grown_trans g01 (grown_below ((Below.refl _ _).alloc (Nat.le_refl _) _)), r1.alloc _, Row.new _ _ _⟩ ?_
  clear s1 r1 g01
  generalize w1.heap.size = gi at *
  rintro Y ⟨sY, gY, rY, iY⟩
  obtain ⟨i0, i1, i2, i3⟩ := row4 iY
  go_wp2_with fail
  refine (range_any W b _ _ _ sY (by omega) (by omega) (by omega) (by omega)).mono ?_
  rintro e w2 ⟨x, ⟨x1, x2⟩, rfl, s2, g2⟩
  have z2 : gi < w2.heap.size := Nat.lt_of_lt_of_le iY.lt g2.size
  have M2 : Sm W b w w.heap.size gi w2.heap.size c x (w2.alloc (.cells #[.int .i64 c, .int .i64 x] 99)) :=
    ⟨s2.under ((Below.refl _ _).alloc (Nat.le_refl _) _), grown_trans (grown_trans gY g2) (grown_below ((Below.refl _ _).alloc (Nat.le_refl _) _)),
      (rY.grown g2 (by simp; omega)).alloc _, (iY.grown g2 (by simp; omega)).alloc _, Row.new _ _ _, by omega, by omega, by omega, Nat.le_refl _, by omega, by omega, by omega, by omega, hW⟩
  go_upto_region 3 with fail
  refine forget (Sm W b w w.heap.size gi w2.heap.size c x) M2 ?_
  clear M2 s2 g2 sY gY rY iY i0 i1 i2 i3 z2 z1 hbl hW
  generalize w2.heap.size = gp at *
  rintro V M
  go_wp2_with fail
  refine (n_any W b _ _ M.src (by omega) (by omega)).mono ?_
  rintro e w3 ⟨j, ⟨j1, j2⟩, rfl, s3, g3⟩
  have M3 := M.step s3 g3
  clear M s3 g3
  have hj : j = 0 ∨ j = 1 ∨ j = 2 ∨ (j ≠ 0 ∧ j ≠ 1 ∧ j ≠ 2) := by omega
  clear j1 j2
  rcases hj with rfl | rfl | rfl | ⟨n0, n1, n2⟩
  · obtain ⟨i0, i1, i2, i3⟩ := row4 M3.inf
    go_wp2_with fail
    have rl := Row.new w3 #[.int .i64 (Elt.lo c), .int .i64 (Elt.hi c)] 3
    have M4 := M3.under ((Below.refl _ _).alloc (Nat.le_refl _) (.cells #[.int .i64 (Elt.lo c), .int .i64 (Elt.hi c)] 3))
    have hgb : w3.heap.size ≠ b := by
      obtain ⟨_, _, _, _, _, _, h3, _⟩ := M3.src.row
      have := (Array.getElem?_eq_some_iff.1 h3).1
      omega
    clear M3 i0 i1 i2 i3
    generalize w3.alloc (.cells #[.int .i64 (Elt.lo c), .int .i64 (Elt.hi c)] 3) = W3 at *
    generalize w3.heap.size = gl at *
    refine (pick_any (fun x => Elt.lo c ≤ x ∧ x ≤ Elt.hi c) W b _ gl 2 2 M4.src (by omega) (by omega) hgb rl.lt (fun i hi => by
      rcases (by omega : i = 0 ∨ i = 1) with rfl | rfl
      · exact ⟨_, (rl.cell 0).trans rfl, by omega, by omega⟩
      · exact ⟨_, (rl.cell 1).trans rfl, by omega, by omega⟩)).mono ?_
    rintro e w5 ⟨u, ⟨u1, u2⟩, rfl, s5, g5⟩
    have M5 := M4.step s5 g5
    obtain ⟨p0, p1⟩ := row2 M5.pl
    have f1 := M5.pl.thaw 1
    have HV := Lib.hid (show Elt.Val c u from ⟨HX.out, u1, u2⟩)
    clear M4 rl s5 g5 hgb
    go_upto_region 9 with fail
    refine forget (Sm W b w w.heap.size gi gp c u) (M5.set u) ?_
    · clear M5 p0 p1 f1
      rintro Z M
      go_upto_region 9 with fail
      obtain ⟨⟨p0, p1⟩, ⟨q0, q1⟩⟩ : (Z.cell? ⟨gp, 0, none⟩ = some (.int .i64 c) ∧ Z.cell? ⟨gp, 1, none⟩ = some (.int .i64 u)) ∧ (Z.cell? ⟨w.heap.size, 0, none⟩ = some (.int .i64 0) ∧ Z.cell? ⟨w.heap.size, 1, none⟩ = some (.int .i64 0)) := ⟨row2 M.pl, row2 M.res⟩
      have f0 := M.res.thaw 0
      have f1 := M.res.thaw 1
      have HZ := Lib.hid (M.sets (.int .i64 c) (.int .i64 u))
      clear M
      go_wp2_with fail
      exact bodyPost_ret (v := rdV c u) (results_cell_row Tryz.results143 _ _ w.heap.size 99 _ (0, 0) _ rfl HZ.out.2.2 Tryz.underlying99 rfl (by kernel_rfl)) rfl ⟨u, HV.out, rfl, HZ.out.1, HZ.out.2.1⟩
  · obtain ⟨i0, i1, i2, i3⟩ := row4 M3.inf
    have e9 := sum_pos HX.out
    have tA : (Elt.lo c + Elt.hi c).tdiv 2 = (Elt.lo c + Elt.hi c) / 2 := Int.tdiv_eq_ediv_of_nonneg e9
    have x1 : IntKind.i64.wrap (Elt.lo c + Elt.hi c) = Elt.lo c + Elt.hi c := IntWalk.i64_in _ (by omega)
    have x2 : IntKind.i64.wrap ((Elt.lo c + Elt.hi c) / 2) = (Elt.lo c + Elt.hi c) / 2 := IntWalk.i64_in _ (by omega)
    go_upto_region 8 with fail
    refine wp_region_held_drew (S := fun w' : World => w'.cell? ⟨gi, 1, none⟩ = some (.int .i64 (Elt.lo c)) ∧ w'.cell? ⟨gi, 2, none⟩ = some (.int .i64 (Elt.hi c))) (by kernel_rfl) ⟨i1, i2⟩ (fun hHeld => ?_)
    refine wpAnyH_take (i := 0) (v := ?_) rfl (by kernel_rfl) (by kernel_rfl) (by kernel_rfl) (fun _ _ _ h => h) (Or.inl ⟨by rfl, ?_⟩) (by assumption) ?_
    case refine_2 => (intro wx hSx; (try dsimp only at hSx); go_simp; first | done | with_reducible rfl)
    try simp only [Act.put]
    refine wpAnyH_take (i := 1) (v := ?_) rfl (by kernel_rfl) (by kernel_rfl) (by kernel_rfl) (fun _ _ _ h => h) (Or.inl ⟨by rfl, ?_⟩) (by assumption) ?_
    case refine_2 => (intro wx hSx; (try dsimp only at hSx); go_simp; first | done | with_reducible rfl)
    try simp only [Act.put]
    refine wpAnyH_take (i := 2) (v := ?_) rfl (by kernel_rfl) (by kernel_rfl) (by kernel_rfl) (fun _ _ _ h => h) (Or.inl ⟨by rfl, ?_⟩) (by assumption) ?_
    case refine_2 => (intro wx hSx; (try dsimp only at hSx); go_simp; first | done | with_reducible rfl)
    try simp only [Act.put]
    refine wpAnyH_take (i := 3) (v := ?_) rfl (by kernel_rfl) (by kernel_rfl) (by kernel_rfl) (fun _ _ _ h => h) (Or.inl ⟨by rfl, ?_⟩) (by assumption) ?_
    case refine_2 => (intro wx hSx; (try dsimp only at hSx); go_simp; first | done | with_reducible rfl)
    try simp only [Act.put]
    refine wpAnyH_take (i := 4) (v := ?_) rfl (by kernel_rfl) (by kernel_rfl) (by kernel_rfl) (fun _ _ _ h => h) (Or.inl ⟨by rfl, ?_⟩) (by assumption) ?_
    case refine_2 => (intro wx hSx; (try dsimp only at hSx); go_simp; first | done | with_reducible rfl)
    try simp only [Act.put]
    refine wpAnyH_take (i := 5) (v := ?_) rfl (by kernel_rfl) (by kernel_rfl) (by kernel_rfl) (fun _ _ _ h => h) (Or.inl ⟨by rfl, ?_⟩) (by assumption) ?_
    case refine_2 => (intro wx hSx; (try dsimp only at hSx); go_simp; first | done | with_reducible rfl)
    try simp only [Act.put]
    refine wpAnyH_take (i := 6) (v := ?_) rfl (by kernel_rfl) (by kernel_rfl) (by kernel_rfl) (fun _ _ _ h => h) (Or.inl ⟨by rfl, ?_⟩) (by assumption) ?_
    case refine_2 => (intro wx hSx; (try dsimp only at hSx); go_simp; first | done | with_reducible rfl)
    try simp only [Act.put]
    refine wpAnyH_ready (rs := [7]) (by kernel_rfl) (by simp) ?_
    refine AllReadyH.cons rfl (fun K hK => ?_) AllReadyH.nil
    go_simp
    have sD : Src W b w3.drew := M3.src.under ⟨rfl, rfl, rfl, Nat.le_refl _, fun _ _ => rfl⟩
    refine (range_any W b _ _ _ sD (by omega) (by omega) (by omega) (by omega)).mono ?_
    rintro e w4 ⟨y, ⟨y1, y2⟩, rfl, s4, g4⟩
    have M4 := M3.step s4 ⟨g4.os, g4.tape, g4.output, g4.size, g4.block⟩
    obtain ⟨k0, k1, k2, k3⟩ := row4 M4.inf
    go_wp2_with fail
    refine hK.out _ _ ⟨k1, k2⟩ (fun hHeld2 => ?_)
    clear hK K hHeld
    try simp only [Act.put]
    obtain ⟨u, hu⟩ : ∃ u, (Elt.lo c + Elt.hi c) / 2 + y = u := ⟨_, rfl⟩
    have u1 : Elt.lo c ≤ u := by omega
    have u2 : u ≤ Elt.hi c := by omega
    have x3 : IntKind.i64.wrap ((Elt.lo c + Elt.hi c) / 2 + y) = u := by rw [hu]; exact IntWalk.i64_in _ (by omega)
    have HU := Lib.hid hu; clear hu
    refine wpAnyH_take (i := 8) (v := ?_) rfl (by kernel_rfl) (by kernel_rfl) (by kernel_rfl) (fun _ _ _ h => h) (Or.inl ⟨by rfl, ?_⟩) (by assumption) ?_
    case refine_2 => (intro wx hSx; (try dsimp only at hSx); go_simp; first | done | with_reducible rfl)
    try simp only [Act.put]
    refine wpAnyH_take (i := 9) (v := ?_) rfl (by kernel_rfl) (by kernel_rfl) (by kernel_rfl) (fun _ _ _ h => h) (Or.inl ⟨by rfl, ?_⟩) (by assumption) ?_
    case refine_2 => (intro wx hSx; (try dsimp only at hSx); go_simp; first | done | with_reducible rfl)
    try simp only [Act.put]
    obtain ⟨p0, p1⟩ := row2 M4.pl
    have f1 := M4.pl.thaw 1
    refine wpAnyH_ready (rs := [10]) (by kernel_rfl) (by simp) ?_
    refine AllReadyH.cons rfl (fun K hK => ?_) AllReadyH.nil
    go_simp
    have M5 := M4.set u
    have MH := row4 M5.inf
    refine hK.out _ _ ⟨MH.2.1, MH.2.2.1⟩ (fun hHeld3 => ?_)
    clear hK K hHeld2
    try simp only [Act.put]
    refine wpAnyH_done (by kernel_rfl) ?_ _
    have HV := Lib.hid (show Elt.Val c u from ⟨HX.out, u1, u2⟩)
    obtain ⟨⟨a0, a1⟩, ⟨d0, d1⟩⟩ : ((w4.setCell ⟨gp, 1, none⟩ (.int .i64 u)).cell? ⟨gp, 0, none⟩ = some (.int .i64 c) ∧ (w4.setCell ⟨gp, 1, none⟩ (.int .i64 u)).cell? ⟨gp, 1, none⟩ = some (.int .i64 u)) ∧ ((w4.setCell ⟨gp, 1, none⟩ (.int .i64 u)).cell? ⟨w.heap.size, 0, none⟩ = some (.int .i64 0) ∧ (w4.setCell ⟨gp, 1, none⟩ (.int .i64 u)).cell? ⟨w.heap.size, 1, none⟩ = some (.int .i64 0)) := ⟨row2 M5.pl, row2 M5.res⟩
    have b0 := M5.res.thaw 0
    have b1 := M5.res.thaw 1
    have HZ := Lib.hid (M5.sets (.int .i64 c) (.int .i64 u))
    clear M3 M4 M5 p0 p1 f1 MH hHeld3 s4 g4 sD tA x1 x2 x3
    generalize w4.setCell ⟨gp, 1, none⟩ (.int .i64 u) = Z at *
    go_wp2_with fail
    exact bodyPost_ret (v := rdV c u) (results_cell_row Tryz.results143 _ _ w.heap.size 99 _ (0, 0) _ rfl HZ.out.2.2 Tryz.underlying99 rfl (by kernel_rfl)) rfl ⟨u, HV.out, rfl, HZ.out.1, HZ.out.2.1⟩
  · obtain ⟨i0, i1, i2, i3⟩ := row4 M3.inf
    have e9 := sum_pos HX.out
    have tA : (Elt.lo c + Elt.hi c).tdiv 2 = (Elt.lo c + Elt.hi c) / 2 := Int.tdiv_eq_ediv_of_nonneg e9
    have x1 : IntKind.i64.wrap (Elt.lo c + Elt.hi c) = Elt.lo c + Elt.hi c := IntWalk.i64_in _ (by omega)
    have x2 : IntKind.i64.wrap ((Elt.lo c + Elt.hi c) / 2) = (Elt.lo c + Elt.hi c) / 2 := IntWalk.i64_in _ (by omega)
    go_upto_region 8 with fail
    refine wp_region_held_drew (S := fun w' : World => w'.cell? ⟨gi, 1, none⟩ = some (.int .i64 (Elt.lo c)) ∧ w'.cell? ⟨gi, 2, none⟩ = some (.int .i64 (Elt.hi c))) (by kernel_rfl) ⟨i1, i2⟩ (fun hHeld => ?_)
    refine wpAnyH_take (i := 0) (v := ?_) rfl (by kernel_rfl) (by kernel_rfl) (by kernel_rfl) (fun _ _ _ h => h) (Or.inl ⟨by rfl, ?_⟩) (by assumption) ?_
    case refine_2 => (intro wx hSx; (try dsimp only at hSx); go_simp; first | done | with_reducible rfl)
    try simp only [Act.put]
    refine wpAnyH_take (i := 1) (v := ?_) rfl (by kernel_rfl) (by kernel_rfl) (by kernel_rfl) (fun _ _ _ h => h) (Or.inl ⟨by rfl, ?_⟩) (by assumption) ?_
    case refine_2 => (intro wx hSx; (try dsimp only at hSx); go_simp; first | done | with_reducible rfl)
    try simp only [Act.put]
    refine wpAnyH_take (i := 2) (v := ?_) rfl (by kernel_rfl) (by kernel_rfl) (by kernel_rfl) (fun _ _ _ h => h) (Or.inl ⟨by rfl, ?_⟩) (by assumption) ?_
    case refine_2 => (intro wx hSx; (try dsimp only at hSx); go_simp; first | done | with_reducible rfl)
    try simp only [Act.put]
    refine wpAnyH_take (i := 3) (v := ?_) rfl (by kernel_rfl) (by kernel_rfl) (by kernel_rfl) (fun _ _ _ h => h) (Or.inl ⟨by rfl, ?_⟩) (by assumption) ?_
    case refine_2 => (intro wx hSx; (try dsimp only at hSx); go_simp; first | done | with_reducible rfl)
    try simp only [Act.put]
    refine wpAnyH_take (i := 4) (v := ?_) rfl (by kernel_rfl) (by kernel_rfl) (by kernel_rfl) (fun _ _ _ h => h) (Or.inl ⟨by rfl, ?_⟩) (by assumption) ?_
    case refine_2 => (intro wx hSx; (try dsimp only at hSx); go_simp; first | done | with_reducible rfl)
    try simp only [Act.put]
    refine wpAnyH_take (i := 5) (v := ?_) rfl (by kernel_rfl) (by kernel_rfl) (by kernel_rfl) (fun _ _ _ h => h) (Or.inl ⟨by rfl, ?_⟩) (by assumption) ?_
    case refine_2 => (intro wx hSx; (try dsimp only at hSx); go_simp; first | done | with_reducible rfl)
    try simp only [Act.put]
    refine wpAnyH_take (i := 6) (v := ?_) rfl (by kernel_rfl) (by kernel_rfl) (by kernel_rfl) (fun _ _ _ h => h) (Or.inl ⟨by rfl, ?_⟩) (by assumption) ?_
    case refine_2 => (intro wx hSx; (try dsimp only at hSx); go_simp; first | done | with_reducible rfl)
    try simp only [Act.put]
    refine wpAnyH_ready (rs := [7]) (by kernel_rfl) (by simp) ?_
    refine AllReadyH.cons rfl (fun K hK => ?_) AllReadyH.nil
    go_simp
    have sD : Src W b w3.drew := M3.src.under ⟨rfl, rfl, rfl, Nat.le_refl _, fun _ _ => rfl⟩
    refine (range_any W b _ _ _ sD (by omega) (by omega) (by omega) (by omega)).mono ?_
    rintro e w4 ⟨y, ⟨y1, y2⟩, rfl, s4, g4⟩
    have M4 := M3.step s4 ⟨g4.os, g4.tape, g4.output, g4.size, g4.block⟩
    obtain ⟨k0, k1, k2, k3⟩ := row4 M4.inf
    go_wp2_with fail
    refine hK.out _ _ ⟨k1, k2⟩ (fun hHeld2 => ?_)
    clear hK K hHeld
    try simp only [Act.put]
    obtain ⟨u, hu⟩ : ∃ u, (Elt.lo c + Elt.hi c) / 2 + y = u := ⟨_, rfl⟩
    have u1 : Elt.lo c ≤ u := by omega
    have u2 : u ≤ Elt.hi c := by omega
    have x3 : IntKind.i64.wrap ((Elt.lo c + Elt.hi c) / 2 + y) = u := by rw [hu]; exact IntWalk.i64_in _ (by omega)
    have HU := Lib.hid hu; clear hu
    refine wpAnyH_take (i := 8) (v := ?_) rfl (by kernel_rfl) (by kernel_rfl) (by kernel_rfl) (fun _ _ _ h => h) (Or.inl ⟨by rfl, ?_⟩) (by assumption) ?_
    case refine_2 => (intro wx hSx; (try dsimp only at hSx); go_simp; first | done | with_reducible rfl)
    try simp only [Act.put]
    refine wpAnyH_take (i := 9) (v := ?_) rfl (by kernel_rfl) (by kernel_rfl) (by kernel_rfl) (fun _ _ _ h => h) (Or.inl ⟨by rfl, ?_⟩) (by assumption) ?_
    case refine_2 => (intro wx hSx; (try dsimp only at hSx); go_simp; first | done | with_reducible rfl)
    try simp only [Act.put]
    obtain ⟨p0, p1⟩ := row2 M4.pl
    have f1 := M4.pl.thaw 1
    refine wpAnyH_ready (rs := [10]) (by kernel_rfl) (by simp) ?_
    refine AllReadyH.cons rfl (fun K hK => ?_) AllReadyH.nil
    go_simp
    have M5 := M4.set u
    have MH := row4 M5.inf
    refine hK.out _ _ ⟨MH.2.1, MH.2.2.1⟩ (fun hHeld3 => ?_)
    clear hK K hHeld2
    try simp only [Act.put]
    refine wpAnyH_done (by kernel_rfl) ?_ _
    have HV := Lib.hid (show Elt.Val c u from ⟨HX.out, u1, u2⟩)
    obtain ⟨⟨a0, a1⟩, ⟨d0, d1⟩⟩ : ((w4.setCell ⟨gp, 1, none⟩ (.int .i64 u)).cell? ⟨gp, 0, none⟩ = some (.int .i64 c) ∧ (w4.setCell ⟨gp, 1, none⟩ (.int .i64 u)).cell? ⟨gp, 1, none⟩ = some (.int .i64 u)) ∧ ((w4.setCell ⟨gp, 1, none⟩ (.int .i64 u)).cell? ⟨w.heap.size, 0, none⟩ = some (.int .i64 0) ∧ (w4.setCell ⟨gp, 1, none⟩ (.int .i64 u)).cell? ⟨w.heap.size, 1, none⟩ = some (.int .i64 0)) := ⟨row2 M5.pl, row2 M5.res⟩
    have b0 := M5.res.thaw 0
    have b1 := M5.res.thaw 1
    have HZ := Lib.hid (M5.sets (.int .i64 c) (.int .i64 u))
    clear M3 M4 M5 p0 p1 f1 MH hHeld3 s4 g4 sD tA x1 x2 x3
    generalize w4.setCell ⟨gp, 1, none⟩ (.int .i64 u) = Z at *
    go_wp2_with fail
    exact bodyPost_ret (v := rdV c u) (results_cell_row Tryz.results143 _ _ w.heap.size 99 _ (0, 0) _ rfl HZ.out.2.2 Tryz.underlying99 rfl (by kernel_rfl)) rfl ⟨u, HV.out, rfl, HZ.out.1, HZ.out.2.1⟩
  · have q0 : (j == 0) = false := beq_eq_false_iff_ne.2 n0
    have q1 : (j == 1) = false := beq_eq_false_iff_ne.2 n1
    have q2 : (j == 2) = false := beq_eq_false_iff_ne.2 n2
    have HV := Lib.hid (show Elt.Val c x from ⟨HX.out, x1, x2⟩)
    clear n0 n1 n2
    go_upto_region 9 with fail
    refine forget (Sm W b w w.heap.size gi gp c x) M3 ?_
    · clear M3
      rintro Z M
      go_upto_region 9 with fail
      obtain ⟨⟨p0, p1⟩, ⟨q0, q1⟩⟩ : (Z.cell? ⟨gp, 0, none⟩ = some (.int .i64 c) ∧ Z.cell? ⟨gp, 1, none⟩ = some (.int .i64 x)) ∧ (Z.cell? ⟨w.heap.size, 0, none⟩ = some (.int .i64 0) ∧ Z.cell? ⟨w.heap.size, 1, none⟩ = some (.int .i64 0)) := ⟨row2 M.pl, row2 M.res⟩
      have f0 := M.res.thaw 0
      have f1 := M.res.thaw 1
      have HZ := Lib.hid (M.sets (.int .i64 c) (.int .i64 x))
      clear M
      go_wp2_with fail
      exact bodyPost_ret (v := rdV c x) (results_cell_row Tryz.results143 _ _ w.heap.size 99 _ (0, 0) _ rfl HZ.out.2.2 Tryz.underlying99 rfl (by kernel_rfl)) rfl ⟨x, HV.out, rfl, HZ.out.1, HZ.out.2.1⟩
end Go.Proofs.YtfnlgfacadmjpaaGreatDoor.El
namespace Go.Proofs.YtfnlgfacadmjpaaGreatDoor.El
open Go.RowKit

theorem own_ne {w : World} {base size n g : Nat} {e t : TypeId} {v : Value} {xs : List Value} {cs : Array Value} (h : w.ownsRow base e size v n xs) (hr : Row w g t cs) (hne : e ≠ t) : some g ≠ v.ownBlock := by
  rcases h.2 with ⟨rfl, _⟩ | ⟨g', cap, cur, rfl, _, hh, _⟩
  · simp [Value.ownBlock]
  · intro he
    have : g = g' := by simpa [Value.ownBlock] using he
    subst this
    unfold Row at hr
    rw [hr] at hh
    injection hh with hh
    injection hh with _ ht
    exact hne ht.symm
theorem own_under {w w' : World} {base size n : Nat} {e : TypeId} {v : Value} {xs : List Value} (h : w.ownsRow base e size v n xs) (hb : Below w.heap.size w w') : w'.ownsRow base e size v n xs := by
  refine h.kept (row := none) (grown_below hb) ?_
  cases hv : v.ownBlock
  · exact .inl rfl
  · exact .inr (by simp)
theorem below_own {a b c : World} {B size n : Nat} {e : TypeId} {v : Value} {xs : List Value} (h : Below B a b) (hB : B ≤ b.heap.size) (ho : b.ownsRow B e size v n xs) (k : b.grownBy c v.ownBlock) : Below B a c :=
  ⟨k.os.trans h.os, k.tape.trans h.tape, k.output.trans h.output, Nat.le_trans h.size k.size, fun i hi => (k.block i (by omega) (fun e => by have := (ho.lt i e.symm).1; omega)).trans (h.block i hi)⟩
def encR (x : Elt.R) : List Value := [.int .i64 x.1, .int .i64 x.2]
/-- The cells of readings. -/
def rdc (L : List Elt.R) : List Value := L.flatMap encR
theorem rdc_snoc (L : List Elt.R) (x : Elt.R) : rdc (L ++ [x]) = rdc L ++ [.int .i64 x.1, .int .i64 x.2] := by simp [rdc, encR]
theorem rdc_at : ∀ (L : List Elt.R) (i : Nat) (h : i < L.length), (rdc L)[i * 2]? = some (.int .i64 (L[i]).1) ∧ (rdc L)[i * 2 + 1]? = some (.int .i64 (L[i]).2)
  | x :: r, 0, _ => ⟨rfl, rfl⟩
  | x :: r, i + 1, h => by
    have := rdc_at r i (by simpa using h)
    have e : rdc (x :: r) = .int .i64 x.1 :: .int .i64 x.2 :: rdc r := rfl
    rw [e, show (i + 1) * 2 = i * 2 + 1 + 1 by omega]
    simpa using this
/-- A list of readings as the program holds it. -/
def RdIn (w : World) (v : Value) (L : List Elt.R) : Prop := ∃ A cap, v = .slice A L.length cap ∧ L.length ≤ cap ∧ cap ≤ 9223372036854775807 ∧ ∀ i (h : i < L.length), ∃ g off, A = some ⟨g, off, none⟩ ∧ g < w.heap.size ∧ w.cell? ⟨g, off + i * 2, none⟩ = some (.int .i64 (L[i]).1) ∧ w.cell? ⟨g, off + i * 2 + 1, none⟩ = some (.int .i64 (L[i]).2)
theorem RdIn.under {w w' : World} {v : Value} {L : List Elt.R} (h : RdIn w v L) (hb : Below w.heap.size w w') : RdIn w' v L := by
  obtain ⟨A, cap, h1, h2, h3, h4⟩ := h
  refine ⟨A, cap, h1, h2, h3, fun i hi => ?_⟩
  obtain ⟨g, off, a, b, c, d⟩ := h4 i hi
  exact ⟨g, off, a, Nat.lt_of_lt_of_le b hb.size, (hb.cell (p := ⟨g, off + i * 2, none⟩) b).trans c, (hb.cell (p := ⟨g, off + i * 2 + 1, none⟩) b).trans d⟩
theorem RdIn.nil (w : World) : RdIn w (.slice none 0 0) [] := ⟨none, 0, rfl, Nat.le_refl _, by omega, fun i hi => by simp at hi⟩
theorem RdIn.own {w : World} {base : Nat} {v : Value} {L : List Elt.R} (h : w.ownsRow base 99 2 v L.length (rdc L)) : RdIn w v L := by
  have h' := h
  rcases h.2 with ⟨rfl, h0⟩ | ⟨g, cap, cur, rfl, _, hh, hle, hmax, _, _⟩
  · have := List.eq_nil_of_length_eq_zero h0
    subst this
    exact RdIn.nil w
  · refine ⟨some ⟨g, 0, none⟩, cap, rfl, hle, by unfold maxLen at hmax; omega, fun i hi => ⟨g, 0, rfl, (Array.getElem?_eq_some_iff.1 hh).1, ?_⟩⟩
    rw [Nat.zero_add, h'.cellAt (i * 2) (by omega), h'.cellAt (i * 2 + 1) (by omega)]
    exact rdc_at L i hi
/-- A list that is not empty lies in one block. -/
theorem RdIn.one {w : World} {v : Value} {L : List Elt.R} (h : RdIn w v L) (hp : 0 < L.length) : ∃ g off cap, v = .slice (some ⟨g, off, none⟩) L.length cap ∧ L.length ≤ cap ∧ cap ≤ 9223372036854775807 ∧ g < w.heap.size ∧ ∀ i (h : i < L.length), w.cell? ⟨g, off + i * 2, none⟩ = some (.int .i64 (L[i]).1) ∧ w.cell? ⟨g, off + i * 2 + 1, none⟩ = some (.int .i64 (L[i]).2) := by
  obtain ⟨A, cap, rfl, h2, h3, h4⟩ := h
  obtain ⟨g, off, rfl, hg, -, -⟩ := h4 0 hp
  refine ⟨g, off, cap, rfl, h2, h3, hg, fun i hi => ?_⟩
  obtain ⟨g', off', e, -, c, d⟩ := h4 i hi
  injection e with e
  injection e with e1 e2
  subst e1; subst e2
  exact ⟨c, d⟩
/-- A list of numbers as the program holds it. -/
def NmIn (w : World) (v : Value) (C : List Int) : Prop := ∃ A cap, v = .slice A C.length cap ∧ C.length ≤ cap ∧ cap ≤ 9223372036854775807 ∧ ∀ i (h : i < C.length), ∃ g off, A = some ⟨g, off, none⟩ ∧ g < w.heap.size ∧ w.cell? ⟨g, off + i, none⟩ = some (.int .i64 C[i])
theorem NmIn.under {w w' : World} {v : Value} {C : List Int} (h : NmIn w v C) (hb : Below w.heap.size w w') : NmIn w' v C := by
  obtain ⟨A, cap, h1, h2, h3, h4⟩ := h
  refine ⟨A, cap, h1, h2, h3, fun i hi => ?_⟩
  obtain ⟨g, off, a, b, c⟩ := h4 i hi
  exact ⟨g, off, a, Nat.lt_of_lt_of_le b hb.size, (hb.cell (p := ⟨g, off + i, none⟩) b).trans c⟩
theorem NmIn.of {w : World} {v : Value} (h : ListIn w v) : ∃ C, NmIn w v C := by
  rcases h with rfl | ⟨a, n, c, rfl, h1, h2, h3⟩
  · exact ⟨[], none, 0, rfl, Nat.le_refl _, by omega, fun i hi => by simp at hi⟩
  · have hx : ∀ i, ∃ x : Int, i < n → ∃ bk off, a = ⟨bk, off, none⟩ ∧ bk < w.heap.size ∧ w.cell? ⟨bk, off + i, none⟩ = some (.int .i64 x) := fun i => by
      by_cases hi : i < n
      · obtain ⟨bk, off, x, e, hl, hc, -⟩ := h3 i hi
        exact ⟨x, fun _ => ⟨bk, off, by injection e, hl, hc⟩⟩
      · exact ⟨0, fun h => absurd h hi⟩
    have hch : ∃ f : Nat → Int, ∀ i, i < n → ∃ bk off, a = ⟨bk, off, none⟩ ∧ bk < w.heap.size ∧ w.cell? ⟨bk, off + i, none⟩ = some (.int .i64 (f i)) := ⟨fun i => Classical.choose (hx i), fun i => Classical.choose_spec (hx i)⟩
    obtain ⟨f, hf⟩ := hch
    refine ⟨(List.range n).map f, some a, c, by simp, by simpa using h1, h2, fun i hi => ?_⟩
    have hi' : i < n := by simpa using hi
    obtain ⟨bk, off, e, hl, hc⟩ := hf i hi'
    exact ⟨bk, off, by rw [e], hl, by simpa using hc⟩
theorem NmIn.one {w : World} {v : Value} {C : List Int} (h : NmIn w v C) (hp : 0 < C.length) : ∃ g off cap, v = .slice (some ⟨g, off, none⟩) C.length cap ∧ C.length ≤ cap ∧ cap ≤ 9223372036854775807 ∧ g < w.heap.size ∧ ∀ i (h : i < C.length), w.cell? ⟨g, off + i, none⟩ = some (.int .i64 C[i]) := by
  obtain ⟨A, cap, rfl, h2, h3, h4⟩ := h
  obtain ⟨g, off, rfl, hg, -⟩ := h4 0 hp
  refine ⟨g, off, cap, rfl, h2, h3, hg, fun i hi => ?_⟩
  obtain ⟨g', off', e, -, c⟩ := h4 i hi
  injection e with e
  injection e with e1 e2
  subst e1; subst e2
  exact c
end Go.Proofs.YtfnlgfacadmjpaaGreatDoor.El
namespace Go.Proofs.YtfnlgfacadmjpaaGreatDoor.El
open Go.RowKit

/-- The closure that Validate hands over: whether a reading has this error. -/
theorem pred_check (e : Int) (ge : Nat) (w : World) (hT : Tab w) (hg : ge < w.heap.size) (hcell : w.cell? ⟨ge, 0, none⟩ = some (.int .i64 e)) :
    PredBelow Tryz.prog 127 #[.pointer (some ⟨ge, 0, none⟩)] (fun x : Elt.R => .agg (encR x).toArray) (fun r => Elt.chk r.1 r.2 == e) w := fun W x hb => by
  have hcW : W.cell? ⟨ge, 0, none⟩ = some (.int .i64 e) := (hb.cell (p := ⟨ge, 0, none⟩) hg).trans hcell
  have hgW : ge < W.heap.size := Nat.lt_of_lt_of_le hg hb.size
  have hTW := hT.under hb
  obtain ⟨a, b⟩ := x
  show Calls Tryz.prog 127 #[.agg #[.int .i64 a, .int .i64 b], .pointer (some ⟨ge, 0, none⟩)] W _
  have b1 : Below W.heap.size W (W.alloc (.cells #[.int .i64 a, .int .i64 b] 99)) := (Below.refl _ _).alloc (Nat.le_refl _) _
  have r1 := Row.new W #[.int .i64 a, .int .i64 b] 99
  have hT1 := hTW.under b1
  have hc1 := (b1.cell (p := ⟨ge, 0, none⟩) hgW).trans hcW
  have HB := Lib.hid (hb.trans (b1.mono hb.size))
  obtain ⟨p0, p1⟩ := row2 r1
  have HK := Lib.hid (fun W (hW : Tab W) => check_any a b W hW)
  have hs1 : ge < (W.alloc (.cells #[.int .i64 a, .int .i64 b] 99)).heap.size := Nat.lt_of_lt_of_le hgW b1.size
  clear hcW hTW hT hcell hb
  go_enter Tryz.func127, Tryz.ntmps127
  go_upto_region 1 with fail
  generalize W.alloc (.cells #[.int .i64 a, .int .i64 b] 99) = W1 at *
  generalize W.heap.size = gb at *
  have R1 := Lib.hid r1
  have T1 := Lib.hid hT1
  clear r1 hT1 b1
  refine wp_region_held_drew (S := fun w' : World => w'.cell? ⟨gb, 0, none⟩ = some (.int .i64 a) ∧ w'.cell? ⟨gb, 1, none⟩ = some (.int .i64 b) ∧ w'.cell? ⟨ge, 0, none⟩ = some (.int .i64 e)) (by kernel_rfl) ⟨p0, p1, hc1⟩ (fun hHeld => ?_)
  refine wpAnyH_take (i := 0) (oi := ⟨some 4, _, _, _, _, none⟩) (v := ?_) rfl (by kernel_rfl) (by kernel_rfl) (by kernel_rfl) (fun _ _ _ h => h) (Or.inl ⟨by rfl, ?_⟩) (by assumption) ?_
  case refine_2 => (intro wx hSx; (try dsimp only at hSx); go_simp; first | done | with_reducible rfl)
  try simp only [Act.put]
  refine wpAnyH_take (i := 2) (oi := ⟨some 6, _, _, _, _, none⟩) (v := ?_) rfl (by kernel_rfl) (by kernel_rfl) (by kernel_rfl) (fun _ _ _ h => h) (Or.inl ⟨by rfl, ?_⟩) (by assumption) ?_
  case refine_2 => (intro wx hSx; (try dsimp only at hSx); go_simp; first | done | with_reducible rfl)
  try simp only [Act.put]
  refine wpAnyH_ready (rs := [1]) (by kernel_rfl) (by simp) ?_
  refine AllReadyH.cons rfl (fun K hK => ?_) AllReadyH.nil
  go_simp
  have hTd : Tab W1.drew := T1.out
  refine (HK.out _ hTd).mono ?_
  rintro e' w3 ⟨rfl, g3⟩
  have G3 : Hid (Below W1.heap.size W1 w3) := Lib.hid (undrew g3)
  clear g3
  have SS := row2 (R1.out.under G3.out)
  have SC := (G3.out.cell (p := ⟨ge, 0, none⟩) hs1).trans hc1
  go_wp2_with fail
  refine hK.out _ _ ⟨SS.1, SS.2, SC⟩ (fun hHeld2 => ?_)
  clear hK K hHeld SS SC
  try simp only [Act.put]
  refine wpAnyH_take (i := 3) (oi := ⟨some 7, _, _, _, _, none⟩) (v := ?_) rfl (by kernel_rfl) (by kernel_rfl) (by kernel_rfl) (fun _ _ _ h => h) (Or.inl ⟨by rfl, ?_⟩) (by assumption) ?_
  case refine_2 => (intro wx hSx; (try dsimp only at hSx); go_simp; first | done | with_reducible rfl)
  try simp only [Act.put]
  refine wpAnyH_take (i := 4) (oi := ⟨some 3, _, _, _, _, none⟩) (v := ?_) rfl (by kernel_rfl) (by kernel_rfl) (by kernel_rfl) (fun _ _ _ h => h) (Or.inl ⟨by rfl, ?_⟩) (by assumption) ?_
  case refine_2 => (intro wx hSx; (try dsimp only at hSx); go_simp; first | done | with_reducible rfl)
  try simp only [Act.put]
  refine wpAnyH_done (by kernel_rfl) ?_ _
  go_wp2_with fail
  go_ret
  exact ⟨rfl, HB.out.trans (G3.out.mono HB.out.size)⟩
theorem agg47 : ∀ w, (isAgg 99).run Tryz.prog w = .ok true w := Tryz.isAgg99
theorem size47 : ∀ w, (Go.sizeOf 99).run Tryz.prog w = .ok 2 w := Tryz.sizeOf99
set_option maxHeartbeats 1000000 in
theorem index_nil (A : Option Addr) (cap g : Nat) (lb : Array Value) (w : World) :
    Calls Tryz.prog 157 #[.slice A 0 cap, .func (.func g) #[] lb] w fun e w' => e = .returned (.int .i64 (-1)) ∧ w = w' := by
  go_enter Tryz.func157, Tryz.ntmps157
  go_wp2_with fail
  go_loop [5, 8] (fun _ t => t = .int .i64 0) (fun _ _ => 0)
  case atStart => rfl
  case round =>
    subst hrel
    go_wp2_with fail
    go_ret
    exact ⟨rfl, rfl⟩
theorem least {L : List Elt.R} (p : Elt.R → Bool) : (∀ j (h : j < L.length), p L[j] = false) ∨ ∃ k, ∃ h : k < L.length, p L[k] = true ∧ ∀ j (hj : j < L.length), j < k → p L[j] = false := by
  induction L with
  | nil => exact .inl (fun j h => by simp at h)
  | cons x r ih =>
    by_cases hx : p x = true
    · exact .inr ⟨0, by simp, hx, fun j _ h => by omega⟩
    · have hx' : p x = false := by simpa using hx
      rcases ih with h | ⟨k, hk, h1, h2⟩
      · refine .inl (fun j hj => ?_)
        cases j with
        | zero => exact hx'
        | succ j => exact h j (by simpa using hj)
      · refine .inr ⟨k + 1, by simpa using hk, h1, fun j hj hlt => ?_⟩
        cases j with
        | zero => exact hx'
        | succ j => exact h2 j (by simpa using hj) (by omega)
theorem getE {L : List Elt.R} {j : Nat} (h : j < L.length) : L[j]! = L[j] := by
  rw [List.getElem!_eq_getElem?_getD, List.getElem?_eq_getElem h]; rfl
theorem encR_len (x : Elt.R) : (encR x).length = 2 := rfl
theorem enc_cells {w : World} {g off : Nat} {L : List Elt.R} (hc : ∀ i (h : i < L.length), w.cell? ⟨g, off + i * 2, none⟩ = some (.int .i64 (L[i]).1) ∧ w.cell? ⟨g, off + i * 2 + 1, none⟩ = some (.int .i64 (L[i]).2)) :
    ∀ j, j < L.length → ∀ i v, (encR L[j]!)[i]? = some v → w.cell? ⟨g, off + j * 2 + i, none⟩ = some v := by
  intro j hj i v hv
  rw [getE hj] at hv
  obtain ⟨c0, c1⟩ := hc j hj
  match i, hv with
  | 0, hv => simp [encR] at hv; rw [← hv]; exact c0
  | 1, hv => simp [encR] at hv; rw [← hv]; exact c1
  | i + 2, hv => simp [encR] at hv
theorem containsFunc_any (v : Value) (L : List Elt.R) (e : Int) (ge : Nat) (w : World) (hL : RdIn w v L) (hT : Tab w) (hg : ge < w.heap.size) (hcell : w.cell? ⟨ge, 0, none⟩ = some (.int .i64 e)) :
    Calls Tryz.prog 126 #[v, .func (.func 127) #[] #[.pointer (some ⟨ge, 0, none⟩)]] w fun e' w' => e' = .returned (.bool (L.any fun r => Elt.chk r.1 r.2 == e)) ∧ Below w.heap.size w w' := by
  by_cases hp : 0 < L.length
  · obtain ⟨g, off, cap, rfl, h1, h2, hgl, hc⟩ := hL.one hp
    have eg : ∀ args w, (callFunc 127 args).run Tryz.prog w = .ok (.enter 127 args) w := enters_of Tryz.func127 (by kernel_rfl) rfl
    have := AnyQ.slices_ContainsFunc Tryz.lCon 2 agg47 size47 encR encR_len (fun r => Elt.chk r.1 r.2 == e) 127 #[.pointer (some ⟨ge, 0, none⟩)] eg g off L.length cap L w (pred_check e ge w hT hg hcell) (Nat.le_refl _) (by omega) hgl (enc_cells hc)
    rw [List.take_length] at this
    exact this
  · obtain rfl : L = [] := List.eq_nil_of_length_eq_zero (by omega)
    obtain ⟨A, cap, rfl, -⟩ := hL
    clear hT hg hcell
    show Calls Tryz.prog 126 #[.slice A 0 cap, .func (.func 127) #[] #[.pointer (some ⟨ge, 0, none⟩)]] w _
    go_enter Tryz.func126, Tryz.ntmps126
    go_wp2_with fail
    refine (index_nil _ _ _ _ _).mono ?_
    rintro e' w1 ⟨rfl, rfl⟩
    go_wp2_with fail
    go_ret
    exact ⟨rfl, Below.refl _ _⟩
end Go.Proofs.YtfnlgfacadmjpaaGreatDoor.El
namespace Go.Proofs.YtfnlgfacadmjpaaGreatDoor.El
open Go.RowKit

theorem any_chk {L : List Elt.R} {e : Int} : (L.any fun r => Elt.chk r.1 r.2 == e) = true ↔ ∃ r ∈ L, Elt.chk r.1 r.2 = e := by
  rw [List.any_eq_true]
  exact ⟨fun ⟨r, h, he⟩ => ⟨r, h, beq_iff_eq.1 he⟩, fun ⟨r, h, he⟩ => ⟨r, h, beq_iff_eq.2 he⟩⟩
set_option maxRecDepth 100000 in
set_option maxHeartbeats 2000000 in
theorem validate_any (v : Value) (L : List Elt.R) (w : World) (hL : RdIn w v L) (hT : Tab w) :
    Calls Tryz.prog 77 #[v] w fun e w' => e = .returned (.int .i64 (Elt.vld L)) ∧ Below w.heap.size w w' := by
  obtain ⟨z, hz⟩ : ∃ z, Elt.vld L = z := ⟨_, rfl⟩
  rw [hz]
  have HZ := Lib.hid hz; clear hz
  have HL := Lib.hid hL
  have HT := Lib.hid hT
  obtain ⟨A, cap, rfl, h1, h2, -⟩ := hL
  clear hT
  have j0 : ∀ w, (Instr.index 150 (.agg #[.int .i64 4, .int .i64 1]) (.int .i64 0)).run Tryz.prog w = .ok (.int .i64 4) w := fun _ => by kernel_rfl
  have j1 : ∀ w, (Instr.index 150 (.agg #[.int .i64 4, .int .i64 1]) (.int .i64 1)).run Tryz.prog w = .ok (.int .i64 1) w := fun _ => by kernel_rfl
  go_enter Tryz.func77, Tryz.ntmps77
  go_wp2_with fail
  go_loopw [7] (fun t wr => Below w.heap.size w wr ∧ (t = .int .i64 0 ∨ (t = .int .i64 1 ∧ Hid (¬ ∃ r ∈ L, Elt.chk r.1 r.2 = 4)) ∨ (t = .int .i64 2 ∧ Hid (¬ ∃ r ∈ L, Elt.chk r.1 r.2 = 4) ∧ Hid (¬ ∃ r ∈ L, Elt.chk r.1 r.2 = 1)))) (fun t _ => 2 - (intOf t).toNat)
  case atStart => exact ⟨Below.refl _ _, .inl rfl⟩
  case round =>
    obtain ⟨hb, hr⟩ := hrel
    have HB := Lib.hid hb; clear hb
    rcases hr with rfl | ⟨rfl, hn⟩ | ⟨rfl, hn, hm⟩
    · have b1 := HB.out.alloc HB.out.size (.cells #[.int .i64 4] 33)
      have r1 := Row.new wr #[.int .i64 4] 33
      go_upto_region 4 with fail
      generalize wr.alloc (.cells #[.int .i64 4] 33) = W1 at *
      generalize wr.heap.size = ge at *
      have c1 : W1.cell? ⟨ge, 0, none⟩ = some (.int .i64 4) := (r1.cell 0).trans rfl
      have HC := Lib.hid (containsFunc_any _ L 4 ge W1 (HL.out.under b1) (HT.out.under b1) r1.lt c1)
      have B1 := Lib.hid b1
      have R1 := Lib.hid r1
      clear b1 r1 c1
      cases ha : (L.any fun r => Elt.chk r.1 r.2 == 4) with
      | true =>
        rw [ha] at HC
        have HV : Hid (z = 4) := Lib.hid (by rw [← HZ.out, Elt.vld_kind (any_chk.1 ha)])
        clear ha
        go_wp2_with fail
        refine HC.out.mono ?_
        rintro e w2 ⟨rfl, g2⟩
        have c2 : w2.cell? ⟨ge, 0, none⟩ = some (.int .i64 4) := ((R1.out.under g2).cell 0).trans rfl
        have B2 := Lib.hid (B1.out.trans (g2.mono B1.out.size)); clear g2
        go_wp2_with fail
        go_ret
        exact ⟨ret_i64 HV.out.symm, B2.out⟩
      | false =>
        rw [ha] at HC
        have HN : Hid (¬ ∃ r ∈ L, Elt.chk r.1 r.2 = 4) := Lib.hid (fun h => by rw [any_chk.2 h] at ha; cases ha)
        clear ha
        go_wp2_with fail
        refine HC.out.mono ?_
        rintro e w2 ⟨rfl, g2⟩
        have B2 := Lib.hid (B1.out.trans (g2.mono B1.out.size)); clear g2
        go_wp2_with fail
        go_roundw
        case rel => exact ⟨B2.out, .inr (.inl ⟨rfl, HN⟩)⟩
        case measure => simp [intOf]
    · have b1 := HB.out.alloc HB.out.size (.cells #[.int .i64 1] 33)
      have r1 := Row.new wr #[.int .i64 1] 33
      go_upto_region 4 with fail
      generalize wr.alloc (.cells #[.int .i64 1] 33) = W1 at *
      generalize wr.heap.size = ge at *
      have c1 : W1.cell? ⟨ge, 0, none⟩ = some (.int .i64 1) := (r1.cell 0).trans rfl
      have HC := Lib.hid (containsFunc_any _ L 1 ge W1 (HL.out.under b1) (HT.out.under b1) r1.lt c1)
      have B1 := Lib.hid b1
      have R1 := Lib.hid r1
      clear b1 r1 c1
      cases ha : (L.any fun r => Elt.chk r.1 r.2 == 1) with
      | true =>
        rw [ha] at HC
        have HV : Hid (z = 1) := Lib.hid (by rw [← HZ.out, Elt.vld_range hn.out (any_chk.1 ha)])
        clear ha
        go_wp2_with fail
        refine HC.out.mono ?_
        rintro e w2 ⟨rfl, g2⟩
        have c2 : w2.cell? ⟨ge, 0, none⟩ = some (.int .i64 1) := ((R1.out.under g2).cell 0).trans rfl
        have B2 := Lib.hid (B1.out.trans (g2.mono B1.out.size)); clear g2
        go_wp2_with fail
        go_ret
        exact ⟨ret_i64 HV.out.symm, B2.out⟩
      | false =>
        rw [ha] at HC
        have HN : Hid (¬ ∃ r ∈ L, Elt.chk r.1 r.2 = 1) := Lib.hid (fun h => by rw [any_chk.2 h] at ha; cases ha)
        clear ha
        go_wp2_with fail
        refine HC.out.mono ?_
        rintro e w2 ⟨rfl, g2⟩
        have B2 := Lib.hid (B1.out.trans (g2.mono B1.out.size)); clear g2
        go_wp2_with fail
        go_roundw
        case rel => exact ⟨B2.out, .inr (.inr ⟨rfl, hn, HN⟩)⟩
        case measure => simp [intOf]
    · have HV := Lib.hid (Elt.vld_sort hn.out hm.out)
      clear hn hm j0 j1
      go_wp2_with fail
      go_loopw [5] (fun t w' => ∃ m : Nat, t = .int .i64 ((m : Int) + 1) ∧ m ≤ L.length ∧ Below w.heap.size w w' ∧ Hid (∀ j, ∀ h : j + 1 < L.length, j < m → (L[j]).1 < (L[j + 1]).1)) (fun t _ => L.length + 2 - (intOf t).toNat)
      case atStart => exact ⟨0, rfl, Nat.zero_le _, HB.out, Lib.hid (fun j h h' => by omega)⟩
      case round =>
        clear HB
        obtain ⟨m, rfl, hml, hb, ha⟩ := hrel
        by_cases hlt : m + 1 < L.length
        · have hR := HL.out.under hb
          obtain ⟨A', cap', e, -, -, hR⟩ := hR
          injection e with e1 e2 e3
          subst e1
          obtain ⟨g, off, rfl, -, c0, c1⟩ := hR m (by omega)
          obtain ⟨g', off', e, -, d0, d1⟩ := hR (m + 1) hlt
          injection e with e
          injection e with e1 e2
          subst e1; subst e2
          have HB := Lib.hid hb; clear hb hR e3
          have k0 : (0 : Int) ≤ (m : Int) := by omega
          have k1 : (m : Int) < (L.length : Int) := by omega
          have k2 : (m : Int) + 1 < (L.length : Int) := by omega
          have k3 : (0 : Int) ≤ (m : Int) + 1 := by omega
          have x1 : IntKind.i64.wrap (m : Int) = (m : Int) := IntWalk.i64_in _ (by omega)
          by_cases hc : (L[m]).1 < (L[m + 1]).1
          · have HA : Hid (∀ j, ∀ h : j + 1 < L.length, j < m + 1 → (L[j]).1 < (L[j + 1]).1) := Lib.hid (fun j h h' => by
              rcases Nat.lt_or_ge j m with q | q
              · exact ha.out j h q
              · obtain rfl : j = m := by omega
                exact hc)
            clear ha
            generalize L[m] = x at *
            generalize L[m + 1] = y at *
            have hc' : ¬ y.1 ≤ x.1 := by omega
            clear hc
            go_wp2_with fail
            go_quiet (fail)
            go_wp2_with fail
            go_roundw
            case rel => exact ⟨m + 1, by go_num, by omega, by first | exact HB.out | exact below_drewN HB.out _, HA⟩
            case measure => simp [intOf]; omega
          · have HV8 : Hid (z = 8) := Lib.hid (by rw [← HZ.out]; exact HV.out.2 (fun h => hc (h m hlt)))
            clear ha
            generalize L[m] = x at *
            generalize L[m + 1] = y at *
            have hc' : y.1 ≤ x.1 := by omega
            clear hc
            go_wp2_with fail
            go_quiet (fail)
            go_wp2_with fail
            go_ret
            exact ⟨ret_i64 HV8.out.symm, by first | exact HB.out | exact below_drewN HB.out _⟩
        · have HV0 : Hid (z = 0) := Lib.hid (by rw [← HZ.out]; exact HV.out.1 (fun j h => ha.out j h (by omega)))
          have k2 : ¬ (m : Int) + 1 < (L.length : Int) := by omega
          have HB := Lib.hid hb; clear hb ha
          go_wp2_with fail
          go_ret
          exact ⟨ret_i64 HV0.out.symm, HB.out⟩
/-- What Find answers. -/
def FndR (w : World) (L : List Elt.R) (c : Int) (e : Ending) (w' : World) : Prop := e = .returned (.tuple #[.int .i64 ((Elt.fnd L c).getD 0), .bool (Elt.fnd L c).isSome]) ∧ Below w.heap.size w w'
end Go.Proofs.YtfnlgfacadmjpaaGreatDoor.El
