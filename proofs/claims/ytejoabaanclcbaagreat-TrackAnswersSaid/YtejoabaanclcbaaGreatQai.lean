/- Texts of this proof. -/
import Derived.Test.YtejoabaanclcbaaGreatQah
import Derived.Deep.Cut
import Derived.Deep.CutRange
import Derived.Laws.StructEq
import Derived.ChangeKeysEq
namespace Go.Proofs.YtejoabaanclcbaaGreat
open Go.RowKit Go.Maps

def better (b x : Nat × Int) : Nat × Int := if b.2 < x.2 then x else b
/-- The share with the greatest weight, the first of several. -/
def best (L : List (Nat × Int)) : Nat × Int := L.foldl better (L.headD (0, 0))
def bestTo (L : List (Nat × Int)) (k : Nat) : Nat × Int := (L.take k).foldl better (L.headD (0, 0))
theorem bestTo_succ (L : List (Nat × Int)) (k : Nat) (h : k < L.length) : bestTo L (k + 1) = better (bestTo L k) L[k] := by
  unfold bestTo
  rw [List.take_succ_eq_append_getElem h, List.foldl_append]; rfl
/-- What is known while the shares are gone through. -/
structure Nr (W : World) (g gb : Nat) (L : List (Nat × Int)) (b : Nat × Int) (w : World) : Prop where
  below : Below W.heap.size W w
  shs : Shs w g L
  lg : g < w.heap.size
  gb0 : W.heap.size ≤ gb
  ne : g ≠ gb
  row : Row w gb 84 #[.int .i64 (b.1 : Int), .int .i64 b.2]
theorem Nr.under {W w w' : World} {g gb : Nat} {L : List (Nat × Int)} {b : Nat × Int} (h : Nr W g gb L b w) (hb : Below w.heap.size w w') : Nr W g gb L b w' :=
  ⟨h.below.trans (hb.mono h.below.size), h.shs.under h.lg hb, Nat.lt_of_lt_of_le h.lg hb.size, h.gb0, h.ne, h.row.under hb⟩
theorem Nr.put {W w : World} {g gb : Nat} {L : List (Nat × Int)} {b : Nat × Int} (h : Nr W g gb L b w) (x : Nat × Int) : Nr W g gb L x ((w.setCell ⟨gb, 0, none⟩ (.int .i64 (x.1 : Int))).setCell ⟨gb, 1, none⟩ (.int .i64 x.2)) :=
  ⟨(h.below.setCell h.gb0 _).setCell h.gb0 _, fun i hi => by
      obtain ⟨a, b⟩ := h.shs i hi
      have hne : gb ≠ g := Ne.symm h.ne
      exact ⟨by rw [World.cell?_setCell_far _ _ _ _ hne, World.cell?_setCell_far _ _ _ _ hne]; exact a, by rw [World.cell?_setCell_far _ _ _ _ hne, World.cell?_setCell_far _ _ _ _ hne]; exact b⟩,
    by simpa using h.lg, h.gb0, h.ne, (h.row.put 0 _).put 1 _⟩
theorem nearest_bad (n F a b c : Int) (w : World) (h : ¬ (1 ≤ n ∧ n ≤ 8) ∨ vb F a b c = false) :
    Calls Tryz.prog 52 #[.int .i64 n, .agg #[.int .i64 F, .int .i64 a, .int .i64 b, .int .i64 c]] w fun e w' => e = .returned (.tuple #[.int .i64 0, .int .i64 1]) ∧ Below w.heap.size w w' := by
  go_enter Tryz.func52, Tryz.ntmps52
  go_wp2_with fail
  refine (locate_bad _ _ _ _ _ _ h).mono ?_
  rintro e w1 ⟨rfl, hb1⟩
  go_wp2_with fail
  go_ret2
  exact ⟨rfl, ((Below.refl _ _).alloc (Nat.le_refl _) _).trans (hb1.mono (by simp))⟩
set_option maxRecDepth 100000 in
set_option maxHeartbeats 4000000 in
theorem nearest_yes (n f : Nat) (A B C : Int) (w : World) (hn : Lat.frq n) (hv : Ico.Vld f A B C) :
    Calls Tryz.prog 52 #[.int .i64 n, .agg #[.int .i64 f, .int .i64 A, .int .i64 B, .int .i64 C]] w fun e w' => e = .returned (.tuple #[.int .i64 ((best (Lat.loc n f A B C)).1 : Nat), .int .i64 0]) ∧ Below w.heap.size w w' := by
  go_enter Tryz.func52, Tryz.ntmps52
  go_wp2_with fail
  refine (locate_yes n f A B C _ hn hv).mono ?_
  obtain ⟨l1, l3⟩ := Lat.loc_pos hn hv
  generalize hloc : Lat.loc n f A B C = L at *
  have HLOC := Lib.hid hloc; clear hloc
  rintro e w1 ⟨v, rfl, g, cap, rfl, h2, h3, h4, h5, h6, h7⟩
  have b1 : Below w.heap.size w w1 := ((Below.refl _ _).alloc (Nat.le_refl _) _).trans (h4.mono (by simp))
  obtain ⟨q0, q1⟩ := h7 0 l1
  have H7 := Lib.hid h7; clear h7
  simp only [Nat.zero_mul, Nat.zero_add] at q0 q1
  have l0 : (0 : Int) < (L.length : Int) := by omega
  have hh : L.headD (0, 0) = L[0] := by cases L with | nil => simp at l1 | cons x r => rfl
  have N0 : Nr w g w1.heap.size L (bestTo L 0) (w1.alloc (.cells #[.int .i64 (L[0].1 : Int), .int .i64 L[0].2] 84)) :=
    ⟨b1.alloc b1.size _, H7.out.under h6 ((Below.refl _ _).alloc (Nat.le_refl _) _), by simp; omega, b1.size, by omega, by unfold bestTo; rw [hh]; exact Row.new _ _ _⟩
  have HN := Lib.hid N0; clear N0 hh b1 h4 h5
  clear h6
  generalize hL0 : L[0] = x0 at *
  clear hL0
  go_upto_region 5 with fail
  refine forget (fun Y => Nr w g w1.heap.size L (bestTo L 0) Y) HN.out ?_
  clear HN H7 q0 q1
  generalize w1.heap.size = gb at *
  rintro Y N
  have HN := Lib.hid N; clear N
  go_wp2_with fail
  go_loopw [25] (fun t wr => ∃ k : Nat, k ≤ L.length ∧ t = .int .i64 k ∧ Nr w g gb L (bestTo L k) wr) (fun t _ => L.length - (intOf t).toNat)
  case atStart => exact ⟨0, by omega, rfl, HN.out⟩
  case round =>
    clear HN
    obtain ⟨k, hk, rfl, N⟩ := hrel
    by_cases hlt : k < L.length
    · have k0 : (0 : Int) ≤ (k : Int) := by omega
      have k1 : (k : Int) < (L.length : Int) := by omega
      obtain ⟨q0, q1⟩ := N.shs k hlt
      have HB := Lib.hid (bestTo_succ L k hlt)
      have P := N.put L[k]
      obtain ⟨r0, r1⟩ : wr.cell? ⟨gb, 0, none⟩ = some (.int .i64 ((bestTo L k).1 : Int)) ∧ wr.cell? ⟨gb, 1, none⟩ = some (.int .i64 (bestTo L k).2) := ⟨(N.row.cell 0).trans rfl, (N.row.cell 1).trans rfl⟩
      have hgb := Lib.hid N.row.lt
      have hgl := Lib.hid N.lg
      generalize hx : L[k] = x at *
      have HN := Lib.hid N; clear N P
      clear hx
      generalize hb : bestTo L k = bb at *
      clear hb
      go_upto_region 8 with fail
      refine forget (fun Z => Nr w g gb L bb Z ∧ Row Z wr.heap.size 84 #[.int .i64 (x.1 : Int), .int .i64 x.2]) ⟨HN.out.under ((Below.refl _ _).alloc (Nat.le_refl _) _), Row.new _ _ _⟩ ?_
      clear q0 q1 r0 r1 HN hgb hgl
      generalize wr.heap.size = gx at *
      rintro Z ⟨N, rx⟩
      obtain ⟨q0, q1⟩ : Z.cell? ⟨gx, 0, none⟩ = some (.int .i64 (x.1 : Int)) ∧ Z.cell? ⟨gx, 1, none⟩ = some (.int .i64 x.2) := ⟨(rx.cell 0).trans rfl, (rx.cell 1).trans rfl⟩
      obtain ⟨r0, r1⟩ : Z.cell? ⟨gb, 0, none⟩ = some (.int .i64 (bb.1 : Int)) ∧ Z.cell? ⟨gb, 1, none⟩ = some (.int .i64 bb.2) := ⟨(N.row.cell 0).trans rfl, (N.row.cell 1).trans rfl⟩
      have f0 := N.row.thaw 0
      have f1 := N.row.thaw 1
      have HN := Lib.hid N; clear N rx
      by_cases hc : bb.2 < x.2
      · have HC := Lib.hid (show better bb x = x from if_pos hc)
        go_wp2_with fail
        go_roundw
        case rel => exact ⟨k + 1, by omega, by go_num, by rw [HB.out, HC.out]; exact HN.out.put x⟩
        case measure => simp [intOf]; omega
      · have HC := Lib.hid (show better bb x = bb from if_neg hc)
        go_wp2_with fail
        go_roundw
        case rel => exact ⟨k + 1, by omega, by go_num, by rw [HB.out, HC.out]; exact HN.out⟩
        case measure => simp [intOf]; omega
    · have hke : k = L.length := by omega
      have k1 : ¬ ((k : Int) < (L.length : Int)) := by omega
      have hbe : bestTo L k = best L := by unfold bestTo best; rw [hke, List.take_length]
      rw [hbe] at N
      have HKE := Lib.hid hke; clear hke hbe
      obtain ⟨r0, r1⟩ : wr.cell? ⟨gb, 0, none⟩ = some (.int .i64 ((best L).1 : Int)) ∧ wr.cell? ⟨gb, 1, none⟩ = some (.int .i64 (best L).2) := ⟨(N.row.cell 0).trans rfl, (N.row.cell 1).trans rfl⟩
      have HN := Lib.hid N; clear N
      go_wp2_with fail
      go_ret2
      exact ⟨by rw [HLOC.out]; rfl, HN.out.below⟩
end Go.Proofs.YtejoabaanclcbaaGreat



namespace Go.Proofs.YtejoabaanclcbaaGreat
open Go.RowKit Go.Maps

/-- The place is a node of the grid. -/
def isNd (n : Nat) (A B C : Int) : Bool := Lat.rs n A == 0 && Lat.rs n B == 0 && Lat.rs n C == 0
end Go.Proofs.YtejoabaanclcbaaGreat



namespace Go.Proofs.YtejoabaanclcbaaGreat
open Go.RowKit

/-- What somewhere leaves: a valid place, the reader as it should be, and nothing but the reader's block turned. -/
def Sent (W : World) (b : Nat) (w : World) (e : Ending) (w' : World) : Prop := ∃ (f : Nat) (x y z : Int), Ico.Vld f x y z ∧ e = .returned (.agg #[.int .i64 f, .int .i64 x, .int .i64 y, .int .i64 z]) ∧ Src W b w' ∧ w.grownBy w' (some b)
/-- What is known inside. -/
structure In (W : World) (b : Nat) (w0 : World) (gr gp : Nat) (p q r s : Int) (w : World) : Prop where
  src : Src W b w
  gro : w0.grownBy w (some b)
  res : Row w gr 32 #[.int .i64 0, .int .i64 0, .int .i64 0, .int .i64 0]
  pl : Row w gp 32 #[.int .i64 p, .int .i64 q, .int .i64 r, .int .i64 s]
  ne : gr ≠ gp
  nr : w0.heap.size ≤ gr
  np : w0.heap.size ≤ gp
  br : gr ≠ b
  bp : gp ≠ b
  w0W : W.heap.size ≤ w0.heap.size
section
variable {W w0 w w' : World} {b gr gp : Nat} {p q r s : Int}
theorem In.step (h : In W b w0 gr gp p q r s w) (hs : Src W b w') (hg : w.grownBy w' (some b)) : In W b w0 gr gp p q r s w' :=
  ⟨hs, grown_trans h.gro hg, h.res.grown hg (fun e => h.br (by injection e)), h.pl.grown hg (fun e => h.bp (by injection e)), h.ne, h.nr, h.np, h.br, h.bp, h.w0W⟩
theorem grown_set {a c : World} {B : Nat} {row : Option Nat} (h : a.grownBy c row) (g j : Nat) (u : Value) (hg : a.heap.size ≤ g) (hB : B = g) : a.grownBy (c.setCell ⟨B, j, none⟩ u) row := by
  subst hB
  exact ⟨h.os, h.tape, h.output, Nat.le_trans h.size (by simp), fun i hi hr => (Below.heap_setCell c ⟨B, j, none⟩ u i (fun e => by simp at e; omega)).trans (h.block i hi hr)⟩
theorem src_set {c : World} (h : Src W b c) (g j : Nat) (u : Value) (hg : W.heap.size ≤ g) (hb : g ≠ b) : Src W b (c.setCell ⟨g, j, none⟩ u) := by
  obtain ⟨A, n, cp, k, h1, h2, h3, h4⟩ := h.row
  exact ⟨h.base, h.below.setCell (p := ⟨g, j, none⟩) hg _, A, n, cp, k, h1, h2, (Below.heap_setCell c ⟨g, j, none⟩ u b (Ne.symm hb)).trans h3, h4⟩
theorem In.set1 (h : In W b w0 gr gp p q r s w) (x : Int) : In W b w0 gr gp p x r s (w.setCell ⟨gp, 1, none⟩ (.int .i64 x)) :=
  ⟨src_set h.src _ _ _ (Nat.le_trans h.w0W h.np) h.bp, grown_set h.gro gp 1 _ h.np rfl, h.res.far (Ne.symm h.ne) _, h.pl.put 1 _, h.ne, h.nr, h.np, h.br, h.bp, h.w0W⟩
theorem In.set2 (h : In W b w0 gr gp p q r s w) (x : Int) : In W b w0 gr gp p q x s (w.setCell ⟨gp, 2, none⟩ (.int .i64 x)) :=
  ⟨src_set h.src _ _ _ (Nat.le_trans h.w0W h.np) h.bp, grown_set h.gro gp 2 _ h.np rfl, h.res.far (Ne.symm h.ne) _, h.pl.put 2 _, h.ne, h.nr, h.np, h.br, h.bp, h.w0W⟩
theorem In.set3 (h : In W b w0 gr gp p q r s w) (x : Int) : In W b w0 gr gp p q r x (w.setCell ⟨gp, 3, none⟩ (.int .i64 x)) :=
  ⟨src_set h.src _ _ _ (Nat.le_trans h.w0W h.np) h.bp, grown_set h.gro gp 3 _ h.np rfl, h.res.far (Ne.symm h.ne) _, h.pl.put 3 _, h.ne, h.nr, h.np, h.br, h.bp, h.w0W⟩
theorem In.cells (h : In W b w0 gr gp p q r s w) :
    (w.cell? ⟨gp, 0, none⟩ = some (.int .i64 p) ∧ w.cell? ⟨gp, 1, none⟩ = some (.int .i64 q) ∧ w.cell? ⟨gp, 2, none⟩ = some (.int .i64 r) ∧ w.cell? ⟨gp, 3, none⟩ = some (.int .i64 s)) ∧
    (w.frozen? ⟨gp, 1, none⟩ = false ∧ w.frozen? ⟨gp, 2, none⟩ = false ∧ w.frozen? ⟨gp, 3, none⟩ = false) := ⟨row4 h.pl, h.pl.thaw 1, h.pl.thaw 2, h.pl.thaw 3⟩
theorem In.sets (h : In W b w0 gr gp p q r s w) (u0 u1 u2 u3 : Value) :
    Src W b ((((w.setCell ⟨gr, 0, none⟩ u0).setCell ⟨gr, 1, none⟩ u1).setCell ⟨gr, 2, none⟩ u2).setCell ⟨gr, 3, none⟩ u3) ∧ w0.grownBy ((((w.setCell ⟨gr, 0, none⟩ u0).setCell ⟨gr, 1, none⟩ u1).setCell ⟨gr, 2, none⟩ u2).setCell ⟨gr, 3, none⟩ u3) (some b) ∧
    Row ((((w.setCell ⟨gr, 0, none⟩ u0).setCell ⟨gr, 1, none⟩ u1).setCell ⟨gr, 2, none⟩ u2).setCell ⟨gr, 3, none⟩ u3) gr 32 #[u0, u1, u2, u3] := by
  have hW := Nat.le_trans h.w0W h.nr
  have r0 : Row (w.setCell ⟨gr, 0, none⟩ u0) gr 32 #[u0, .int .i64 0, .int .i64 0, .int .i64 0] := h.res.put 0 _
  have r1 : Row ((w.setCell ⟨gr, 0, none⟩ u0).setCell ⟨gr, 1, none⟩ u1) gr 32 #[u0, u1, .int .i64 0, .int .i64 0] := r0.put 1 _
  have r2 : Row (((w.setCell ⟨gr, 0, none⟩ u0).setCell ⟨gr, 1, none⟩ u1).setCell ⟨gr, 2, none⟩ u2) gr 32 #[u0, u1, u2, .int .i64 0] := r1.put 2 _
  exact ⟨src_set (src_set (src_set (src_set h.src _ _ _ hW h.br) _ _ _ hW h.br) _ _ _ hW h.br) _ _ _ hW h.br, grown_set (grown_set (grown_set (grown_set h.gro gr 0 _ h.nr rfl) gr 1 _ h.nr rfl) gr 2 _ h.nr rfl) gr 3 _ h.nr rfl, r2.put 3 _⟩
end
end Go.Proofs.YtejoabaanclcbaaGreat



namespace Go.Proofs.YtejoabaanclcbaaGreat
open Go.RowKit

theorem eq_share (a b a' b' : Int) (w : World) :
    (Op.equalIn 10000 84 (.agg #[.int .i64 a, .int .i64 b]) (.agg #[.int .i64 a', .int .i64 b'])).run Tryz.prog w = .ok (a == a' && b == b') w := by
  have u3 := Tryz.underlying3
  have a3 := Tryz.isAgg3
  have z3 := Tryz.sizeOf3
  have hS : Tryz.prog.underlying 84 = some (.struct (Tryz.prog.fieldsOf 84)) := by kernel_rfl
  rw [show (10000 : Nat) = 9999 + 1 from rfl, run_equalIn_agg w 9999 84 _ _ hS (by kernel_rfl)]
  simp only [Program.fieldsOf, Tryz.underlying84]
  go_simp
  by_cases h1 : a = a' <;> by_cases h2 : b = b' <;> simp [h1, h2]
/-- A list of shares as the program holds it. -/
def ShIn (w : World) (v : Value) (L : List (Nat × Int)) : Prop := ∃ A cap, v = .slice A L.length cap ∧ L.length ≤ cap ∧ cap ≤ 9223372036854775807 ∧ ∀ i (h : i < L.length), ∃ g, A = some ⟨g, 0, none⟩ ∧ g < w.heap.size ∧ w.cell? ⟨g, i * 2, none⟩ = some (.int .i64 ((L[i]).1 : Int)) ∧ w.cell? ⟨g, i * 2 + 1, none⟩ = some (.int .i64 (L[i]).2)
theorem ShIn.of {W w : World} {v : Value} {L : List (Nat × Int)} (h : ShareR W L v w) : ShIn w v L := by
  obtain ⟨g, cap, h1, h2, h3, h4, h5, h6, h7⟩ := h
  exact ⟨some ⟨g, 0, none⟩, cap, h1, h2, h3, fun i hi => ⟨g, rfl, h6, (h7 i hi).1, (h7 i hi).2⟩⟩
theorem ShIn.under {w w' : World} {v : Value} {L : List (Nat × Int)} (h : ShIn w v L) (hb : Below w.heap.size w w') : ShIn w' v L := by
  obtain ⟨A, cap, h1, h2, h3, h4⟩ := h
  refine ⟨A, cap, h1, h2, h3, fun i hi => ?_⟩
  obtain ⟨g, a, b, c, d⟩ := h4 i hi
  exact ⟨g, a, Nat.lt_of_lt_of_le b hb.size, (hb.cell (p := ⟨g, i * 2, none⟩) b).trans c, (hb.cell (p := ⟨g, i * 2 + 1, none⟩) b).trans d⟩
theorem ShIn.nil (w : World) : ShIn w (.slice none 0 0) [] := ⟨none, 0, rfl, Nat.le_refl _, by omega, fun i hi => by simp at hi⟩
theorem ShIn.drewN {w : World} {v : Value} {L : List (Nat × Int)} (h : ShIn w v L) (k : Nat) : ShIn (w.drewN k) v L := h
attribute [local go_sem] eq_share
end Go.Proofs.YtejoabaanclcbaaGreat



namespace Go.Proofs.YtejoabaanclcbaaGreat
open Go.RowKit

theorem rs_wd {n a : Nat} (hn : Lat.frq n) (ha : a ≤ n) : Lat.rs n (wd n a) = 0 ∧ Lat.xa n (wd n a) = a ∧ 0 ≤ wd n a ∧ wd n a ≤ 840 := by
  rcases Lat.eight hn with rfl | rfl | rfl | rfl | rfl | rfl | rfl | rfl <;> (simp only [Lat.rs, Lat.xa, wd]; simp; omega)
theorem wd_sum {n a b c : Nat} (hn : Lat.frq n) (h : a + b + c = n) : wd n a + wd n b + wd n c = 840 := by
  rcases Lat.eight hn with rfl | rfl | rfl | rfl | rfl | rfl | rfl | rfl <;> (simp only [wd]; simp; omega)
/-- A node as a place. -/
theorem nd_vld {n k : Nat} (hn : Lat.frq n) (hk : k < cn n) : Ico.Vld (Lat.nd n k).1 (wd n (Lat.nd n k).2.1) (wd n (Lat.nd n k).2.2) (wd n (n - (Lat.nd n k).2.1 - (Lat.nd n k).2.2)) := by
  obtain ⟨h1, h2, -⟩ := Lat.nd_in hn hk
  have a := rs_wd hn (show (Lat.nd n k).2.1 ≤ n by omega)
  have b := rs_wd hn (show (Lat.nd n k).2.2 ≤ n by omega)
  have c := rs_wd hn (show n - (Lat.nd n k).2.1 - (Lat.nd n k).2.2 ≤ n by omega)
  exact ⟨h1, a.2.2.1, a.2.2.2, b.2.2.1, b.2.2.2, c.2.2.1, c.2.2.2, wd_sum hn (by omega)⟩
theorem ncs_at (n : Nat) : ∀ (l : List Lat.Pt) (k : Nat) (h : k < l.length), (ncs n l)[k * 4]? = some (.int .i64 (l[k]).1) ∧ (ncs n l)[k * 4 + 1]? = some (.int .i64 (wd n (l[k]).2.1)) ∧ (ncs n l)[k * 4 + 2]? = some (.int .i64 (wd n (l[k]).2.2)) ∧ (ncs n l)[k * 4 + 3]? = some (.int .i64 (wd n (n - (l[k]).2.1 - (l[k]).2.2)))
  | p :: r, 0, _ => ⟨rfl, rfl, rfl, rfl⟩
  | p :: r, k + 1, h => by
    have := ncs_at n r k (by simpa using h)
    have e : ncs n (p :: r) = .int .i64 p.1 :: .int .i64 (wd n p.2.1) :: .int .i64 (wd n p.2.2) :: .int .i64 (wd n (n - p.2.1 - p.2.2)) :: ncs n r := rfl
    rw [e, show (k + 1) * 4 = k * 4 + 1 + 1 + 1 + 1 by omega]
    simpa using this
/-- A node's cells in the list that Nodes returns. -/
theorem nd_cells {w : World} {base n g cap : Nat} (hn : Lat.frq n) (h : w.ownsRow base 32 4 (.slice (some ⟨g, 0, none⟩) (cn n) cap) (cn n) (ncs n (Lat.nodes n))) (k : Nat) (hk : k < cn n) :
    w.cell? ⟨g, k * 4, none⟩ = some (.int .i64 (Lat.nd n k).1) ∧ w.cell? ⟨g, k * 4 + 1, none⟩ = some (.int .i64 (wd n (Lat.nd n k).2.1)) ∧ w.cell? ⟨g, k * 4 + 2, none⟩ = some (.int .i64 (wd n (Lat.nd n k).2.2)) ∧ w.cell? ⟨g, k * 4 + 3, none⟩ = some (.int .i64 (wd n (n - (Lat.nd n k).2.1 - (Lat.nd n k).2.2))) := by
  have hl : k < (Lat.nodes n).length := by rw [Lat.nodes_len hn]; exact hk
  have e : (Lat.nodes n)[k] = Lat.nd n k := by unfold Lat.nd; rw [List.getD_eq_getElem?_getD, List.getElem?_eq_getElem hl]; rfl
  have := ncs_at n (Lat.nodes n) k hl
  rw [e] at this
  rw [h.cellAt _ (by omega), h.cellAt _ (by omega), h.cellAt _ (by omega), h.cellAt _ (by omega)]
  exact this
theorem better_fold : ∀ (L : List (Nat × Int)) (b0 : Nat × Int), (∀ x ∈ L, b0.1 ≤ x.1) → L.Pairwise (fun a b => a.1 ≤ b.1) →
    let b := L.foldl better b0
    (b = b0 ∨ b ∈ L) ∧ b0.2 ≤ b.2 ∧ (∀ x ∈ L, x.2 ≤ b.2) ∧ (b0.2 = b.2 → b.1 ≤ b0.1) ∧ (∀ x ∈ L, x.2 = b.2 → b.1 ≤ x.1)
  | [], b0, _, _ => ⟨.inl rfl, Int.le_refl _, fun x h => by (cases h), fun _ => Nat.le_refl _, fun x h => by (cases h)⟩
  | x :: r, b0, h0, hp => by
    obtain ⟨p1, p2⟩ := List.pairwise_cons.1 hp
    intro b
    have hb : b = r.foldl better (better b0 x) := rfl
    by_cases hx : b0.2 < x.2
    · have e : better b0 x = x := if_pos hx
      rw [e] at hb
      obtain ⟨q1, q2, q3, q4, q5⟩ := better_fold r x p1 p2
      rw [← hb] at q1 q2 q3 q4 q5
      refine ⟨.inr (by rcases q1 with q | q <;> simp [q]), by omega, fun y hy => ?_, fun h => by omega, fun y hy => ?_⟩
      · rcases List.mem_cons.1 hy with rfl | hy
        · exact q2
        · exact q3 y hy
      · rcases List.mem_cons.1 hy with rfl | hy
        · exact q4
        · exact q5 y hy
    · have e : better b0 x = b0 := if_neg hx
      rw [e] at hb
      obtain ⟨q1, q2, q3, q4, q5⟩ := better_fold r b0 (fun y hy => h0 y (by simp [hy])) p2
      rw [← hb] at q1 q2 q3 q4 q5
      have h0x := h0 x (by simp)
      refine ⟨by rcases q1 with q | q <;> simp [q], q2, fun y hy => ?_, q4, fun y hy => ?_⟩
      · rcases List.mem_cons.1 hy with rfl | hy
        · omega
        · exact q3 y hy
      · rcases List.mem_cons.1 hy with rfl | hy
        · intro h; have := q4 (by omega); omega
        · exact q5 y hy
theorem best_is {L : List (Nat × Int)} (hl : 0 < L.length) (hp : L.Pairwise (fun a b => a.1 ≤ b.1)) : best L ∈ L ∧ (∀ x ∈ L, x.2 ≤ (best L).2) ∧ (∀ x ∈ L, x.2 = (best L).2 → (best L).1 ≤ x.1) := by
  match L, hl, hp with
  | x :: r, _, hp =>
    obtain ⟨p1, p2⟩ := List.pairwise_cons.1 hp
    obtain ⟨q1, q2, q3, q4, q5⟩ := better_fold (x :: r) x (fun y hy => by rcases List.mem_cons.1 hy with rfl | hy; exact Nat.le_refl _; exact p1 y hy) hp
    exact ⟨by rcases q1 with q | q; rw [show best (x :: r) = x from q]; simp; exact q, q3, q5⟩
/-- The greatest weight as the law finds it. -/
def mostTo (L : List (Nat × Int)) (k : Nat) : Int := (L.take k).foldl (fun m x => max m x.2) 0
def ownTo (L : List (Nat × Int)) (j k : Nat) : Int := (L.take k).foldl (fun o x => if x.1 = j then x.2 else o) 0
theorem max_fold : ∀ (L : List (Nat × Int)) (m : Int), m ≤ L.foldl (fun m x => max m x.2) m ∧ (∀ x ∈ L, x.2 ≤ L.foldl (fun m x => max m x.2) m) ∧ (L.foldl (fun m x => max m x.2) m = m ∨ ∃ x ∈ L, x.2 = L.foldl (fun m x => max m x.2) m)
  | [], m => ⟨Int.le_refl _, fun x h => by (cases h), .inl rfl⟩
  | x :: r, m => by
    obtain ⟨a, b, c⟩ := max_fold r (max m x.2)
    simp only [List.foldl_cons]
    refine ⟨by omega, fun y hy => ?_, ?_⟩
    · rcases List.mem_cons.1 hy with rfl | hy
      · omega
      · exact b y hy
    · rcases c with c | ⟨y, hy, c⟩
      · by_cases h : m ≤ x.2
        · exact .inr ⟨x, by simp, by rw [c]; omega⟩
        · exact .inl (by rw [c]; omega)
      · exact .inr ⟨y, by simp [hy], c⟩
theorem own_fold (j : Nat) (v : Int) : ∀ (L : List (Nat × Int)) (o : Int), (∀ y ∈ L, y.1 = j → y.2 = v) → (o = v ∨ ∃ y ∈ L, y.1 = j) → L.foldl (fun o x => if x.1 = j then x.2 else o) o = v
  | [], o, _, h => by rcases h with h | ⟨y, hy, _⟩; exact h; cases hy
  | x :: r, o, h1, h => by
    simp only [List.foldl_cons]
    refine own_fold j v r _ (fun y hy => h1 y (by simp [hy])) ?_
    by_cases e : x.1 = j
    · rw [if_pos e]; exact .inl (h1 x (by simp) e)
    · rw [if_neg e]
      rcases h with h | ⟨y, hy, hj⟩
      · exact .inl h
      · rcases List.mem_cons.1 hy with rfl | hy
        · exact absurd hj e
        · exact .inr ⟨y, hy, hj⟩
/-- What the law finds at the end. -/
theorem near_facts {n f : Nat} {A B C : Int} (hn : Lat.frq n) (hv : Ico.Vld f A B C) {L : List (Nat × Int)} (hL : Lat.loc n f A B C = L) :
    mostTo L L.length = (best L).2 ∧ ownTo L (best L).1 L.length = (best L).2 ∧ 0 < (best L).2 ∧ (∀ x ∈ L, x.2 = (best L).2 → (best L).1 ≤ x.1) ∧ (∀ x ∈ L, x.1 < 1000 ∧ 0 < x.2 ∧ x.2 ≤ 840) ∧ best L ∈ L := by
  subst hL
  have hin := Lat.loc_in hn hv
  have hs : (Lat.loc n f A B C).Pairwise (fun a b : Nat × Int => a.1 ≤ b.1) := Lat.srt_sorted _
  have hd : (Lat.loc n f A B C).Pairwise (fun a b : Nat × Int => a.1 ≠ b.1) := ((Lat.srt_perm _).symm.pairwise_iff (fun {a b} (h : a.1 ≠ b.1) => h.symm)).1 (Lat.shl_ne hn hv)
  obtain ⟨b1, b2, b3⟩ := best_is (Lat.loc_pos hn hv).1 hs
  have hp := (hin _ b1).2.1
  have hc := cn_le hn
  unfold cn at hc
  refine ⟨?_, ?_, hp, b3, fun x hx => ⟨by have := (hin x hx).1; omega, (hin x hx).2⟩, b1⟩
  · unfold mostTo
    rw [List.take_length]
    obtain ⟨m1, m2, m3⟩ := max_fold (Lat.loc n f A B C) 0
    have := m2 _ b1
    rcases m3 with m3 | ⟨x, hx, m3⟩
    · omega
    · have := b2 x hx; omega
  · unfold ownTo
    rw [List.take_length]
    refine own_fold _ _ _ _ (fun y hy e => ?_) (.inr ⟨_, b1, rfl⟩)
    by_cases he : y = best (Lat.loc n f A B C)
    · rw [he]
    · exfalso
      obtain ⟨i, hi, rfl⟩ := List.getElem_of_mem hy
      obtain ⟨j, hj, hbj⟩ := List.getElem_of_mem b1
      rw [← hbj] at e he
      rcases Nat.lt_trichotomy i j with h | h | h
      · exact List.pairwise_iff_getElem.1 hd i j hi hj h e
      · subst h; exact he rfl
      · exact List.pairwise_iff_getElem.1 hd j i hj hi h e.symm
end Go.Proofs.YtejoabaanclcbaaGreat


