/- What the law draws: a list of reports. -/
import Derived.Test.YtejoabaanclcbaaGreatQar
import Derived.Test.YtejoabaanclcbaaGreatTkB
namespace Go.Proofs.YtejoabaanclcbaaGreat.Tk
open Go.RowKit

theorem row_s {w : World} {b : Nat} {t : TypeId} {x y : Value} (h : Row w b t #[x, y]) : w.cell? ⟨b, 0, none⟩ = some x ∧ w.cell? ⟨b, 1, none⟩ = some y := ⟨(h.cell 0).trans rfl, (h.cell 1).trans rfl⟩
theorem src_at {W w : World} {b : Nat} (h : Src W b w) : b < w.heap.size := by
  obtain ⟨_, _, _, _, _, _, h3, _⟩ := h.row
  exact (Array.getElem?_eq_some_iff.1 h3).1
theorem vb_le {F a b c : Int} (h : vb F a b c = true) : 0 ≤ a ∧ a ≤ 840 := by
  unfold vb at h
  rw [decide_eq_true_iff] at h
  omega
/-- A text out of some. -/
def Txd (p : ByteArray → Prop) (W : World) (b : Nat) (w : World) (e : Ending) (w' : World) : Prop := ∃ x : ByteArray, p x ∧ e = .returned (.string x) ∧ Src W b w' ∧ w.grownBy w' (some b)
set_option maxHeartbeats 400000 in
theorem text_any (p : ByteArray → Prop) (W : World) (b : Nat) (w : World) (g n c : Nat) (h : Src W b w) (n1 : 1 ≤ n) (n2 : n ≤ 1000) (hgb : g ≠ b) (hgl : g < w.heap.size)
    (hp : ∀ i, i < n → ∃ x, w.cell? ⟨g, i, none⟩ = some (.string x) ∧ p x) :
    Calls Tryz.prog 22 #[.pointer (some ⟨b, 0, none⟩), .slice (some ⟨g, 0, none⟩) n c] w (Txd p W b w) := by
  have HP := Lib.hid hp; clear hp
  go_enter Tryz.func22, Tryz.ntmps22
  go_wp2_with fail
  refine (n_any W b _ _ h (by omega) (by omega)).mono ?_
  rintro e w1 ⟨x, ⟨x1, x2⟩, rfl, hs, hg⟩
  obtain ⟨k, rfl⟩ := Int.eq_ofNat_of_zero_le x1
  obtain ⟨v, hv, hpv⟩ := HP.out k (by omega)
  have hc : w1.cell? ⟨g, k, none⟩ = some (.string v) := (World.cell?_of_block (hg.block g hgl (by simpa using hgb))).trans hv
  clear hv
  go_wp2_with fail
  go_ret
  exact ⟨v, hpv, rfl, hs, hg⟩
/-- What is known of drawn reports; one: of one ship. -/
def RF (one : Bool) (R : List Rq) (m : Int) : Prop := R.Pairwise (fun x y => x.t < y.t) ∧ ∀ r ∈ R, 14000000 < r.t ∧ r.t ≤ m ∧ r.nm.size ≤ 5 ∧ (one = true → r.k = 2 ∧ r.nm = dl ∧ vb r.F r.A r.B r.C = true)
theorem RF.nil (one : Bool) (m : Int) : RF one [] m := ⟨List.Pairwise.nil, fun r hr => by cases hr⟩
theorem RF.app {one : Bool} {R : List Rq} {m x : Int} (h : RF one R m) (hx : 1 ≤ x) (hm : 14000000 ≤ m) {r : Rq} (ht : r.t = m + x) (hn : r.nm.size ≤ 5) (ho : one = true → r.k = 2 ∧ r.nm = dl ∧ vb r.F r.A r.B r.C = true) : RF one (R ++ [r]) (m + x) := by
  refine ⟨List.pairwise_append.2 ⟨h.1, List.pairwise_singleton _ _, fun a ha c hc => ?_⟩, fun a ha => ?_⟩
  · obtain rfl := List.mem_singleton.1 hc
    have := (h.2 a ha).2.1
    omega
  · rcases List.mem_append.1 ha with ha | ha
    · obtain ⟨h1, h2, h3⟩ := h.2 a ha
      exact ⟨h1, by omega, h3⟩
    · obtain rfl := List.mem_singleton.1 ha
      exact ⟨by omega, by omega, hn, ho⟩
/-- What is known while the list grows. -/
structure Rl (W : World) (b : Nat) (w : World) (gp : Nat) (R : List Rq) (u : Value) (Y : World) : Prop where
  src : Src W b Y
  gro : w.grownBy Y (some b)
  own : Y.ownsRow (gp + 1) 35 8 u R.length (rqc R)
  lt : gp < Y.heap.size
  wg : w.heap.size ≤ gp
  bw : b < w.heap.size
  wW : W.heap.size ≤ w.heap.size
section
variable {W w Y Y' : World} {b gp : Nat} {R : List Rq} {u v : Value}
theorem Rl.under (h : Rl W b w gp R u Y) (hb : Below Y.heap.size Y Y') : Rl W b w gp R u Y' :=
  ⟨h.src.under hb, grown_trans h.gro (grown_below hb), own_under h.own hb, Nat.lt_of_lt_of_le h.lt hb.size, h.wg, h.bw, h.wW⟩
theorem Rl.step (h : Rl W b w gp R u Y) (hs : Src W b Y') (hg : Y.grownBy Y' (some b)) : Rl W b w gp R u Y' :=
  ⟨hs, grown_trans h.gro hg, own_keep h.own (fun i hi => hg.block i (own_lt h.own hi).2 (fun e => by
    injection e with e
    have := (own_lt h.own hi).1
    have := h.bw
    have := h.wg
    omega)), Nat.lt_of_lt_of_le h.lt hg.size, h.wg, h.bw, h.wW⟩
theorem Rl.set (h : Rl W b w gp R u Y) {g : Nat} (j : Nat) (x : Value) (hg : w.heap.size ≤ g) (hne : ∀ i, u.ownBlock = some i → i ≠ g) : Rl W b w gp R u (Y.setCell ⟨g, j, none⟩ x) := by
  have hbg : g ≠ b := by have := h.bw; omega
  refine ⟨src_set h.src _ _ _ (Nat.le_trans h.wW hg) hbg, grown_set h.gro g j _ hg rfl, own_keep h.own (fun i hi => Below.heap_setCell Y ⟨g, j, none⟩ x i (hne i hi)), ?_, h.wg, h.bw, h.wW⟩
  simpa [World.setCell] using h.lt
theorem Rl.ne (h : Rl W b w gp R u Y) : ∀ i, u.ownBlock = some i → i ≠ gp := fun i hi => by have := (own_lt h.own hi).1; omega
theorem Rl.lt_own (h : Rl W b w gp R u Y) : ∀ i, u.ownBlock = some i → i < Y.heap.size := fun _i hi => (own_lt h.own hi).2
/-- A place is stored. -/
theorem Rl.place (h : Rl W b w gp R u Y) {t : TypeId} {y0 y1 y2 y3 : Value} (u0 u1 u2 u3 : Value) (hr : Row Y gp t #[y0, y1, y2, y3]) :
    Row ((((Y.setCell ⟨gp, 0, none⟩ u0).setCell ⟨gp, 1, none⟩ u1).setCell ⟨gp, 2, none⟩ u2).setCell ⟨gp, 3, none⟩ u3) gp t #[u0, u1, u2, u3] ∧ Rl W b w gp R u ((((Y.setCell ⟨gp, 0, none⟩ u0).setCell ⟨gp, 1, none⟩ u1).setCell ⟨gp, 2, none⟩ u2).setCell ⟨gp, 3, none⟩ u3) :=
  ⟨set4_row u0 u1 u2 u3 hr, (((h.set 0 u0 h.wg h.ne).set 1 u1 h.wg h.ne).set 2 u2 h.wg h.ne).set 3 u3 h.wg h.ne⟩
theorem rep_set0 {g : Nat} {t : TypeId} {y0 y1 y2 y3 y4 y5 y6 y7 : Value} (u : Value) (h : Row Y g t #[y0, y1, y2, y3, y4, y5, y6, y7]) : Row (Y.setCell ⟨g, 0, none⟩ u) g t #[u, y1, y2, y3, y4, y5, y6, y7] := h.put 0 u
theorem rep_set1 {g : Nat} {t : TypeId} {y0 y1 y2 y3 y4 y5 y6 y7 : Value} (u : Value) (h : Row Y g t #[y0, y1, y2, y3, y4, y5, y6, y7]) : Row (Y.setCell ⟨g, 1, none⟩ u) g t #[y0, u, y2, y3, y4, y5, y6, y7] := h.put 1 u
theorem rep_set4v {g : Nat} {t : TypeId} {y0 y1 y2 y3 y4 y5 y6 y7 : Value} (u : Value) (h : Row Y g t #[y0, y1, y2, y3, y4, y5, y6, y7]) : Row (Y.setCell ⟨g, 4, none⟩ u) g t #[y0, y1, y2, y3, u, y5, y6, y7] := h.put 4 u
/-- A report is appended. -/
theorem Rl.app (h : Rl W b w gp R u Y) {r : Rq} (ho : Y'.ownsRow (gp + 1) 35 8 v (R.length + 1) (rqc R ++ rqCells r)) (hg : Y.grownBy Y' u.ownBlock) : Rl W b w gp (R ++ [r]) v Y' := by
  have hbk : ∀ i, i < Y.heap.size → i ≤ gp → Y'.heap[i]? = Y.heap[i]? := fun i hi hi2 => hg.block i hi (fun e => by have := (own_lt h.own e.symm).1; omega)
  have hb := src_at h.src
  have hbw := h.bw
  have hwg := h.wg
  have hB : Below (gp + 1) Y Y' := ⟨hg.os, hg.tape, hg.output, hg.size, fun i hi => hbk i (by have := h.lt; omega) (by omega)⟩
  refine ⟨?_, ⟨hg.os.trans h.gro.os, hg.tape.trans h.gro.tape, hg.output.trans h.gro.output, Nat.le_trans h.gro.size hg.size, fun i hi hne => (hbk i (Nat.lt_of_lt_of_le hi h.gro.size) (by omega)).trans (h.gro.block i hi hne)⟩, ?_, Nat.lt_of_lt_of_le h.lt hg.size, h.wg, h.bw, h.wW⟩
  · obtain ⟨A, n, cp, k, h1, h2, h3, h4⟩ := h.src.row
    have hWb := h.src.base
    refine ⟨hWb, h.src.below.trans (hB.mono (by have := h.wW; omega)), A, n, cp, k, h1, h2, (hbk b hb (by omega)).trans h3, h4⟩
  · have e : rqc (R ++ [r]) = rqc R ++ rqCells r := by simp [rqc]
    rw [e, List.length_append]
    exact ho
theorem Row.apped {g : Nat} {t : TypeId} {cs : Array Value} (h : Row Y g t cs) (hg : Y.grownBy Y' u.ownBlock) (hne : ∀ i, u.ownBlock = some i → i ≠ g) : Row Y' g t cs :=
  (hg.block g h.lt (fun e => hne g e.symm rfl)).trans h
end
theorem infoRep : (Tryz.prog.info? 35).map (fun i => (i.zero, i.size, i.bytes)) = some (some (rqV 0 ⟨#[]⟩ 0 0 0 0 0 none 0 0), 8, 88) := by kernel_rfl
/-- What reports answers. -/
def RpO (W : World) (b : Nat) (w : World) (n : Nat) (one : Bool) (e : Ending) (w' : World) : Prop := ∃ (R : List Rq) (u : Value) (m : Int), (RF one R m ∧ m ≤ 14000000 + 400 * R.length) ∧ R.length ≤ n ∧ e = .returned u ∧ (Src W b w' ∧ w.grownBy w' (some b)) ∧ ∃ base, w.heap.size ≤ base ∧ w'.ownsRow base 35 8 u R.length (rqc R)
/-- The place and the list. -/
def Pr (W : World) (b : Nat) (w : World) (gp : Nat) (R : List Rq) (u : Value) (f : Nat) (A B C : Int) (Y : World) : Prop := Row Y gp 32 #[.int .i64 f, .int .i64 A, .int .i64 B, .int .i64 C] ∧ Rl W b w gp R u Y
section
variable {W w Y Y' : World} {b gp f : Nat} {R : List Rq} {u : Value} {A B C : Int}
theorem Pr.step (h : Pr W b w gp R u f A B C Y) (hs : Src W b Y') (hg : Y.grownBy Y' (some b)) : Pr W b w gp R u f A B C Y' :=
  ⟨h.1.grown hg (by have := h.2.bw; have := h.2.wg; simp; omega), h.2.step hs hg⟩
theorem Pr.under (h : Pr W b w gp R u f A B C Y) (hb : Below Y.heap.size Y Y') : Pr W b w gp R u f A B C Y' := ⟨h.1.under hb, h.2.under hb⟩
theorem Pr.put (h : Pr W b w gp R u f A B C Y) {g : Nat} (j : Nat) (x : Value) (hne : ∀ i, u.ownBlock = some i → i ≠ g) (hgp : gp ≠ g) (hg : w.heap.size ≤ g) : Pr W b w gp R u f A B C (Y.setCell ⟨g, j, none⟩ x) :=
  ⟨h.1.far (p := ⟨g, j, none⟩) (Ne.symm hgp) x, h.2.set j x hg hne⟩
end
set_option maxRecDepth 100000 in
set_option maxHeartbeats 16000000 in
theorem reports_any (W : World) (b : Nat) (w : World) (n : Nat) (one : Bool) (h : Src W b w) (hn : n ≤ 11) :
    Calls Tryz.prog 11 #[.pointer (some ⟨b, 0, none⟩), .int .i64 n, .bool one] w (RpO W b w n one) := by
  obtain ⟨i0, hi, hz0, hz1, hz2⟩ := info_parts infoRep
  have hbl := src_at h
  have hW := h.below.size
  go_enter Tryz.func11, Tryz.ntmps11
  go_wp2_with fail
  refine (place_any W b _ h).mono ?_
  rintro e w1 ⟨f0, A0, B0, C0, hv0, rfl, s1, g1⟩
  have P0 := Lib.hid (show Pr W b w w1.heap.size [] (.slice none 0 0) f0 A0 B0 C0 (w1.alloc (.cells #[.int .i64 f0, .int .i64 A0, .int .i64 B0, .int .i64 C0] 32)) from
    ⟨Row.new _ _ _, s1.under ((Below.refl _ _).alloc (Nat.le_refl _) _), grown_trans g1 (grown_below ((Below.refl _ _).alloc (Nat.le_refl _) _)), ⟨rfl, .inl ⟨rfl, rfl⟩⟩, by simp, g1.size, hbl, hW⟩)
  clear s1 g1 h hbl hW
  go_upto_region 4 with fail
  generalize w1.heap.size = gp at *
  generalize w1.alloc (.cells #[.int .i64 f0, .int .i64 A0, .int .i64 B0, .int .i64 C0] 32) = Y0 at *
  go_wp2_with fail
  refine (n_any W b _ _ P0.out.2.src (by omega) (by omega)).mono ?_
  rintro e w2 ⟨i, ⟨i1, i2⟩, rfl, s2, g2⟩
  obtain ⟨k0, rfl⟩ := Int.eq_ofNat_of_zero_le i1
  have hk0 : k0 ≤ n := by omega
  have P1 := Lib.hid (show Pr W b w gp [] (.slice none 0 0) f0 A0 B0 C0 w2 from ⟨P0.out.1.grown g2 (by have := P0.out.2.bw; have := P0.out.2.wg; simp; omega), P0.out.2.step s2 g2⟩)
  have HV0 := Lib.hid hv0
  clear P0 s2 g2 i1 i2 hv0
  go_wp2_with fail
  go_loopw [7, 8, 10] (fun u m t wr => ∃ (k : Nat) (mm : Int) (R : List Rq) (f : Nat) (A B C : Int), t = .int .i64 k ∧ k + R.length ≤ n ∧ m = .int .i64 mm ∧ (RF one R mm ∧ 14000000 ≤ mm ∧ mm ≤ 14000000 + 400 * R.length) ∧ Ico.Vld f A B C ∧ Pr W b w gp R u f A B C wr) (fun _ _ t _ => (intOf t).toNat)
  case atStart => exact ⟨k0, 14000000, [], f0, A0, B0, C0, rfl, by simpa using hk0, rfl, ⟨RF.nil _ _, by omega, by simp⟩, HV0.out, P1.out⟩
  case round =>
    clear P1 HV0 hk0
    obtain ⟨k, mm, R, f, A, B, C, rfl, hkR, rfl, ⟨hRF, hm1, hm2⟩, hv, hP⟩ := hrel
    have HP := Lib.hid hP; have HF := Lib.hid hRF; have HV := Lib.hid hv
    clear hP hRF hv
    have hRn : R.length ≤ 11 := by omega
    by_cases hk : 0 < k
    · have hk1 : (0 : Int) < (k : Int) := by omega
      go_wp2_with fail
      refine (range_any W b _ _ _ HP.out.2.src (by omega) (by omega) (by omega) (by omega)).mono ?_
      rintro e w3 ⟨x, ⟨x1, x2⟩, rfl, s3, g3⟩
      have P3 := Lib.hid (show Pr W b w gp R «u7» f A B C w3 from ⟨HP.out.1.grown g3 (by have := HP.out.2.bw; have := HP.out.2.wg; simp; omega), HP.out.2.step s3 g3⟩)
      clear HP s3 g3
      go_wp2_with fail
      refine (n_any W b _ _ P3.out.2.src (by omega) (by omega)).mono ?_
      rintro e w4 ⟨y, ⟨y1, y2⟩, rfl, s4, g4⟩
      have P4 := Lib.hid (show Pr W b w gp R «u7» f A B C w4 from ⟨P3.out.1.grown g4 (by have := P3.out.2.bw; have := P3.out.2.wg; simp; omega), P3.out.2.step s4 g4⟩)
      clear P3 s4 g4
      have HS : Hid (∀ (Y : World) (f : Nat) (A B C : Int) (u0 u1 u2 u3 : Int) (f' : Nat), Pr W b w gp R «u7» f A B C Y → f' = u0 → Pr W b w gp R «u7» f' u1 u2 u3 ((((Y.setCell ⟨gp, 0, none⟩ (.int .i64 u0)).setCell ⟨gp, 1, none⟩ (.int .i64 u1)).setCell ⟨gp, 2, none⟩ (.int .i64 u2)).setCell ⟨gp, 3, none⟩ (.int .i64 u3))) := Lib.hid (fun Y f A B C u0 u1 u2 u3 f' hP e => by subst e; exact hP.2.place _ _ _ _ hP.1)
      rcases (by omega : y = 0 ∨ y = 1 ∨ y = 2 ∨ y = 3 ∨ y = 4) with rfl | rfl | rfl | rfl | rfl
      · clear y1 y2
        go_wp2_with fail
        refine (place_any W b _ P4.out.2.src).mono ?_
        rintro e w5 ⟨f', A', B', C', hv', rfl, s5, g5⟩
        have P5 := Lib.hid (show Pr W b w gp R «u7» f A B C w5 from ⟨P4.out.1.grown g5 (by have := P4.out.2.bw; have := P4.out.2.wg; simp; omega), P4.out.2.step s5 g5⟩)
        clear P4 s5 g5 HV
        have HV := Lib.hid hv'
        clear hv'
        have z0 := P5.out.1.thaw 0
        have z1 := P5.out.1.thaw 1
        have z2 := P5.out.1.thaw 2
        have z3 := P5.out.1.thaw 3
        obtain ⟨d0, d1, d2, d3⟩ := row4 P5.out.1
        have P6 := Lib.hid (HS.out w5 f A B C f' A' B' C' f' P5.out rfl)
        go_upto_region 18 with fail
        refine forget (Pr W b w gp R «u7» f' A' B' C') P6.out ?_
        clear P5 P6 z0 z1 z2 z3 d0 d1 d2 d3
        rintro Y hP
        have P := Lib.hid hP
        clear hP
        obtain ⟨pc0, pc1, pc2, pc3⟩ := row4 P.out.1
        go_wp2_with fail
        refine (at_any (mm + x) _ _ _ _ _ HV.out).mono ?_
        rintro e w7 ⟨rfl, b7⟩
        have HN := Lib.hid (vb_of (nf_vld HV.out))
        have P7 := Lib.hid (show Pr W b w gp R «u7» f' A' B' C' (w7.alloc (.cells (rqC 2 dl (mm + x) (Ico.nf f' A' B' C' : Nat) (nw f' A' B' C' 0) (nw f' A' B' C' 1) (nw f' A' B' C' 2) none 0 0) 35)) from ⟨(P.out.1.under b7).alloc _, (P.out.2.under b7).under ((Below.refl _ _).alloc (Nat.le_refl _) _)⟩)
        have R7 := Lib.hid (Row.new w7 (rqC 2 dl (mm + x) (Ico.nf f' A' B' C' : Nat) (nw f' A' B' C' 0) (nw f' A' B' C' 1) (nw f' A' B' C' 2) none 0 0) 35)
        have N7 := Lib.hid (show ∀ i, «u7».ownBlock = some i → i ≠ w7.heap.size from fun i hi => Nat.ne_of_lt ((P.out.2.under b7).lt_own i hi))
        have G7 := Lib.hid (show gp ≠ w7.heap.size ∧ w.heap.size ≤ w7.heap.size ∧ w7.heap.size ≠ b from ⟨Nat.ne_of_lt (Nat.lt_of_lt_of_le P.out.2.lt b7.size), Nat.le_trans P.out.2.wg (Nat.le_of_lt (Nat.lt_of_lt_of_le P.out.2.lt b7.size)), by have := Nat.lt_of_lt_of_le P.out.2.lt b7.size; have := P.out.2.wg; have := P.out.2.bw; omega⟩)
        clear P b7 pc0 pc1 pc2 pc3
        go_upto_region 19 with fail
        generalize w7.heap.size = gr at *
        generalize ((Ico.nf f' A' B' C' : Nat) : Int) = n0 at *
        generalize nw f' A' B' C' 0 = n1 at *
        generalize nw f' A' B' C' 1 = n2 at *
        generalize nw f' A' B' C' 2 = n3 at *
        obtain ⟨hn1a, hn1b⟩ := vb_le HN.out
        generalize w7.alloc (.cells (rqC 2 dl (mm + x) n0 n1 n2 n3 none 0 0) 35) = Y7 at *
        cases one
        · go_wp2_with fail
          refine (range_any W b _ _ _ P7.out.2.src (by omega) (by omega) (by omega) (by omega)).mono ?_
          rintro e w8 ⟨kk, ⟨kk1, kk2⟩, rfl, s8, g8⟩
          have P8 := Lib.hid (P7.out.step s8 g8)
          have R8 := Lib.hid (R7.out.grown g8 (by have := G7.out; simp; omega))
          have z0 := R8.out.thaw 0
          obtain ⟨q0, q1, q2, q3, q4, q5, q6, q7⟩ := row8 R8.out
          have HSET := Lib.hid (P8.out.put 0 (.int .i64 kk) N7.out G7.out.1 G7.out.2.1)
          have RSET := Lib.hid (rep_set0 (.int .i64 kk) R8.out)
          clear P7 R7 s8 g8 P8 kk1 kk2
          go_upto_region 21 with fail
          clear R8 z0 q0 q1 q2 q3 q4 q5 q6 q7
          generalize w8.setCell ⟨gr, 0, none⟩ (.int .i64 kk) = Y8 at *
          have ba := (Below.refl Y8.heap.size Y8).alloc (Nat.le_refl _) (.cells #[.string dl, .string ⟨#[69, 67, 72, 79, 55]⟩] 9)
          have hrs := Row.new Y8 #[.string dl, .string ⟨#[69, 67, 72, 79, 55]⟩] 9
          have hne : Y8.heap.size ≠ b := Nat.ne_of_gt (src_at HSET.out.2.src)
          have P9 := Lib.hid (HSET.out.under ba)
          have R9 := Lib.hid (RSET.out.alloc (.cells #[.string dl, .string ⟨#[69, 67, 72, 79, 55]⟩] 9))
          obtain ⟨c0, c1⟩ := row_s hrs
          have hlt := hrs.lt
          clear HSET RSET hrs ba
          go_wp2_with fail
          refine (text_any (fun x => x.size ≤ 5) W b _ _ _ _ P9.out.2.src (by omega) (by omega) hne hlt (fun i hi => by
            rcases (by omega : i = 0 ∨ i = 1) with rfl | rfl
            · exact ⟨_, c0, by decide⟩
            · exact ⟨_, c1, by decide⟩)).mono ?_
          clear c0 c1 hlt hne
          rintro e w10 ⟨nm, hnm, rfl, s10, g10⟩
          have P10 := Lib.hid (P9.out.step s10 g10)
          have R10 := Lib.hid (R9.out.grown g10 (by have := G7.out; simp; omega))
          have HNM := Lib.hid hnm
          clear P9 R9 s10 g10 hnm
          have z1 := R10.out.thaw 1
          obtain ⟨q0, q1, q2, q3, q4, q5, q6, q7⟩ := row8 R10.out
          have HSET := Lib.hid (P10.out.put 1 (.string nm) N7.out G7.out.1 G7.out.2.1)
          have RSET := Lib.hid (rep_set1 (.string nm) R10.out)
          clear P10
          go_upto_region 22 with fail
          clear R10 z1 q0 q1 q2 q3 q4 q5 q6 q7
          generalize w10.setCell ⟨gr, 1, none⟩ (.string nm) = Y10 at *
          go_wp2_with fail
          refine (n_any W b _ _ HSET.out.2.src (by omega) (by omega)).mono ?_
          rintro e w11 ⟨zz, ⟨zz1, zz2⟩, rfl, s11, g11⟩
          have P11 := Lib.hid (HSET.out.step s11 g11)
          have R11 := Lib.hid (RSET.out.grown g11 (by have := G7.out; simp; omega))
          clear HSET RSET s11 g11
          by_cases hz : zz = 11
          · subst hz
            clear zz1 zz2
            obtain ⟨q0, q1, q2, q3, q4, q5, q6, q7⟩ := row8 R11.out
            have z4 := R11.out.thaw 4
            have HSET := Lib.hid (P11.out.put 4 (.int .i64 (n1 + 1)) N7.out G7.out.1 G7.out.2.1)
            have RSET := Lib.hid (rep_set4v (.int .i64 (n1 + 1)) R11.out)
            go_upto_region 24 with fail
            clear q0 q1 q2 q3 q4 q5 q6 q7 R11 P11 z4
            generalize w11.setCell ⟨gr, 4, none⟩ (.int .i64 (n1 + 1)) = Y12 at *
            obtain ⟨q0, q1, q2, q3, q4, q5, q6, q7⟩ := row8 RSET.out
            have HFF := Lib.hid (HF.out.app (one := false) (x := x) x1 hm1 (r := ⟨kk, nm, mm + x, n0, n1 + 1, n2, n3, none, 0, 0⟩) rfl HNM.out (fun h => by cases h))
            have HSA := Lib.hid (HSET.out.under ((Below.refl _ _).alloc (Nat.le_refl _) (.cells (rqC kk nm (mm + x) n0 (n1 + 1) n2 n3 none 0 0) 35)))
            go_wp2_with (at_builtin; go_loud (refine wpList_append_lies _ rfl (.tmp 104) (.tmp 106) 22 rfl (gp + 1) 35 i0 _ 8 88 Tryz.underlying22 hi hz0 hz1 hz2 rfl (by decide) «u7» R.length (rqc R) rfl HSA.out.2.own ⟨Y12.heap.size, 0, none⟩ 1 1 (rqCells ⟨kk, nm, mm + x, n0, n1 + 1, n2, n3, none, 0, 0⟩) rfl rfl (World.news_of_block (cs := (rqC kk nm (mm + x) n0 (n1 + 1) n2 n3 none 0 0)) (t := 35) (fr := (0, 0)) (heap_alloc_new Y12 _)) (rqc_one [⟨kk, nm, mm + x, n0, n1 + 1, n2, n3, none, 0, 0⟩] |> fun h u hu => h u (by simpa [rqc] using hu)) (by omega) (by unfold maxLen; omega) (by omega) HSA.out.2.lt (Y12.heap.size + 1) (by simp) ?_; intro g' cap' w6 hown6 hgrow6 hat6 hlt6; have H6 := Lib.hid (show Pr W b w gp (R ++ [⟨kk, nm, mm + x, n0, n1 + 1, n2, n3, none, 0, 0⟩]) _ f' A' B' C' w6 from ⟨Row.apped HSA.out.1 hgrow6 HSA.out.2.ne, HSA.out.2.app hown6 hgrow6⟩); clear hown6 hgrow6 hat6 hlt6))
            go_wp2_with fail
            go_roundw
            case rel => exact ⟨k - 1, mm + x, R ++ [⟨kk, nm, mm + x, n0, n1 + 1, n2, n3, none, 0, 0⟩], f', A', B', C', by go_num, by simp; omega, rfl, ⟨HFF.out, by omega, by simp; omega⟩, HV.out, H6.out⟩
            case measure => simp [intOf]; omega
          · have hzz : (zz == 11) = false := beq_eq_false_iff_ne.2 hz
            go_upto_region 24 with fail
            obtain ⟨q0, q1, q2, q3, q4, q5, q6, q7⟩ := row8 R11.out
            have HFF := Lib.hid (HF.out.app (one := false) (x := x) x1 hm1 (r := ⟨kk, nm, mm + x, n0, n1, n2, n3, none, 0, 0⟩) rfl HNM.out (fun h => by cases h))
            have HSA := Lib.hid (P11.out.under ((Below.refl _ _).alloc (Nat.le_refl _) (.cells (rqC kk nm (mm + x) n0 n1 n2 n3 none 0 0) 35)))
            go_wp2_with (at_builtin; go_loud (refine wpList_append_lies _ rfl (.tmp 104) (.tmp 106) 22 rfl (gp + 1) 35 i0 _ 8 88 Tryz.underlying22 hi hz0 hz1 hz2 rfl (by decide) «u7» R.length (rqc R) rfl HSA.out.2.own ⟨w11.heap.size, 0, none⟩ 1 1 (rqCells ⟨kk, nm, mm + x, n0, n1, n2, n3, none, 0, 0⟩) rfl rfl (World.news_of_block (cs := (rqC kk nm (mm + x) n0 n1 n2 n3 none 0 0)) (t := 35) (fr := (0, 0)) (heap_alloc_new w11 _)) (rqc_one [⟨kk, nm, mm + x, n0, n1, n2, n3, none, 0, 0⟩] |> fun h u hu => h u (by simpa [rqc] using hu)) (by omega) (by unfold maxLen; omega) (by omega) HSA.out.2.lt (w11.heap.size + 1) (by simp) ?_; intro g' cap' w6 hown6 hgrow6 hat6 hlt6; have H6 := Lib.hid (show Pr W b w gp (R ++ [⟨kk, nm, mm + x, n0, n1, n2, n3, none, 0, 0⟩]) _ f' A' B' C' w6 from ⟨Row.apped HSA.out.1 hgrow6 HSA.out.2.ne, HSA.out.2.app hown6 hgrow6⟩); clear hown6 hgrow6 hat6 hlt6))
            go_wp2_with fail
            go_roundw
            case rel => exact ⟨k - 1, mm + x, R ++ [⟨kk, nm, mm + x, n0, n1, n2, n3, none, 0, 0⟩], f', A', B', C', by go_num, by simp; omega, rfl, ⟨HFF.out, by omega, by simp; omega⟩, HV.out, H6.out⟩
            case measure => simp [intOf]; omega
        · obtain ⟨q0, q1, q2, q3, q4, q5, q6, q7⟩ := row8 R7.out
          go_upto_region 24 with fail
          have HFF := Lib.hid (HF.out.app (one := true) (x := x) x1 hm1 (r := ⟨2, dl, mm + x, n0, n1, n2, n3, none, 0, 0⟩) rfl (Nat.le_refl 5) (fun _ => ⟨rfl, rfl, HN.out⟩))
          have HSA := Lib.hid (P7.out.under ((Below.refl _ _).alloc (Nat.le_refl _) (.cells (rqC 2 dl (mm + x) n0 n1 n2 n3 none 0 0) 35)))
          go_wp2_with (at_builtin; go_loud (refine wpList_append_lies _ rfl (.tmp 104) (.tmp 106) 22 rfl (gp + 1) 35 i0 _ 8 88 Tryz.underlying22 hi hz0 hz1 hz2 rfl (by decide) «u7» R.length (rqc R) rfl HSA.out.2.own ⟨Y7.heap.size, 0, none⟩ 1 1 (rqCells ⟨2, dl, mm + x, n0, n1, n2, n3, none, 0, 0⟩) rfl rfl (World.news_of_block (cs := (rqC 2 dl (mm + x) n0 n1 n2 n3 none 0 0)) (t := 35) (fr := (0, 0)) (heap_alloc_new Y7 _)) (rqc_one [⟨2, dl, mm + x, n0, n1, n2, n3, none, 0, 0⟩] |> fun h u hu => h u (by simpa [rqc] using hu)) (by omega) (by unfold maxLen; omega) (by omega) HSA.out.2.lt (Y7.heap.size + 1) (by simp) ?_; intro g' cap' w6 hown6 hgrow6 hat6 hlt6; have H6 := Lib.hid (show Pr W b w gp (R ++ [⟨2, dl, mm + x, n0, n1, n2, n3, none, 0, 0⟩]) _ f' A' B' C' w6 from ⟨Row.apped HSA.out.1 hgrow6 HSA.out.2.ne, HSA.out.2.app hown6 hgrow6⟩); clear hown6 hgrow6 hat6 hlt6))
          go_wp2_with fail
          go_roundw
          case rel => exact ⟨k - 1, mm + x, R ++ [⟨2, dl, mm + x, n0, n1, n2, n3, none, 0, 0⟩], f', A', B', C', by go_num, by simp; omega, rfl, ⟨HFF.out, by omega, by simp; omega⟩, HV.out, H6.out⟩
          case measure => simp [intOf]; omega
      · clear y1 y2
        obtain ⟨c0, c1, c2, c3⟩ := row4 P4.out.1
        have hv := HV.out
        obtain ⟨v0, va0, va1, vb0, vb1, vc0, vc1, vs⟩ := hv
        obtain ⟨mn, hmn⟩ : ∃ x, min 120 A = x := ⟨_, rfl⟩
        have hm2 : 0 ≤ mn ∧ mn ≤ A ∧ mn ≤ 120 := by omega
        obtain ⟨hmn0, hmn1, hmn2⟩ := hm2
        have HVD := Lib.hid (show ∀ d : Int, 0 ≤ d → d ≤ mn → Ico.Vld f (A - d) (B + d) C from fun d h1 h2 => by unfold Ico.Vld; omega)
        go_wp2_with fail
        refine (range_any W b _ _ _ P4.out.2.src hmn0 (by omega) (by omega) (by omega)).mono ?_
        rintro e w5 ⟨d, ⟨hd1, hd2⟩, rfl, s5, g5⟩
        have P5 := Lib.hid (P4.out.step s5 g5)
        replace HVD := Lib.hid (HVD.out d hd1 hd2)
        clear P4 s5 g5 HV c0 c1 c2 c3
        obtain ⟨c0, c1, c2, c3⟩ := row4 P5.out.1
        have hdd : d ≤ A := by omega
        clear hmn
        go_wp2_with fail
        refine (refNormal_yes f _ _ _ _ HVD.out).mono ?_
        rintro e w6 ⟨rfl, b6⟩
        have HV := Lib.hid (nf_vld HVD.out)
        have P6 := Lib.hid (P5.out.under b6)
        clear P5 b6 HVD c0 c1 c2 c3
        generalize Ico.nf f (A - d) (B + d) C = f' at *
        generalize nw f (A - d) (B + d) C 0 = A' at *
        generalize nw f (A - d) (B + d) C 1 = B' at *
        generalize nw f (A - d) (B + d) C 2 = C' at *
        have z0 := P6.out.1.thaw 0
        have z1 := P6.out.1.thaw 1
        have z2 := P6.out.1.thaw 2
        have z3 := P6.out.1.thaw 3
        obtain ⟨d0, d1, d2, d3⟩ := row4 P6.out.1
        have P7 := Lib.hid (HS.out w6 f A B C f' A' B' C' f' P6.out rfl)
        go_upto_region 18 with fail
        refine forget (Pr W b w gp R «u7» f' A' B' C') P7.out ?_
        clear P6 P7 z0 z1 z2 z3 d0 d1 d2 d3
        rintro Y hP
        have P := Lib.hid hP
        clear hP
        clear v0 va0 va1 vb0 vb1 vc0 vc1 vs hmn0 hmn1 hmn2 hd1 hd2 hdd
        obtain ⟨pc0, pc1, pc2, pc3⟩ := row4 P.out.1
        go_wp2_with fail
        refine (at_any (mm + x) _ _ _ _ _ HV.out).mono ?_
        rintro e w7 ⟨rfl, b7⟩
        have HN := Lib.hid (vb_of (nf_vld HV.out))
        have P7 := Lib.hid (show Pr W b w gp R «u7» f' A' B' C' (w7.alloc (.cells (rqC 2 dl (mm + x) (Ico.nf f' A' B' C' : Nat) (nw f' A' B' C' 0) (nw f' A' B' C' 1) (nw f' A' B' C' 2) none 0 0) 35)) from ⟨(P.out.1.under b7).alloc _, (P.out.2.under b7).under ((Below.refl _ _).alloc (Nat.le_refl _) _)⟩)
        have R7 := Lib.hid (Row.new w7 (rqC 2 dl (mm + x) (Ico.nf f' A' B' C' : Nat) (nw f' A' B' C' 0) (nw f' A' B' C' 1) (nw f' A' B' C' 2) none 0 0) 35)
        have N7 := Lib.hid (show ∀ i, «u7».ownBlock = some i → i ≠ w7.heap.size from fun i hi => Nat.ne_of_lt ((P.out.2.under b7).lt_own i hi))
        have G7 := Lib.hid (show gp ≠ w7.heap.size ∧ w.heap.size ≤ w7.heap.size ∧ w7.heap.size ≠ b from ⟨Nat.ne_of_lt (Nat.lt_of_lt_of_le P.out.2.lt b7.size), Nat.le_trans P.out.2.wg (Nat.le_of_lt (Nat.lt_of_lt_of_le P.out.2.lt b7.size)), by have := Nat.lt_of_lt_of_le P.out.2.lt b7.size; have := P.out.2.wg; have := P.out.2.bw; omega⟩)
        clear P b7 pc0 pc1 pc2 pc3
        go_upto_region 19 with fail
        generalize w7.heap.size = gr at *
        generalize ((Ico.nf f' A' B' C' : Nat) : Int) = n0 at *
        generalize nw f' A' B' C' 0 = n1 at *
        generalize nw f' A' B' C' 1 = n2 at *
        generalize nw f' A' B' C' 2 = n3 at *
        obtain ⟨hn1a, hn1b⟩ := vb_le HN.out
        generalize w7.alloc (.cells (rqC 2 dl (mm + x) n0 n1 n2 n3 none 0 0) 35) = Y7 at *
        cases one
        · go_wp2_with fail
          refine (range_any W b _ _ _ P7.out.2.src (by omega) (by omega) (by omega) (by omega)).mono ?_
          rintro e w8 ⟨kk, ⟨kk1, kk2⟩, rfl, s8, g8⟩
          have P8 := Lib.hid (P7.out.step s8 g8)
          have R8 := Lib.hid (R7.out.grown g8 (by have := G7.out; simp; omega))
          have z0 := R8.out.thaw 0
          obtain ⟨q0, q1, q2, q3, q4, q5, q6, q7⟩ := row8 R8.out
          have HSET := Lib.hid (P8.out.put 0 (.int .i64 kk) N7.out G7.out.1 G7.out.2.1)
          have RSET := Lib.hid (rep_set0 (.int .i64 kk) R8.out)
          clear P7 R7 s8 g8 P8 kk1 kk2
          go_upto_region 21 with fail
          clear R8 z0 q0 q1 q2 q3 q4 q5 q6 q7
          generalize w8.setCell ⟨gr, 0, none⟩ (.int .i64 kk) = Y8 at *
          have ba := (Below.refl Y8.heap.size Y8).alloc (Nat.le_refl _) (.cells #[.string dl, .string ⟨#[69, 67, 72, 79, 55]⟩] 9)
          have hrs := Row.new Y8 #[.string dl, .string ⟨#[69, 67, 72, 79, 55]⟩] 9
          have hne : Y8.heap.size ≠ b := Nat.ne_of_gt (src_at HSET.out.2.src)
          have P9 := Lib.hid (HSET.out.under ba)
          have R9 := Lib.hid (RSET.out.alloc (.cells #[.string dl, .string ⟨#[69, 67, 72, 79, 55]⟩] 9))
          obtain ⟨c0, c1⟩ := row_s hrs
          have hlt := hrs.lt
          clear HSET RSET hrs ba
          go_wp2_with fail
          refine (text_any (fun x => x.size ≤ 5) W b _ _ _ _ P9.out.2.src (by omega) (by omega) hne hlt (fun i hi => by
            rcases (by omega : i = 0 ∨ i = 1) with rfl | rfl
            · exact ⟨_, c0, by decide⟩
            · exact ⟨_, c1, by decide⟩)).mono ?_
          clear c0 c1 hlt hne
          rintro e w10 ⟨nm, hnm, rfl, s10, g10⟩
          have P10 := Lib.hid (P9.out.step s10 g10)
          have R10 := Lib.hid (R9.out.grown g10 (by have := G7.out; simp; omega))
          have HNM := Lib.hid hnm
          clear P9 R9 s10 g10 hnm
          have z1 := R10.out.thaw 1
          obtain ⟨q0, q1, q2, q3, q4, q5, q6, q7⟩ := row8 R10.out
          have HSET := Lib.hid (P10.out.put 1 (.string nm) N7.out G7.out.1 G7.out.2.1)
          have RSET := Lib.hid (rep_set1 (.string nm) R10.out)
          clear P10
          go_upto_region 22 with fail
          clear R10 z1 q0 q1 q2 q3 q4 q5 q6 q7
          generalize w10.setCell ⟨gr, 1, none⟩ (.string nm) = Y10 at *
          go_wp2_with fail
          refine (n_any W b _ _ HSET.out.2.src (by omega) (by omega)).mono ?_
          rintro e w11 ⟨zz, ⟨zz1, zz2⟩, rfl, s11, g11⟩
          have P11 := Lib.hid (HSET.out.step s11 g11)
          have R11 := Lib.hid (RSET.out.grown g11 (by have := G7.out; simp; omega))
          clear HSET RSET s11 g11
          by_cases hz : zz = 11
          · subst hz
            clear zz1 zz2
            obtain ⟨q0, q1, q2, q3, q4, q5, q6, q7⟩ := row8 R11.out
            have z4 := R11.out.thaw 4
            have HSET := Lib.hid (P11.out.put 4 (.int .i64 (n1 + 1)) N7.out G7.out.1 G7.out.2.1)
            have RSET := Lib.hid (rep_set4v (.int .i64 (n1 + 1)) R11.out)
            go_upto_region 24 with fail
            clear q0 q1 q2 q3 q4 q5 q6 q7 R11 P11 z4
            generalize w11.setCell ⟨gr, 4, none⟩ (.int .i64 (n1 + 1)) = Y12 at *
            obtain ⟨q0, q1, q2, q3, q4, q5, q6, q7⟩ := row8 RSET.out
            have HFF := Lib.hid (HF.out.app (one := false) (x := x) x1 hm1 (r := ⟨kk, nm, mm + x, n0, n1 + 1, n2, n3, none, 0, 0⟩) rfl HNM.out (fun h => by cases h))
            have HSA := Lib.hid (HSET.out.under ((Below.refl _ _).alloc (Nat.le_refl _) (.cells (rqC kk nm (mm + x) n0 (n1 + 1) n2 n3 none 0 0) 35)))
            go_wp2_with (at_builtin; go_loud (refine wpList_append_lies _ rfl (.tmp 104) (.tmp 106) 22 rfl (gp + 1) 35 i0 _ 8 88 Tryz.underlying22 hi hz0 hz1 hz2 rfl (by decide) «u7» R.length (rqc R) rfl HSA.out.2.own ⟨Y12.heap.size, 0, none⟩ 1 1 (rqCells ⟨kk, nm, mm + x, n0, n1 + 1, n2, n3, none, 0, 0⟩) rfl rfl (World.news_of_block (cs := (rqC kk nm (mm + x) n0 (n1 + 1) n2 n3 none 0 0)) (t := 35) (fr := (0, 0)) (heap_alloc_new Y12 _)) (rqc_one [⟨kk, nm, mm + x, n0, n1 + 1, n2, n3, none, 0, 0⟩] |> fun h u hu => h u (by simpa [rqc] using hu)) (by omega) (by unfold maxLen; omega) (by omega) HSA.out.2.lt (Y12.heap.size + 1) (by simp) ?_; intro g' cap' w6 hown6 hgrow6 hat6 hlt6; have H6 := Lib.hid (show Pr W b w gp (R ++ [⟨kk, nm, mm + x, n0, n1 + 1, n2, n3, none, 0, 0⟩]) _ f' A' B' C' w6 from ⟨Row.apped HSA.out.1 hgrow6 HSA.out.2.ne, HSA.out.2.app hown6 hgrow6⟩); clear hown6 hgrow6 hat6 hlt6))
            go_wp2_with fail
            go_roundw
            case rel => exact ⟨k - 1, mm + x, R ++ [⟨kk, nm, mm + x, n0, n1 + 1, n2, n3, none, 0, 0⟩], f', A', B', C', by go_num, by simp; omega, rfl, ⟨HFF.out, by omega, by simp; omega⟩, HV.out, H6.out⟩
            case measure => simp [intOf]; omega
          · have hzz : (zz == 11) = false := beq_eq_false_iff_ne.2 hz
            go_upto_region 24 with fail
            obtain ⟨q0, q1, q2, q3, q4, q5, q6, q7⟩ := row8 R11.out
            have HFF := Lib.hid (HF.out.app (one := false) (x := x) x1 hm1 (r := ⟨kk, nm, mm + x, n0, n1, n2, n3, none, 0, 0⟩) rfl HNM.out (fun h => by cases h))
            have HSA := Lib.hid (P11.out.under ((Below.refl _ _).alloc (Nat.le_refl _) (.cells (rqC kk nm (mm + x) n0 n1 n2 n3 none 0 0) 35)))
            go_wp2_with (at_builtin; go_loud (refine wpList_append_lies _ rfl (.tmp 104) (.tmp 106) 22 rfl (gp + 1) 35 i0 _ 8 88 Tryz.underlying22 hi hz0 hz1 hz2 rfl (by decide) «u7» R.length (rqc R) rfl HSA.out.2.own ⟨w11.heap.size, 0, none⟩ 1 1 (rqCells ⟨kk, nm, mm + x, n0, n1, n2, n3, none, 0, 0⟩) rfl rfl (World.news_of_block (cs := (rqC kk nm (mm + x) n0 n1 n2 n3 none 0 0)) (t := 35) (fr := (0, 0)) (heap_alloc_new w11 _)) (rqc_one [⟨kk, nm, mm + x, n0, n1, n2, n3, none, 0, 0⟩] |> fun h u hu => h u (by simpa [rqc] using hu)) (by omega) (by unfold maxLen; omega) (by omega) HSA.out.2.lt (w11.heap.size + 1) (by simp) ?_; intro g' cap' w6 hown6 hgrow6 hat6 hlt6; have H6 := Lib.hid (show Pr W b w gp (R ++ [⟨kk, nm, mm + x, n0, n1, n2, n3, none, 0, 0⟩]) _ f' A' B' C' w6 from ⟨Row.apped HSA.out.1 hgrow6 HSA.out.2.ne, HSA.out.2.app hown6 hgrow6⟩); clear hown6 hgrow6 hat6 hlt6))
            go_wp2_with fail
            go_roundw
            case rel => exact ⟨k - 1, mm + x, R ++ [⟨kk, nm, mm + x, n0, n1, n2, n3, none, 0, 0⟩], f', A', B', C', by go_num, by simp; omega, rfl, ⟨HFF.out, by omega, by simp; omega⟩, HV.out, H6.out⟩
            case measure => simp [intOf]; omega
        · obtain ⟨q0, q1, q2, q3, q4, q5, q6, q7⟩ := row8 R7.out
          go_upto_region 24 with fail
          have HFF := Lib.hid (HF.out.app (one := true) (x := x) x1 hm1 (r := ⟨2, dl, mm + x, n0, n1, n2, n3, none, 0, 0⟩) rfl (Nat.le_refl 5) (fun _ => ⟨rfl, rfl, HN.out⟩))
          have HSA := Lib.hid (P7.out.under ((Below.refl _ _).alloc (Nat.le_refl _) (.cells (rqC 2 dl (mm + x) n0 n1 n2 n3 none 0 0) 35)))
          go_wp2_with (at_builtin; go_loud (refine wpList_append_lies _ rfl (.tmp 104) (.tmp 106) 22 rfl (gp + 1) 35 i0 _ 8 88 Tryz.underlying22 hi hz0 hz1 hz2 rfl (by decide) «u7» R.length (rqc R) rfl HSA.out.2.own ⟨Y7.heap.size, 0, none⟩ 1 1 (rqCells ⟨2, dl, mm + x, n0, n1, n2, n3, none, 0, 0⟩) rfl rfl (World.news_of_block (cs := (rqC 2 dl (mm + x) n0 n1 n2 n3 none 0 0)) (t := 35) (fr := (0, 0)) (heap_alloc_new Y7 _)) (rqc_one [⟨2, dl, mm + x, n0, n1, n2, n3, none, 0, 0⟩] |> fun h u hu => h u (by simpa [rqc] using hu)) (by omega) (by unfold maxLen; omega) (by omega) HSA.out.2.lt (Y7.heap.size + 1) (by simp) ?_; intro g' cap' w6 hown6 hgrow6 hat6 hlt6; have H6 := Lib.hid (show Pr W b w gp (R ++ [⟨2, dl, mm + x, n0, n1, n2, n3, none, 0, 0⟩]) _ f' A' B' C' w6 from ⟨Row.apped HSA.out.1 hgrow6 HSA.out.2.ne, HSA.out.2.app hown6 hgrow6⟩); clear hown6 hgrow6 hat6 hlt6))
          go_wp2_with fail
          go_roundw
          case rel => exact ⟨k - 1, mm + x, R ++ [⟨2, dl, mm + x, n0, n1, n2, n3, none, 0, 0⟩], f', A', B', C', by go_num, by simp; omega, rfl, ⟨HFF.out, by omega, by simp; omega⟩, HV.out, H6.out⟩
          case measure => simp [intOf]; omega
      · clear y1 y2
        obtain ⟨c0, c1, c2, c3⟩ := row4 P4.out.1
        have hv := HV.out
        obtain ⟨v0, va0, va1, vb0, vb1, vc0, vc1, vs⟩ := hv
        obtain ⟨mn, hmn⟩ : ∃ x, min 120 A = x := ⟨_, rfl⟩
        have hm2 : 0 ≤ mn ∧ mn ≤ A ∧ mn ≤ 120 := by omega
        obtain ⟨hmn0, hmn1, hmn2⟩ := hm2
        have HVD := Lib.hid (show ∀ d : Int, 0 ≤ d → d ≤ mn → Ico.Vld f (A - d) (B + d) C from fun d h1 h2 => by unfold Ico.Vld; omega)
        go_wp2_with fail
        refine (range_any W b _ _ _ P4.out.2.src hmn0 (by omega) (by omega) (by omega)).mono ?_
        rintro e w5 ⟨d, ⟨hd1, hd2⟩, rfl, s5, g5⟩
        have P5 := Lib.hid (P4.out.step s5 g5)
        replace HVD := Lib.hid (HVD.out d hd1 hd2)
        clear P4 s5 g5 HV c0 c1 c2 c3
        obtain ⟨c0, c1, c2, c3⟩ := row4 P5.out.1
        have hdd : d ≤ A := by omega
        clear hmn
        go_wp2_with fail
        refine (refNormal_yes f _ _ _ _ HVD.out).mono ?_
        rintro e w6 ⟨rfl, b6⟩
        have HV := Lib.hid (nf_vld HVD.out)
        have P6 := Lib.hid (P5.out.under b6)
        clear P5 b6 HVD c0 c1 c2 c3
        generalize Ico.nf f (A - d) (B + d) C = f' at *
        generalize nw f (A - d) (B + d) C 0 = A' at *
        generalize nw f (A - d) (B + d) C 1 = B' at *
        generalize nw f (A - d) (B + d) C 2 = C' at *
        have z0 := P6.out.1.thaw 0
        have z1 := P6.out.1.thaw 1
        have z2 := P6.out.1.thaw 2
        have z3 := P6.out.1.thaw 3
        obtain ⟨d0, d1, d2, d3⟩ := row4 P6.out.1
        have P7 := Lib.hid (HS.out w6 f A B C f' A' B' C' f' P6.out rfl)
        go_upto_region 18 with fail
        refine forget (Pr W b w gp R «u7» f' A' B' C') P7.out ?_
        clear P6 P7 z0 z1 z2 z3 d0 d1 d2 d3
        rintro Y hP
        have P := Lib.hid hP
        clear hP
        clear v0 va0 va1 vb0 vb1 vc0 vc1 vs hmn0 hmn1 hmn2 hd1 hd2 hdd
        obtain ⟨pc0, pc1, pc2, pc3⟩ := row4 P.out.1
        go_wp2_with fail
        refine (at_any (mm + x) _ _ _ _ _ HV.out).mono ?_
        rintro e w7 ⟨rfl, b7⟩
        have HN := Lib.hid (vb_of (nf_vld HV.out))
        have P7 := Lib.hid (show Pr W b w gp R «u7» f' A' B' C' (w7.alloc (.cells (rqC 2 dl (mm + x) (Ico.nf f' A' B' C' : Nat) (nw f' A' B' C' 0) (nw f' A' B' C' 1) (nw f' A' B' C' 2) none 0 0) 35)) from ⟨(P.out.1.under b7).alloc _, (P.out.2.under b7).under ((Below.refl _ _).alloc (Nat.le_refl _) _)⟩)
        have R7 := Lib.hid (Row.new w7 (rqC 2 dl (mm + x) (Ico.nf f' A' B' C' : Nat) (nw f' A' B' C' 0) (nw f' A' B' C' 1) (nw f' A' B' C' 2) none 0 0) 35)
        have N7 := Lib.hid (show ∀ i, «u7».ownBlock = some i → i ≠ w7.heap.size from fun i hi => Nat.ne_of_lt ((P.out.2.under b7).lt_own i hi))
        have G7 := Lib.hid (show gp ≠ w7.heap.size ∧ w.heap.size ≤ w7.heap.size ∧ w7.heap.size ≠ b from ⟨Nat.ne_of_lt (Nat.lt_of_lt_of_le P.out.2.lt b7.size), Nat.le_trans P.out.2.wg (Nat.le_of_lt (Nat.lt_of_lt_of_le P.out.2.lt b7.size)), by have := Nat.lt_of_lt_of_le P.out.2.lt b7.size; have := P.out.2.wg; have := P.out.2.bw; omega⟩)
        clear P b7 pc0 pc1 pc2 pc3
        go_upto_region 19 with fail
        generalize w7.heap.size = gr at *
        generalize ((Ico.nf f' A' B' C' : Nat) : Int) = n0 at *
        generalize nw f' A' B' C' 0 = n1 at *
        generalize nw f' A' B' C' 1 = n2 at *
        generalize nw f' A' B' C' 2 = n3 at *
        obtain ⟨hn1a, hn1b⟩ := vb_le HN.out
        generalize w7.alloc (.cells (rqC 2 dl (mm + x) n0 n1 n2 n3 none 0 0) 35) = Y7 at *
        cases one
        · go_wp2_with fail
          refine (range_any W b _ _ _ P7.out.2.src (by omega) (by omega) (by omega) (by omega)).mono ?_
          rintro e w8 ⟨kk, ⟨kk1, kk2⟩, rfl, s8, g8⟩
          have P8 := Lib.hid (P7.out.step s8 g8)
          have R8 := Lib.hid (R7.out.grown g8 (by have := G7.out; simp; omega))
          have z0 := R8.out.thaw 0
          obtain ⟨q0, q1, q2, q3, q4, q5, q6, q7⟩ := row8 R8.out
          have HSET := Lib.hid (P8.out.put 0 (.int .i64 kk) N7.out G7.out.1 G7.out.2.1)
          have RSET := Lib.hid (rep_set0 (.int .i64 kk) R8.out)
          clear P7 R7 s8 g8 P8 kk1 kk2
          go_upto_region 21 with fail
          clear R8 z0 q0 q1 q2 q3 q4 q5 q6 q7
          generalize w8.setCell ⟨gr, 0, none⟩ (.int .i64 kk) = Y8 at *
          have ba := (Below.refl Y8.heap.size Y8).alloc (Nat.le_refl _) (.cells #[.string dl, .string ⟨#[69, 67, 72, 79, 55]⟩] 9)
          have hrs := Row.new Y8 #[.string dl, .string ⟨#[69, 67, 72, 79, 55]⟩] 9
          have hne : Y8.heap.size ≠ b := Nat.ne_of_gt (src_at HSET.out.2.src)
          have P9 := Lib.hid (HSET.out.under ba)
          have R9 := Lib.hid (RSET.out.alloc (.cells #[.string dl, .string ⟨#[69, 67, 72, 79, 55]⟩] 9))
          obtain ⟨c0, c1⟩ := row_s hrs
          have hlt := hrs.lt
          clear HSET RSET hrs ba
          go_wp2_with fail
          refine (text_any (fun x => x.size ≤ 5) W b _ _ _ _ P9.out.2.src (by omega) (by omega) hne hlt (fun i hi => by
            rcases (by omega : i = 0 ∨ i = 1) with rfl | rfl
            · exact ⟨_, c0, by decide⟩
            · exact ⟨_, c1, by decide⟩)).mono ?_
          clear c0 c1 hlt hne
          rintro e w10 ⟨nm, hnm, rfl, s10, g10⟩
          have P10 := Lib.hid (P9.out.step s10 g10)
          have R10 := Lib.hid (R9.out.grown g10 (by have := G7.out; simp; omega))
          have HNM := Lib.hid hnm
          clear P9 R9 s10 g10 hnm
          have z1 := R10.out.thaw 1
          obtain ⟨q0, q1, q2, q3, q4, q5, q6, q7⟩ := row8 R10.out
          have HSET := Lib.hid (P10.out.put 1 (.string nm) N7.out G7.out.1 G7.out.2.1)
          have RSET := Lib.hid (rep_set1 (.string nm) R10.out)
          clear P10
          go_upto_region 22 with fail
          clear R10 z1 q0 q1 q2 q3 q4 q5 q6 q7
          generalize w10.setCell ⟨gr, 1, none⟩ (.string nm) = Y10 at *
          go_wp2_with fail
          refine (n_any W b _ _ HSET.out.2.src (by omega) (by omega)).mono ?_
          rintro e w11 ⟨zz, ⟨zz1, zz2⟩, rfl, s11, g11⟩
          have P11 := Lib.hid (HSET.out.step s11 g11)
          have R11 := Lib.hid (RSET.out.grown g11 (by have := G7.out; simp; omega))
          clear HSET RSET s11 g11
          by_cases hz : zz = 11
          · subst hz
            clear zz1 zz2
            obtain ⟨q0, q1, q2, q3, q4, q5, q6, q7⟩ := row8 R11.out
            have z4 := R11.out.thaw 4
            have HSET := Lib.hid (P11.out.put 4 (.int .i64 (n1 + 1)) N7.out G7.out.1 G7.out.2.1)
            have RSET := Lib.hid (rep_set4v (.int .i64 (n1 + 1)) R11.out)
            go_upto_region 24 with fail
            clear q0 q1 q2 q3 q4 q5 q6 q7 R11 P11 z4
            generalize w11.setCell ⟨gr, 4, none⟩ (.int .i64 (n1 + 1)) = Y12 at *
            obtain ⟨q0, q1, q2, q3, q4, q5, q6, q7⟩ := row8 RSET.out
            have HFF := Lib.hid (HF.out.app (one := false) (x := x) x1 hm1 (r := ⟨kk, nm, mm + x, n0, n1 + 1, n2, n3, none, 0, 0⟩) rfl HNM.out (fun h => by cases h))
            have HSA := Lib.hid (HSET.out.under ((Below.refl _ _).alloc (Nat.le_refl _) (.cells (rqC kk nm (mm + x) n0 (n1 + 1) n2 n3 none 0 0) 35)))
            go_wp2_with (at_builtin; go_loud (refine wpList_append_lies _ rfl (.tmp 104) (.tmp 106) 22 rfl (gp + 1) 35 i0 _ 8 88 Tryz.underlying22 hi hz0 hz1 hz2 rfl (by decide) «u7» R.length (rqc R) rfl HSA.out.2.own ⟨Y12.heap.size, 0, none⟩ 1 1 (rqCells ⟨kk, nm, mm + x, n0, n1 + 1, n2, n3, none, 0, 0⟩) rfl rfl (World.news_of_block (cs := (rqC kk nm (mm + x) n0 (n1 + 1) n2 n3 none 0 0)) (t := 35) (fr := (0, 0)) (heap_alloc_new Y12 _)) (rqc_one [⟨kk, nm, mm + x, n0, n1 + 1, n2, n3, none, 0, 0⟩] |> fun h u hu => h u (by simpa [rqc] using hu)) (by omega) (by unfold maxLen; omega) (by omega) HSA.out.2.lt (Y12.heap.size + 1) (by simp) ?_; intro g' cap' w6 hown6 hgrow6 hat6 hlt6; have H6 := Lib.hid (show Pr W b w gp (R ++ [⟨kk, nm, mm + x, n0, n1 + 1, n2, n3, none, 0, 0⟩]) _ f' A' B' C' w6 from ⟨Row.apped HSA.out.1 hgrow6 HSA.out.2.ne, HSA.out.2.app hown6 hgrow6⟩); clear hown6 hgrow6 hat6 hlt6))
            go_wp2_with fail
            go_roundw
            case rel => exact ⟨k - 1, mm + x, R ++ [⟨kk, nm, mm + x, n0, n1 + 1, n2, n3, none, 0, 0⟩], f', A', B', C', by go_num, by simp; omega, rfl, ⟨HFF.out, by omega, by simp; omega⟩, HV.out, H6.out⟩
            case measure => simp [intOf]; omega
          · have hzz : (zz == 11) = false := beq_eq_false_iff_ne.2 hz
            go_upto_region 24 with fail
            obtain ⟨q0, q1, q2, q3, q4, q5, q6, q7⟩ := row8 R11.out
            have HFF := Lib.hid (HF.out.app (one := false) (x := x) x1 hm1 (r := ⟨kk, nm, mm + x, n0, n1, n2, n3, none, 0, 0⟩) rfl HNM.out (fun h => by cases h))
            have HSA := Lib.hid (P11.out.under ((Below.refl _ _).alloc (Nat.le_refl _) (.cells (rqC kk nm (mm + x) n0 n1 n2 n3 none 0 0) 35)))
            go_wp2_with (at_builtin; go_loud (refine wpList_append_lies _ rfl (.tmp 104) (.tmp 106) 22 rfl (gp + 1) 35 i0 _ 8 88 Tryz.underlying22 hi hz0 hz1 hz2 rfl (by decide) «u7» R.length (rqc R) rfl HSA.out.2.own ⟨w11.heap.size, 0, none⟩ 1 1 (rqCells ⟨kk, nm, mm + x, n0, n1, n2, n3, none, 0, 0⟩) rfl rfl (World.news_of_block (cs := (rqC kk nm (mm + x) n0 n1 n2 n3 none 0 0)) (t := 35) (fr := (0, 0)) (heap_alloc_new w11 _)) (rqc_one [⟨kk, nm, mm + x, n0, n1, n2, n3, none, 0, 0⟩] |> fun h u hu => h u (by simpa [rqc] using hu)) (by omega) (by unfold maxLen; omega) (by omega) HSA.out.2.lt (w11.heap.size + 1) (by simp) ?_; intro g' cap' w6 hown6 hgrow6 hat6 hlt6; have H6 := Lib.hid (show Pr W b w gp (R ++ [⟨kk, nm, mm + x, n0, n1, n2, n3, none, 0, 0⟩]) _ f' A' B' C' w6 from ⟨Row.apped HSA.out.1 hgrow6 HSA.out.2.ne, HSA.out.2.app hown6 hgrow6⟩); clear hown6 hgrow6 hat6 hlt6))
            go_wp2_with fail
            go_roundw
            case rel => exact ⟨k - 1, mm + x, R ++ [⟨kk, nm, mm + x, n0, n1, n2, n3, none, 0, 0⟩], f', A', B', C', by go_num, by simp; omega, rfl, ⟨HFF.out, by omega, by simp; omega⟩, HV.out, H6.out⟩
            case measure => simp [intOf]; omega
        · obtain ⟨q0, q1, q2, q3, q4, q5, q6, q7⟩ := row8 R7.out
          go_upto_region 24 with fail
          have HFF := Lib.hid (HF.out.app (one := true) (x := x) x1 hm1 (r := ⟨2, dl, mm + x, n0, n1, n2, n3, none, 0, 0⟩) rfl (Nat.le_refl 5) (fun _ => ⟨rfl, rfl, HN.out⟩))
          have HSA := Lib.hid (P7.out.under ((Below.refl _ _).alloc (Nat.le_refl _) (.cells (rqC 2 dl (mm + x) n0 n1 n2 n3 none 0 0) 35)))
          go_wp2_with (at_builtin; go_loud (refine wpList_append_lies _ rfl (.tmp 104) (.tmp 106) 22 rfl (gp + 1) 35 i0 _ 8 88 Tryz.underlying22 hi hz0 hz1 hz2 rfl (by decide) «u7» R.length (rqc R) rfl HSA.out.2.own ⟨Y7.heap.size, 0, none⟩ 1 1 (rqCells ⟨2, dl, mm + x, n0, n1, n2, n3, none, 0, 0⟩) rfl rfl (World.news_of_block (cs := (rqC 2 dl (mm + x) n0 n1 n2 n3 none 0 0)) (t := 35) (fr := (0, 0)) (heap_alloc_new Y7 _)) (rqc_one [⟨2, dl, mm + x, n0, n1, n2, n3, none, 0, 0⟩] |> fun h u hu => h u (by simpa [rqc] using hu)) (by omega) (by unfold maxLen; omega) (by omega) HSA.out.2.lt (Y7.heap.size + 1) (by simp) ?_; intro g' cap' w6 hown6 hgrow6 hat6 hlt6; have H6 := Lib.hid (show Pr W b w gp (R ++ [⟨2, dl, mm + x, n0, n1, n2, n3, none, 0, 0⟩]) _ f' A' B' C' w6 from ⟨Row.apped HSA.out.1 hgrow6 HSA.out.2.ne, HSA.out.2.app hown6 hgrow6⟩); clear hown6 hgrow6 hat6 hlt6))
          go_wp2_with fail
          go_roundw
          case rel => exact ⟨k - 1, mm + x, R ++ [⟨2, dl, mm + x, n0, n1, n2, n3, none, 0, 0⟩], f', A', B', C', by go_num, by simp; omega, rfl, ⟨HFF.out, by omega, by simp; omega⟩, HV.out, H6.out⟩
          case measure => simp [intOf]; omega
      · clear y1 y2
        obtain ⟨c0, c1, c2, c3⟩ := row4 P4.out.1
        have hv := HV.out
        obtain ⟨v0, va0, va1, vb0, vb1, vc0, vc1, vs⟩ := hv
        obtain ⟨mn, hmn⟩ : ∃ x, min 200 C = x := ⟨_, rfl⟩
        have hm2 : 0 ≤ mn ∧ mn ≤ C ∧ mn ≤ 200 := by omega
        obtain ⟨hmn0, hmn1, hmn2⟩ := hm2
        have HVD := Lib.hid (show ∀ d : Int, 0 ≤ d → d ≤ mn → Ico.Vld f (A + d) B (C - d) from fun d h1 h2 => by unfold Ico.Vld; omega)
        go_wp2_with fail
        refine (range_any W b _ _ _ P4.out.2.src hmn0 (by omega) (by omega) (by omega)).mono ?_
        rintro e w5 ⟨d, ⟨hd1, hd2⟩, rfl, s5, g5⟩
        have P5 := Lib.hid (P4.out.step s5 g5)
        replace HVD := Lib.hid (HVD.out d hd1 hd2)
        clear P4 s5 g5 HV c0 c1 c2 c3
        obtain ⟨c0, c1, c2, c3⟩ := row4 P5.out.1
        have hdd : d ≤ C := by omega
        clear hmn
        go_wp2_with fail
        refine (refNormal_yes f _ _ _ _ HVD.out).mono ?_
        rintro e w6 ⟨rfl, b6⟩
        have HV := Lib.hid (nf_vld HVD.out)
        have P6 := Lib.hid (P5.out.under b6)
        clear P5 b6 HVD c0 c1 c2 c3
        generalize Ico.nf f (A + d) B (C - d) = f' at *
        generalize nw f (A + d) B (C - d) 0 = A' at *
        generalize nw f (A + d) B (C - d) 1 = B' at *
        generalize nw f (A + d) B (C - d) 2 = C' at *
        have z0 := P6.out.1.thaw 0
        have z1 := P6.out.1.thaw 1
        have z2 := P6.out.1.thaw 2
        have z3 := P6.out.1.thaw 3
        obtain ⟨d0, d1, d2, d3⟩ := row4 P6.out.1
        have P7 := Lib.hid (HS.out w6 f A B C f' A' B' C' f' P6.out rfl)
        go_upto_region 18 with fail
        refine forget (Pr W b w gp R «u7» f' A' B' C') P7.out ?_
        clear P6 P7 z0 z1 z2 z3 d0 d1 d2 d3
        rintro Y hP
        have P := Lib.hid hP
        clear hP
        clear v0 va0 va1 vb0 vb1 vc0 vc1 vs hmn0 hmn1 hmn2 hd1 hd2 hdd
        obtain ⟨pc0, pc1, pc2, pc3⟩ := row4 P.out.1
        go_wp2_with fail
        refine (at_any (mm + x) _ _ _ _ _ HV.out).mono ?_
        rintro e w7 ⟨rfl, b7⟩
        have HN := Lib.hid (vb_of (nf_vld HV.out))
        have P7 := Lib.hid (show Pr W b w gp R «u7» f' A' B' C' (w7.alloc (.cells (rqC 2 dl (mm + x) (Ico.nf f' A' B' C' : Nat) (nw f' A' B' C' 0) (nw f' A' B' C' 1) (nw f' A' B' C' 2) none 0 0) 35)) from ⟨(P.out.1.under b7).alloc _, (P.out.2.under b7).under ((Below.refl _ _).alloc (Nat.le_refl _) _)⟩)
        have R7 := Lib.hid (Row.new w7 (rqC 2 dl (mm + x) (Ico.nf f' A' B' C' : Nat) (nw f' A' B' C' 0) (nw f' A' B' C' 1) (nw f' A' B' C' 2) none 0 0) 35)
        have N7 := Lib.hid (show ∀ i, «u7».ownBlock = some i → i ≠ w7.heap.size from fun i hi => Nat.ne_of_lt ((P.out.2.under b7).lt_own i hi))
        have G7 := Lib.hid (show gp ≠ w7.heap.size ∧ w.heap.size ≤ w7.heap.size ∧ w7.heap.size ≠ b from ⟨Nat.ne_of_lt (Nat.lt_of_lt_of_le P.out.2.lt b7.size), Nat.le_trans P.out.2.wg (Nat.le_of_lt (Nat.lt_of_lt_of_le P.out.2.lt b7.size)), by have := Nat.lt_of_lt_of_le P.out.2.lt b7.size; have := P.out.2.wg; have := P.out.2.bw; omega⟩)
        clear P b7 pc0 pc1 pc2 pc3
        go_upto_region 19 with fail
        generalize w7.heap.size = gr at *
        generalize ((Ico.nf f' A' B' C' : Nat) : Int) = n0 at *
        generalize nw f' A' B' C' 0 = n1 at *
        generalize nw f' A' B' C' 1 = n2 at *
        generalize nw f' A' B' C' 2 = n3 at *
        obtain ⟨hn1a, hn1b⟩ := vb_le HN.out
        generalize w7.alloc (.cells (rqC 2 dl (mm + x) n0 n1 n2 n3 none 0 0) 35) = Y7 at *
        cases one
        · go_wp2_with fail
          refine (range_any W b _ _ _ P7.out.2.src (by omega) (by omega) (by omega) (by omega)).mono ?_
          rintro e w8 ⟨kk, ⟨kk1, kk2⟩, rfl, s8, g8⟩
          have P8 := Lib.hid (P7.out.step s8 g8)
          have R8 := Lib.hid (R7.out.grown g8 (by have := G7.out; simp; omega))
          have z0 := R8.out.thaw 0
          obtain ⟨q0, q1, q2, q3, q4, q5, q6, q7⟩ := row8 R8.out
          have HSET := Lib.hid (P8.out.put 0 (.int .i64 kk) N7.out G7.out.1 G7.out.2.1)
          have RSET := Lib.hid (rep_set0 (.int .i64 kk) R8.out)
          clear P7 R7 s8 g8 P8 kk1 kk2
          go_upto_region 21 with fail
          clear R8 z0 q0 q1 q2 q3 q4 q5 q6 q7
          generalize w8.setCell ⟨gr, 0, none⟩ (.int .i64 kk) = Y8 at *
          have ba := (Below.refl Y8.heap.size Y8).alloc (Nat.le_refl _) (.cells #[.string dl, .string ⟨#[69, 67, 72, 79, 55]⟩] 9)
          have hrs := Row.new Y8 #[.string dl, .string ⟨#[69, 67, 72, 79, 55]⟩] 9
          have hne : Y8.heap.size ≠ b := Nat.ne_of_gt (src_at HSET.out.2.src)
          have P9 := Lib.hid (HSET.out.under ba)
          have R9 := Lib.hid (RSET.out.alloc (.cells #[.string dl, .string ⟨#[69, 67, 72, 79, 55]⟩] 9))
          obtain ⟨c0, c1⟩ := row_s hrs
          have hlt := hrs.lt
          clear HSET RSET hrs ba
          go_wp2_with fail
          refine (text_any (fun x => x.size ≤ 5) W b _ _ _ _ P9.out.2.src (by omega) (by omega) hne hlt (fun i hi => by
            rcases (by omega : i = 0 ∨ i = 1) with rfl | rfl
            · exact ⟨_, c0, by decide⟩
            · exact ⟨_, c1, by decide⟩)).mono ?_
          clear c0 c1 hlt hne
          rintro e w10 ⟨nm, hnm, rfl, s10, g10⟩
          have P10 := Lib.hid (P9.out.step s10 g10)
          have R10 := Lib.hid (R9.out.grown g10 (by have := G7.out; simp; omega))
          have HNM := Lib.hid hnm
          clear P9 R9 s10 g10 hnm
          have z1 := R10.out.thaw 1
          obtain ⟨q0, q1, q2, q3, q4, q5, q6, q7⟩ := row8 R10.out
          have HSET := Lib.hid (P10.out.put 1 (.string nm) N7.out G7.out.1 G7.out.2.1)
          have RSET := Lib.hid (rep_set1 (.string nm) R10.out)
          clear P10
          go_upto_region 22 with fail
          clear R10 z1 q0 q1 q2 q3 q4 q5 q6 q7
          generalize w10.setCell ⟨gr, 1, none⟩ (.string nm) = Y10 at *
          go_wp2_with fail
          refine (n_any W b _ _ HSET.out.2.src (by omega) (by omega)).mono ?_
          rintro e w11 ⟨zz, ⟨zz1, zz2⟩, rfl, s11, g11⟩
          have P11 := Lib.hid (HSET.out.step s11 g11)
          have R11 := Lib.hid (RSET.out.grown g11 (by have := G7.out; simp; omega))
          clear HSET RSET s11 g11
          by_cases hz : zz = 11
          · subst hz
            clear zz1 zz2
            obtain ⟨q0, q1, q2, q3, q4, q5, q6, q7⟩ := row8 R11.out
            have z4 := R11.out.thaw 4
            have HSET := Lib.hid (P11.out.put 4 (.int .i64 (n1 + 1)) N7.out G7.out.1 G7.out.2.1)
            have RSET := Lib.hid (rep_set4v (.int .i64 (n1 + 1)) R11.out)
            go_upto_region 24 with fail
            clear q0 q1 q2 q3 q4 q5 q6 q7 R11 P11 z4
            generalize w11.setCell ⟨gr, 4, none⟩ (.int .i64 (n1 + 1)) = Y12 at *
            obtain ⟨q0, q1, q2, q3, q4, q5, q6, q7⟩ := row8 RSET.out
            have HFF := Lib.hid (HF.out.app (one := false) (x := x) x1 hm1 (r := ⟨kk, nm, mm + x, n0, n1 + 1, n2, n3, none, 0, 0⟩) rfl HNM.out (fun h => by cases h))
            have HSA := Lib.hid (HSET.out.under ((Below.refl _ _).alloc (Nat.le_refl _) (.cells (rqC kk nm (mm + x) n0 (n1 + 1) n2 n3 none 0 0) 35)))
            go_wp2_with (at_builtin; go_loud (refine wpList_append_lies _ rfl (.tmp 104) (.tmp 106) 22 rfl (gp + 1) 35 i0 _ 8 88 Tryz.underlying22 hi hz0 hz1 hz2 rfl (by decide) «u7» R.length (rqc R) rfl HSA.out.2.own ⟨Y12.heap.size, 0, none⟩ 1 1 (rqCells ⟨kk, nm, mm + x, n0, n1 + 1, n2, n3, none, 0, 0⟩) rfl rfl (World.news_of_block (cs := (rqC kk nm (mm + x) n0 (n1 + 1) n2 n3 none 0 0)) (t := 35) (fr := (0, 0)) (heap_alloc_new Y12 _)) (rqc_one [⟨kk, nm, mm + x, n0, n1 + 1, n2, n3, none, 0, 0⟩] |> fun h u hu => h u (by simpa [rqc] using hu)) (by omega) (by unfold maxLen; omega) (by omega) HSA.out.2.lt (Y12.heap.size + 1) (by simp) ?_; intro g' cap' w6 hown6 hgrow6 hat6 hlt6; have H6 := Lib.hid (show Pr W b w gp (R ++ [⟨kk, nm, mm + x, n0, n1 + 1, n2, n3, none, 0, 0⟩]) _ f' A' B' C' w6 from ⟨Row.apped HSA.out.1 hgrow6 HSA.out.2.ne, HSA.out.2.app hown6 hgrow6⟩); clear hown6 hgrow6 hat6 hlt6))
            go_wp2_with fail
            go_roundw
            case rel => exact ⟨k - 1, mm + x, R ++ [⟨kk, nm, mm + x, n0, n1 + 1, n2, n3, none, 0, 0⟩], f', A', B', C', by go_num, by simp; omega, rfl, ⟨HFF.out, by omega, by simp; omega⟩, HV.out, H6.out⟩
            case measure => simp [intOf]; omega
          · have hzz : (zz == 11) = false := beq_eq_false_iff_ne.2 hz
            go_upto_region 24 with fail
            obtain ⟨q0, q1, q2, q3, q4, q5, q6, q7⟩ := row8 R11.out
            have HFF := Lib.hid (HF.out.app (one := false) (x := x) x1 hm1 (r := ⟨kk, nm, mm + x, n0, n1, n2, n3, none, 0, 0⟩) rfl HNM.out (fun h => by cases h))
            have HSA := Lib.hid (P11.out.under ((Below.refl _ _).alloc (Nat.le_refl _) (.cells (rqC kk nm (mm + x) n0 n1 n2 n3 none 0 0) 35)))
            go_wp2_with (at_builtin; go_loud (refine wpList_append_lies _ rfl (.tmp 104) (.tmp 106) 22 rfl (gp + 1) 35 i0 _ 8 88 Tryz.underlying22 hi hz0 hz1 hz2 rfl (by decide) «u7» R.length (rqc R) rfl HSA.out.2.own ⟨w11.heap.size, 0, none⟩ 1 1 (rqCells ⟨kk, nm, mm + x, n0, n1, n2, n3, none, 0, 0⟩) rfl rfl (World.news_of_block (cs := (rqC kk nm (mm + x) n0 n1 n2 n3 none 0 0)) (t := 35) (fr := (0, 0)) (heap_alloc_new w11 _)) (rqc_one [⟨kk, nm, mm + x, n0, n1, n2, n3, none, 0, 0⟩] |> fun h u hu => h u (by simpa [rqc] using hu)) (by omega) (by unfold maxLen; omega) (by omega) HSA.out.2.lt (w11.heap.size + 1) (by simp) ?_; intro g' cap' w6 hown6 hgrow6 hat6 hlt6; have H6 := Lib.hid (show Pr W b w gp (R ++ [⟨kk, nm, mm + x, n0, n1, n2, n3, none, 0, 0⟩]) _ f' A' B' C' w6 from ⟨Row.apped HSA.out.1 hgrow6 HSA.out.2.ne, HSA.out.2.app hown6 hgrow6⟩); clear hown6 hgrow6 hat6 hlt6))
            go_wp2_with fail
            go_roundw
            case rel => exact ⟨k - 1, mm + x, R ++ [⟨kk, nm, mm + x, n0, n1, n2, n3, none, 0, 0⟩], f', A', B', C', by go_num, by simp; omega, rfl, ⟨HFF.out, by omega, by simp; omega⟩, HV.out, H6.out⟩
            case measure => simp [intOf]; omega
        · obtain ⟨q0, q1, q2, q3, q4, q5, q6, q7⟩ := row8 R7.out
          go_upto_region 24 with fail
          have HFF := Lib.hid (HF.out.app (one := true) (x := x) x1 hm1 (r := ⟨2, dl, mm + x, n0, n1, n2, n3, none, 0, 0⟩) rfl (Nat.le_refl 5) (fun _ => ⟨rfl, rfl, HN.out⟩))
          have HSA := Lib.hid (P7.out.under ((Below.refl _ _).alloc (Nat.le_refl _) (.cells (rqC 2 dl (mm + x) n0 n1 n2 n3 none 0 0) 35)))
          go_wp2_with (at_builtin; go_loud (refine wpList_append_lies _ rfl (.tmp 104) (.tmp 106) 22 rfl (gp + 1) 35 i0 _ 8 88 Tryz.underlying22 hi hz0 hz1 hz2 rfl (by decide) «u7» R.length (rqc R) rfl HSA.out.2.own ⟨Y7.heap.size, 0, none⟩ 1 1 (rqCells ⟨2, dl, mm + x, n0, n1, n2, n3, none, 0, 0⟩) rfl rfl (World.news_of_block (cs := (rqC 2 dl (mm + x) n0 n1 n2 n3 none 0 0)) (t := 35) (fr := (0, 0)) (heap_alloc_new Y7 _)) (rqc_one [⟨2, dl, mm + x, n0, n1, n2, n3, none, 0, 0⟩] |> fun h u hu => h u (by simpa [rqc] using hu)) (by omega) (by unfold maxLen; omega) (by omega) HSA.out.2.lt (Y7.heap.size + 1) (by simp) ?_; intro g' cap' w6 hown6 hgrow6 hat6 hlt6; have H6 := Lib.hid (show Pr W b w gp (R ++ [⟨2, dl, mm + x, n0, n1, n2, n3, none, 0, 0⟩]) _ f' A' B' C' w6 from ⟨Row.apped HSA.out.1 hgrow6 HSA.out.2.ne, HSA.out.2.app hown6 hgrow6⟩); clear hown6 hgrow6 hat6 hlt6))
          go_wp2_with fail
          go_roundw
          case rel => exact ⟨k - 1, mm + x, R ++ [⟨2, dl, mm + x, n0, n1, n2, n3, none, 0, 0⟩], f', A', B', C', by go_num, by simp; omega, rfl, ⟨HFF.out, by omega, by simp; omega⟩, HV.out, H6.out⟩
          case measure => simp [intOf]; omega
      · clear y1 y2
        have P := P4
        clear P4
        obtain ⟨pc0, pc1, pc2, pc3⟩ := row4 P.out.1
        go_wp2_with fail
        refine (at_any (mm + x) _ _ _ _ _ HV.out).mono ?_
        rintro e w7 ⟨rfl, b7⟩
        have HN := Lib.hid (vb_of (nf_vld HV.out))
        have P7 := Lib.hid (show Pr W b w gp R «u7» f A B C (w7.alloc (.cells (rqC 2 dl (mm + x) (Ico.nf f A B C : Nat) (nw f A B C 0) (nw f A B C 1) (nw f A B C 2) none 0 0) 35)) from ⟨(P.out.1.under b7).alloc _, (P.out.2.under b7).under ((Below.refl _ _).alloc (Nat.le_refl _) _)⟩)
        have R7 := Lib.hid (Row.new w7 (rqC 2 dl (mm + x) (Ico.nf f A B C : Nat) (nw f A B C 0) (nw f A B C 1) (nw f A B C 2) none 0 0) 35)
        have N7 := Lib.hid (show ∀ i, «u7».ownBlock = some i → i ≠ w7.heap.size from fun i hi => Nat.ne_of_lt ((P.out.2.under b7).lt_own i hi))
        have G7 := Lib.hid (show gp ≠ w7.heap.size ∧ w.heap.size ≤ w7.heap.size ∧ w7.heap.size ≠ b from ⟨Nat.ne_of_lt (Nat.lt_of_lt_of_le P.out.2.lt b7.size), Nat.le_trans P.out.2.wg (Nat.le_of_lt (Nat.lt_of_lt_of_le P.out.2.lt b7.size)), by have := Nat.lt_of_lt_of_le P.out.2.lt b7.size; have := P.out.2.wg; have := P.out.2.bw; omega⟩)
        clear P b7 pc0 pc1 pc2 pc3
        go_upto_region 19 with fail
        generalize w7.heap.size = gr at *
        generalize ((Ico.nf f A B C : Nat) : Int) = n0 at *
        generalize nw f A B C 0 = n1 at *
        generalize nw f A B C 1 = n2 at *
        generalize nw f A B C 2 = n3 at *
        obtain ⟨hn1a, hn1b⟩ := vb_le HN.out
        generalize w7.alloc (.cells (rqC 2 dl (mm + x) n0 n1 n2 n3 none 0 0) 35) = Y7 at *
        cases one
        · go_wp2_with fail
          refine (range_any W b _ _ _ P7.out.2.src (by omega) (by omega) (by omega) (by omega)).mono ?_
          rintro e w8 ⟨kk, ⟨kk1, kk2⟩, rfl, s8, g8⟩
          have P8 := Lib.hid (P7.out.step s8 g8)
          have R8 := Lib.hid (R7.out.grown g8 (by have := G7.out; simp; omega))
          have z0 := R8.out.thaw 0
          obtain ⟨q0, q1, q2, q3, q4, q5, q6, q7⟩ := row8 R8.out
          have HSET := Lib.hid (P8.out.put 0 (.int .i64 kk) N7.out G7.out.1 G7.out.2.1)
          have RSET := Lib.hid (rep_set0 (.int .i64 kk) R8.out)
          clear P7 R7 s8 g8 P8 kk1 kk2
          go_upto_region 21 with fail
          clear R8 z0 q0 q1 q2 q3 q4 q5 q6 q7
          generalize w8.setCell ⟨gr, 0, none⟩ (.int .i64 kk) = Y8 at *
          have ba := (Below.refl Y8.heap.size Y8).alloc (Nat.le_refl _) (.cells #[.string dl, .string ⟨#[69, 67, 72, 79, 55]⟩] 9)
          have hrs := Row.new Y8 #[.string dl, .string ⟨#[69, 67, 72, 79, 55]⟩] 9
          have hne : Y8.heap.size ≠ b := Nat.ne_of_gt (src_at HSET.out.2.src)
          have P9 := Lib.hid (HSET.out.under ba)
          have R9 := Lib.hid (RSET.out.alloc (.cells #[.string dl, .string ⟨#[69, 67, 72, 79, 55]⟩] 9))
          obtain ⟨c0, c1⟩ := row_s hrs
          have hlt := hrs.lt
          clear HSET RSET hrs ba
          go_wp2_with fail
          refine (text_any (fun x => x.size ≤ 5) W b _ _ _ _ P9.out.2.src (by omega) (by omega) hne hlt (fun i hi => by
            rcases (by omega : i = 0 ∨ i = 1) with rfl | rfl
            · exact ⟨_, c0, by decide⟩
            · exact ⟨_, c1, by decide⟩)).mono ?_
          clear c0 c1 hlt hne
          rintro e w10 ⟨nm, hnm, rfl, s10, g10⟩
          have P10 := Lib.hid (P9.out.step s10 g10)
          have R10 := Lib.hid (R9.out.grown g10 (by have := G7.out; simp; omega))
          have HNM := Lib.hid hnm
          clear P9 R9 s10 g10 hnm
          have z1 := R10.out.thaw 1
          obtain ⟨q0, q1, q2, q3, q4, q5, q6, q7⟩ := row8 R10.out
          have HSET := Lib.hid (P10.out.put 1 (.string nm) N7.out G7.out.1 G7.out.2.1)
          have RSET := Lib.hid (rep_set1 (.string nm) R10.out)
          clear P10
          go_upto_region 22 with fail
          clear R10 z1 q0 q1 q2 q3 q4 q5 q6 q7
          generalize w10.setCell ⟨gr, 1, none⟩ (.string nm) = Y10 at *
          go_wp2_with fail
          refine (n_any W b _ _ HSET.out.2.src (by omega) (by omega)).mono ?_
          rintro e w11 ⟨zz, ⟨zz1, zz2⟩, rfl, s11, g11⟩
          have P11 := Lib.hid (HSET.out.step s11 g11)
          have R11 := Lib.hid (RSET.out.grown g11 (by have := G7.out; simp; omega))
          clear HSET RSET s11 g11
          by_cases hz : zz = 11
          · subst hz
            clear zz1 zz2
            obtain ⟨q0, q1, q2, q3, q4, q5, q6, q7⟩ := row8 R11.out
            have z4 := R11.out.thaw 4
            have HSET := Lib.hid (P11.out.put 4 (.int .i64 (n1 + 1)) N7.out G7.out.1 G7.out.2.1)
            have RSET := Lib.hid (rep_set4v (.int .i64 (n1 + 1)) R11.out)
            go_upto_region 24 with fail
            clear q0 q1 q2 q3 q4 q5 q6 q7 R11 P11 z4
            generalize w11.setCell ⟨gr, 4, none⟩ (.int .i64 (n1 + 1)) = Y12 at *
            obtain ⟨q0, q1, q2, q3, q4, q5, q6, q7⟩ := row8 RSET.out
            have HFF := Lib.hid (HF.out.app (one := false) (x := x) x1 hm1 (r := ⟨kk, nm, mm + x, n0, n1 + 1, n2, n3, none, 0, 0⟩) rfl HNM.out (fun h => by cases h))
            have HSA := Lib.hid (HSET.out.under ((Below.refl _ _).alloc (Nat.le_refl _) (.cells (rqC kk nm (mm + x) n0 (n1 + 1) n2 n3 none 0 0) 35)))
            go_wp2_with (at_builtin; go_loud (refine wpList_append_lies _ rfl (.tmp 104) (.tmp 106) 22 rfl (gp + 1) 35 i0 _ 8 88 Tryz.underlying22 hi hz0 hz1 hz2 rfl (by decide) «u7» R.length (rqc R) rfl HSA.out.2.own ⟨Y12.heap.size, 0, none⟩ 1 1 (rqCells ⟨kk, nm, mm + x, n0, n1 + 1, n2, n3, none, 0, 0⟩) rfl rfl (World.news_of_block (cs := (rqC kk nm (mm + x) n0 (n1 + 1) n2 n3 none 0 0)) (t := 35) (fr := (0, 0)) (heap_alloc_new Y12 _)) (rqc_one [⟨kk, nm, mm + x, n0, n1 + 1, n2, n3, none, 0, 0⟩] |> fun h u hu => h u (by simpa [rqc] using hu)) (by omega) (by unfold maxLen; omega) (by omega) HSA.out.2.lt (Y12.heap.size + 1) (by simp) ?_; intro g' cap' w6 hown6 hgrow6 hat6 hlt6; have H6 := Lib.hid (show Pr W b w gp (R ++ [⟨kk, nm, mm + x, n0, n1 + 1, n2, n3, none, 0, 0⟩]) _ f A B C w6 from ⟨Row.apped HSA.out.1 hgrow6 HSA.out.2.ne, HSA.out.2.app hown6 hgrow6⟩); clear hown6 hgrow6 hat6 hlt6))
            go_wp2_with fail
            go_roundw
            case rel => exact ⟨k - 1, mm + x, R ++ [⟨kk, nm, mm + x, n0, n1 + 1, n2, n3, none, 0, 0⟩], f, A, B, C, by go_num, by simp; omega, rfl, ⟨HFF.out, by omega, by simp; omega⟩, HV.out, H6.out⟩
            case measure => simp [intOf]; omega
          · have hzz : (zz == 11) = false := beq_eq_false_iff_ne.2 hz
            go_upto_region 24 with fail
            obtain ⟨q0, q1, q2, q3, q4, q5, q6, q7⟩ := row8 R11.out
            have HFF := Lib.hid (HF.out.app (one := false) (x := x) x1 hm1 (r := ⟨kk, nm, mm + x, n0, n1, n2, n3, none, 0, 0⟩) rfl HNM.out (fun h => by cases h))
            have HSA := Lib.hid (P11.out.under ((Below.refl _ _).alloc (Nat.le_refl _) (.cells (rqC kk nm (mm + x) n0 n1 n2 n3 none 0 0) 35)))
            go_wp2_with (at_builtin; go_loud (refine wpList_append_lies _ rfl (.tmp 104) (.tmp 106) 22 rfl (gp + 1) 35 i0 _ 8 88 Tryz.underlying22 hi hz0 hz1 hz2 rfl (by decide) «u7» R.length (rqc R) rfl HSA.out.2.own ⟨w11.heap.size, 0, none⟩ 1 1 (rqCells ⟨kk, nm, mm + x, n0, n1, n2, n3, none, 0, 0⟩) rfl rfl (World.news_of_block (cs := (rqC kk nm (mm + x) n0 n1 n2 n3 none 0 0)) (t := 35) (fr := (0, 0)) (heap_alloc_new w11 _)) (rqc_one [⟨kk, nm, mm + x, n0, n1, n2, n3, none, 0, 0⟩] |> fun h u hu => h u (by simpa [rqc] using hu)) (by omega) (by unfold maxLen; omega) (by omega) HSA.out.2.lt (w11.heap.size + 1) (by simp) ?_; intro g' cap' w6 hown6 hgrow6 hat6 hlt6; have H6 := Lib.hid (show Pr W b w gp (R ++ [⟨kk, nm, mm + x, n0, n1, n2, n3, none, 0, 0⟩]) _ f A B C w6 from ⟨Row.apped HSA.out.1 hgrow6 HSA.out.2.ne, HSA.out.2.app hown6 hgrow6⟩); clear hown6 hgrow6 hat6 hlt6))
            go_wp2_with fail
            go_roundw
            case rel => exact ⟨k - 1, mm + x, R ++ [⟨kk, nm, mm + x, n0, n1, n2, n3, none, 0, 0⟩], f, A, B, C, by go_num, by simp; omega, rfl, ⟨HFF.out, by omega, by simp; omega⟩, HV.out, H6.out⟩
            case measure => simp [intOf]; omega
        · obtain ⟨q0, q1, q2, q3, q4, q5, q6, q7⟩ := row8 R7.out
          go_upto_region 24 with fail
          have HFF := Lib.hid (HF.out.app (one := true) (x := x) x1 hm1 (r := ⟨2, dl, mm + x, n0, n1, n2, n3, none, 0, 0⟩) rfl (Nat.le_refl 5) (fun _ => ⟨rfl, rfl, HN.out⟩))
          have HSA := Lib.hid (P7.out.under ((Below.refl _ _).alloc (Nat.le_refl _) (.cells (rqC 2 dl (mm + x) n0 n1 n2 n3 none 0 0) 35)))
          go_wp2_with (at_builtin; go_loud (refine wpList_append_lies _ rfl (.tmp 104) (.tmp 106) 22 rfl (gp + 1) 35 i0 _ 8 88 Tryz.underlying22 hi hz0 hz1 hz2 rfl (by decide) «u7» R.length (rqc R) rfl HSA.out.2.own ⟨Y7.heap.size, 0, none⟩ 1 1 (rqCells ⟨2, dl, mm + x, n0, n1, n2, n3, none, 0, 0⟩) rfl rfl (World.news_of_block (cs := (rqC 2 dl (mm + x) n0 n1 n2 n3 none 0 0)) (t := 35) (fr := (0, 0)) (heap_alloc_new Y7 _)) (rqc_one [⟨2, dl, mm + x, n0, n1, n2, n3, none, 0, 0⟩] |> fun h u hu => h u (by simpa [rqc] using hu)) (by omega) (by unfold maxLen; omega) (by omega) HSA.out.2.lt (Y7.heap.size + 1) (by simp) ?_; intro g' cap' w6 hown6 hgrow6 hat6 hlt6; have H6 := Lib.hid (show Pr W b w gp (R ++ [⟨2, dl, mm + x, n0, n1, n2, n3, none, 0, 0⟩]) _ f A B C w6 from ⟨Row.apped HSA.out.1 hgrow6 HSA.out.2.ne, HSA.out.2.app hown6 hgrow6⟩); clear hown6 hgrow6 hat6 hlt6))
          go_wp2_with fail
          go_roundw
          case rel => exact ⟨k - 1, mm + x, R ++ [⟨2, dl, mm + x, n0, n1, n2, n3, none, 0, 0⟩], f, A, B, C, by go_num, by simp; omega, rfl, ⟨HFF.out, by omega, by simp; omega⟩, HV.out, H6.out⟩
          case measure => simp [intOf]; omega
    · have hk1 : ¬ (0 : Int) < (k : Int) := by omega
      go_wp2_with fail
      go_ret
      exact ⟨R, «u7», mm, ⟨HF.out, hm2⟩, by omega, rfl, ⟨HP.out.2.src, HP.out.2.gro⟩, gp + 1, by have := HP.out.2.wg; omega, HP.out.2.own⟩
end Go.Proofs.YtejoabaanclcbaaGreat.Tk

