/- Texts of this proof. -/
import Derived.Test.YtlakgkoohdfiaaaDoorTmO
import Derived.Test.YtlakgkoohdfiaaaDoorQap
import Derived.Test.YtlakgkoohdfiaaaDoorQab
import Derived.Test.YtlakgkoohdfiaaaDoorTmS
import Derived.Test.YtlakgkoohdfiaaaDoorTmB
namespace Go.Proofs.YtlakgkoohdfiaaaDoor.Tm
open Go.RowKit

/-- A list of reports that is built. -/
structure Ho (w : World) (r : Option Nat) (R : List Rp) (v : Value) (Y : World) : Prop where
  gro : w.grownBy Y r
  own : Y.ownsRow w.heap.size 38 8 v R.length (rpc R)
  rds : ∀ q ∈ R, Y.ownsRow w.heap.size 81 2 q.u q.L.length (El.rdc q.L)
  hr : ∀ b, r = some b → b < w.heap.size
theorem Ho.nil (w : World) (r : Option Nat) (hr : ∀ b, r = some b → b < w.heap.size) : Ho w r [] (.slice none 0 0) w := ⟨grown_refl w r, ⟨rfl, .inl ⟨rfl, rfl⟩⟩, fun q hq => (by cases hq), hr⟩
section
variable {w Y Y' w9 : World} {r : Option Nat} {R : List Rp} {v : Value}
theorem Ho.step (h : Ho w r R v Y) (hg : Y.grownBy Y' r) : Ho w r R v Y' :=
  ⟨grown_trans h.gro hg, own_heap h.own (fun i hi => hg.block i (row_size h.own hi) (fun e => by have := h.hr i e.symm; have := row_base h.own hi; omega)),
    fun q hq => own_heap (h.rds q hq) (fun i hi => hg.block i (row_size (h.rds q hq) hi) (fun e => by have := h.hr i e.symm; have := row_base (h.rds q hq) hi; omega)), h.hr⟩
theorem Ho.under (h : Ho w r R v Y) (hb : Below Y.heap.size Y Y') : Ho w r R v Y' := h.step (grown_below hb)
theorem Ho.ins (h : Ho w r R v Y) : RpsIn Y v R := RpsIn.own h.own (fun q hq => El.RdIn.own (h.rds q hq))
theorem Ho.app (h : Ho w r R v Y) {q : Rp} {v' : Value} (hu : Y.ownsRow w.heap.size 81 2 q.u q.L.length (El.rdc q.L))
    (ho : w9.ownsRow w.heap.size 38 8 v' (R.length + 1) (rpc R ++ rpCells q)) (hg : Y.grownBy w9 v.ownBlock) : Ho w r (R ++ [q]) v' w9 := by
  have key : ∀ {r0 : Rp}, Y.ownsRow w.heap.size 81 2 r0.u r0.L.length (El.rdc r0.L) → w9.ownsRow w.heap.size 81 2 r0.u r0.L.length (El.rdc r0.L) := fun {r0} hq =>
    own_heap hq (fun i hi => hg.block i (row_size hq hi) (fun e => by
      obtain ⟨c1, h1, -⟩ := row_own h.own e.symm
      obtain ⟨c2, h2, -⟩ := row_own hq hi
      rw [h1] at h2; injection h2 with h2; injection h2 with _ h2; exact absurd h2 (by decide)))
  refine ⟨?_, by rw [rpc_app, List.length_append]; exact ho, fun r' hr' => ?_, h.hr⟩
  · have h1 := h.gro.size
    refine ⟨hg.os.trans h.gro.os, hg.tape.trans h.gro.tape, hg.output.trans h.gro.output, Nat.le_trans h1 hg.size, fun i hi hne => ?_⟩
    exact (hg.block i (by omega) (fun e => by have := row_base h.own e.symm; omega)).trans (h.gro.block i hi hne)
  · rcases List.mem_append.1 hr' with q1 | q1
    · exact key (h.rds r' q1)
    · rw [List.mem_singleton.1 q1]; exact key hu
end
/-- Readings that have just been written. -/
theorem rd_new (Y : World) (L : List El.Elt.R) (hL : 0 < L.length) (hm : L.length ≤ 11) (cs : Array Value) (hc : cs.toList = El.rdc L) : (Y.alloc (.cells cs 81)).ownsRow Y.heap.size 81 2 (.slice (some ⟨Y.heap.size, 0, none⟩) L.length L.length) L.length (El.rdc L) := by
  have hl : cs.size = L.length * 2 := by rw [← Array.length_toList, hc, El.rdc_len]
  exact ⟨by rw [El.rdc_len], .inr ⟨Y.heap.size, L.length, cs, rfl, Nat.le_refl _, Row.new Y cs _, Nat.le_refl _, by unfold maxLen; omega, hl, by rw [hc, ← El.rdc_len, List.take_length]⟩⟩
/-- Hourly reports of one station with one reading each. -/
def Hly (f : Nat → Int) (R : List Rp) : Prop := ∀ j, ∀ h : j < R.length, R[j].k = 1 ∧ R[j].nm = nmA ∧ R[j].t = 60 * (j : Int) ∧ (R[j].F = 0 ∧ R[j].A = 0 ∧ R[j].B = 0 ∧ R[j].C = 0) ∧ R[j].L = [((1 : Int), f j)]
theorem Hly.snoc {f : Nat → Int} {R : List Rp} (h : Hly f R) {x : Int} (hx : f R.length = x) (u : Value) {t : Int} (ht : t = 60 * (R.length : Int)) : Hly f (R ++ [⟨1, nmA, t, 0, 0, 0, 0, u, [((1 : Int), x)]⟩]) := by
  intro j hj
  rw [List.length_append, List.length_singleton] at hj
  rcases (by omega : j < R.length ∨ j = R.length) with q | q
  · rw [List.getElem_append_left q]; exact h j q
  · subst q
    rw [List.getElem_append_right (Nat.le_refl _)]
    simp only [Nat.sub_self, List.getElem_singleton]
    refine ⟨?_, ?_, ?_, ⟨?_, ?_, ?_, ?_⟩, ?_⟩ <;> first | trivial | rfl | exact ht | rw [hx]
def fT (a b c : Int) : Nat → Int
  | 0 => a
  | 1 => b
  | _ => c
/-- What three leaves. -/
def ThO (a b c : Int) (w : World) (e : Ending) (w' : World) : Prop := ∃ R v, e = .returned v ∧ R.length = 3 ∧ Hly (fT a b c) R ∧ Ho w none R v w'
set_option maxRecDepth 100000 in
set_option maxHeartbeats 4000000 in
theorem three_any (a b c : Int) (w : World) : Calls Tryd.prog 76 #[.int .i64 a, .int .i64 b, .int .i64 c] w (ThO a b c w) := by
  obtain ⟨i0, hi, hz0, hz1, hz2⟩ := info_parts infoReport
  have b0 := (Below.refl w.heap.size w).alloc (Nat.le_refl _) (.cells #[.int .i64 a, .int .i64 b, .int .i64 c] 3)
  have I0 : Hid (Ho w none [] (.slice none 0 0) (w.alloc (.cells #[.int .i64 a, .int .i64 b, .int .i64 c] 3)) ∧ Row (w.alloc (.cells #[.int .i64 a, .int .i64 b, .int .i64 c] 3)) w.heap.size 3 #[.int .i64 a, .int .i64 b, .int .i64 c]) := Lib.hid ⟨(Ho.nil w none (fun _ h => (by cases h))).under b0, Row.new _ _ _⟩
  clear b0
  go_enter Tryd.func76, Tryd.ntmps76
  go_upto_region 3 with fail
  obtain ⟨g, hg⟩ : ∃ g, w.heap.size = g := ⟨_, rfl⟩
  have hgw := hg
  rw [hg] at I0 ⊢
  go_loopw [7, 15] (fun v tj wr => ∃ (R : List Rp) (j : Nat), tj = .int .i64 (j : Int) ∧ j ≤ 3 ∧ R.length = j ∧ Hid (Hly (fT a b c) R) ∧ Hid (Ho w none R v wr ∧ Row wr g 3 #[.int .i64 a, .int .i64 b, .int .i64 c])) (fun _ tj _ => 3 - (intOf tj).toNat)
  case atStart => exact ⟨[], 0, rfl, by omega, rfl, Lib.hid (fun j h => absurd h (Nat.not_lt_zero j)), I0⟩
  case round =>
    clear I0
    obtain ⟨R, j, rfl, hj3, hRl, hHl, HR⟩ := hrel
    by_cases hj : j < 3
    · have k0 : (j : Int) < 3 := by omega
      obtain ⟨x, hx, hcell⟩ : ∃ x, fT a b c j = x ∧ wr.cell? ⟨g, j, none⟩ = some (.int .i64 x) := by
        rcases (by omega : j = 0 ∨ j = 1 ∨ j = 2) with rfl | rfl | rfl <;> exact ⟨_, rfl, by rw [HR.out.2.cell]; rfl⟩
      have b1 := (Below.refl wr.heap.size wr).alloc (Nat.le_refl _) (.cells #[.int .i64 1, .int .i64 x] 81)
      clear b1
      go_upto_region 5 with fail
      have htw : IntKind.i64.wrap (60 * (j : Int)) = 60 * (j : Int) := IntWalk.i64_in _ (by omega)
      have b2 := (Below.refl wr.heap.size wr).alloc (Nat.le_refl _) (.cells #[.int .i64 1, .int .i64 x] 81)
      have Hu := rd_new wr [((1 : Int), x)] (by simp) (by simp) #[.int .i64 1, .int .i64 x] rfl
      have H2 := Lib.hid ((HR.out.1).under b2)
      have hs := H2.out.gro.size
      have Hu2 := Lib.hid (own_base Hu (show w.heap.size ≤ wr.heap.size from HR.out.1.gro.size))
      have hsl := HR.out.1.gro.size
      have hx' : fT a b c R.length = x := by rw [hRl]; exact hx
      have HN := Lib.hid (hHl.out.snoc hx'  (.slice (some ⟨wr.heap.size, 0, none⟩) 1 1) (t := 60 * (j : Int)) (congrArg (fun n : Nat => 60 * (n : Int)) hRl.symm))
      have HB2 := Lib.hid b2
      have HR1 := Lib.hid HR.out.1
      have hRw := HR.out.2
      have HRw := Lib.hid (Row.under hRw b2)
      clear Hu b2 hHl hcell hs
      obtain ⟨q, hq⟩ : ∃ q : Rp, (⟨1, nmA, 60 * (j : Int), 0, 0, 0, 0, .slice (some ⟨wr.heap.size, 0, none⟩) 1 1, [((1 : Int), x)]⟩ : Rp) = q := ⟨_, rfl⟩
      have HC8 := Lib.hid (eight_at (r := q) (Row.new (wr.alloc (.cells #[.int .i64 1, .int .i64 x] 81)) (repC q.k q.nm q.t q.F q.A q.B q.C q.u) 38))
      have b3 := (Below.refl (wr.alloc (.cells #[.int .i64 1, .int .i64 x] 81)).heap.size (wr.alloc (.cells #[.int .i64 1, .int .i64 x] 81))).alloc (Nat.le_refl _) (.cells (repC q.k q.nm q.t q.F q.A q.B q.C q.u) 38)
      have H3 := Lib.hid (H2.out.under b3)
      have Hu3 := Lib.hid (El.own_under Hu2.out b3)
      clear b3 H2 Hu2 HR HR1
      subst hq
      have hsz3 := H3.out.gro.size
      have hz1' : (wr.alloc (.cells #[.int .i64 1, .int .i64 x] 81)).heap.size = wr.heap.size + 1 := Array.size_push _
      have HC9 := HC8.out
      rw [hz1'] at HC9
      have HC9 := Lib.hid HC9
      go_wp2_with (at_builtin; go_loud (refine wpList_append_own' rfl (.tmp 20) (.tmp 27) 25 rfl w.heap.size 38 i0 (repV 0 ⟨#[]⟩ 0 0 0 0 0 (.slice none 0 0)) 8 88 Tryd.underlying25 hi hz0 hz1 hz2 rfl (by decide) u7 R.length (rpc R) rfl H3.out.own ⟨wr.heap.size + 1, 0, none⟩ 1 1 (rpCells (⟨1, nmA, 60 * (j : Int), 0, 0, 0, 0, .slice (some ⟨wr.heap.size, 0, none⟩) 1 1, [((1 : Int), x)]⟩ : Rp)) rfl rfl HC9.out (fun z hz => by simp only [rpCells, List.mem_cons, List.not_mem_nil, or_false] at hz; rcases hz with rfl | rfl | rfl | rfl | rfl | rfl | rfl | rfl <;> rfl) (by unfold maxLen; omega) (by omega) hsz3 ?_); intro v9 w9 ho9 hg9; have HW9 := Lib.hid (And.intro ho9 hg9); clear ho9 hg9)
      have H9 := Lib.hid (H3.out.app (q := (⟨1, nmA, 60 * (j : Int), 0, 0, 0, 0, .slice (some ⟨wr.heap.size, 0, none⟩) 1 1, [((1 : Int), x)]⟩ : Rp)) Hu3.out HW9.out.1 HW9.out.2)
      have HX := Lib.hid (show Row w9 g 3 #[.int .i64 a, .int .i64 b, .int .i64 c] from (HRw.out.alloc _).grown HW9.out.2 (fun e => by
        obtain ⟨c1, h1, -⟩ := row_own H3.out.own e.symm
        have h2 := HRw.out.alloc (.cells (repC 1 nmA (60 * (j : Int)) 0 0 0 0 (.slice (some ⟨wr.heap.size, 0, none⟩) 1 1)) 38)
        rw [h2] at h1; injection h1 with h1; injection h1 with _ h1; exact absurd h1 (by decide)))
      have HXR : Hid (Ho w none (R ++ [⟨1, nmA, 60 * (j : Int), 0, 0, 0, 0, .slice (some ⟨wr.heap.size, 0, none⟩) 1 1, [((1 : Int), x)]⟩]) v9 w9 ∧ Row w9 g 3 #[.int .i64 a, .int .i64 b, .int .i64 c]) := Lib.hid ⟨H9.out, HX.out⟩
      clear HX H9 HW9 H3 Hu3 HC8 HC9 HB2 HRw hRw
      exact ⟨⟨_, j + 1, by go_num, by omega, by rw [List.length_append, hRl]; rfl, HN, HXR⟩, by simp [intOf]; omega⟩
    · obtain rfl : j = 3 := by omega
      have HF : Hid (ThO a b c w (.returned u7) wr) := Lib.hid ⟨R, u7, rfl, hRl, hHl.out, HR.out.1⟩
      clear HR
      go_wp2_with fail
      go_ret
      exact HF.out
end Go.Proofs.YtlakgkoohdfiaaaDoor.Tm

namespace Go.Proofs.YtlakgkoohdfiaaaDoor.Tm
open Go.RowKit

theorem erT_zero {Q : List Rp} {S P : Int → Int} (hS : ∀ j : Nat, j < 12 → 0 ≤ S j ∧ S j ≤ 10000) (hP : ∀ j : Nat, j < 12 → 0 ≤ P j ∧ P j ≤ 10000)
    (hv : ∀ r ∈ Q, El.Elt.vld r.L = 0) (ht : ∀ r ∈ Q, 0 ≤ r.t ∧ r.t ≤ 52595999) (hd : Dis Q) : erT Q S P = 0 := by
  have b1 : bad12 (fun j => S j) = false := bad12_false (fun j hj => by have := hS j hj; unfold badL; simp; omega)
  have b2 : bad12 (fun j => P j) = false := bad12_false (fun j hj => by have := hP j hj; unfold badL; simp; omega)
  unfold erT
  rw [if_neg (by simp [b1, b2]), if_neg (by rw [fstV_no Q hv]; simp), if_neg (by rintro ⟨r, hr, h | h⟩ <;> have := ht r hr <;> omega),
    if_neg (by rintro ⟨i, j, hi, hj, hij, -, e1, e2⟩; exact hd i j hi hj (by omega) ⟨e1, e2⟩)]
theorem asc_dis {Q : List Rp} (h : Q.Pairwise fun a b => a.t < b.t) : Dis Q := fun i j hi hj hne ⟨_, e2⟩ => by
  rcases Nat.lt_or_gt_of_ne hne with q | q
  · have := List.pairwise_iff_getElem.1 h i j hi hj q; omega
  · have := List.pairwise_iff_getElem.1 h j i hj hi q; omega
theorem Ser.er {lo m : Int} {Q : List Rp} {cs : Array Value} {S P : Int → Int} (h : Ser lo m Q) (hl : 0 ≤ lo) (hm : m ≤ 52595999) (hc : CtB cs S P) : erT Q S P = 0 :=
  erT_zero hc.s hc.p (fun r hr => (h.all r hr).2.2.2) (fun r hr => by have := h.bd r hr; omega) (asc_dis h.asc)
theorem Ser.nm {lo m : Int} {Q : List Rp} (h : Ser lo m Q) : ∀ r ∈ Q, r.nm.size ≤ 40 := fun r hr => by
  rcases (h.all r hr).2.1 with q | q <;> rw [q] <;> decide
/-- Three hourly reports. -/
def tri (a b c : Int) (u0 u1 u2 : Value) : List Rp := [⟨1, nmA, 0, 0, 0, 0, 0, u0, [((1 : Int), a)]⟩, ⟨1, nmA, 60, 0, 0, 0, 0, u1, [((1 : Int), b)]⟩, ⟨1, nmA, 120, 0, 0, 0, 0, u2, [((1 : Int), c)]⟩]
theorem rp_eq {r : Rp} {t : Int} {L : List El.Elt.R} (h : r.k = 1 ∧ r.nm = nmA ∧ r.t = t ∧ (r.F = 0 ∧ r.A = 0 ∧ r.B = 0 ∧ r.C = 0) ∧ r.L = L) : r = ⟨1, nmA, t, 0, 0, 0, 0, r.u, L⟩ := by
  obtain ⟨h1, h2, h3, ⟨h4, h5, h6, h7⟩, h8⟩ := h
  cases r
  simp only at h1 h2 h3 h4 h5 h6 h7 h8
  subst h1; subst h2; subst h3; subst h4; subst h5; subst h6; subst h7; subst h8; rfl
theorem Hly.form {a b c : Int} {R : List Rp} (h : Hly (fT a b c) R) (hl : R.length = 3) : ∃ u0 u1 u2, R = tri a b c u0 u1 u2 := by
  match R, hl with
  | [r0, r1, r2], _ =>
    have h0 := rp_eq (h 0 (by simp)); have h1 := rp_eq (h 1 (by simp)); have h2 := rp_eq (h 2 (by simp))
    simp only [List.getElem_cons_zero, List.getElem_cons_succ, fT] at h0 h1 h2
    exact ⟨r0.u, r1.u, r2.u, congr (congrArg List.cons h0) (congr (congrArg List.cons h1) (congrArg (fun x => [x]) h2))⟩
def S1 : Int → Int := fun j => if j = ((1 : Nat) : Int) then 10 else 0
def P0 : Int → Int := fun _ => 0
theorem tri_flg (u0 u1 u2 : Value) : flg (tri 10000 10100 10001 u0 u1 u2) S1 P0 = [(1, 1)] := by rfl
theorem tri_flg' (u0 u1 u2 : Value) : flg (tri 10000 10100 10101 u0 u1 u2) S1 P0 = [] := by rfl
theorem val1 {v : Int} (h0 : 9000 ≤ v) (h1 : v ≤ 10900) : El.Elt.vld [((1 : Int), v)] = 0 := vld_of (fun x hx => by rw [List.mem_singleton.1 hx]; exact ⟨by unfold El.Elt.Ex; omega, Int.le_trans (show El.Elt.lo 1 ≤ 9000 by decide) h0, Int.le_trans h1 (show (10900 : Int) ≤ El.Elt.hi 1 by decide)⟩) (List.pairwise_singleton _ _)
theorem tri_er {a b c : Int} {u0 u1 u2 : Value} {cs : Array Value} {S P : Int → Int} (hc : CtB cs S P) (ha : 9000 ≤ a ∧ a ≤ 10900) (hb : 9000 ≤ b ∧ b ≤ 10900) (hcc : 9000 ≤ c ∧ c ≤ 10900) : erT (tri a b c u0 u1 u2) S P = 0 := by
  refine erT_zero hc.s hc.p ?_ ?_ (asc_dis ?_)
  · intro r hr
    simp only [tri, List.mem_cons, List.not_mem_nil, or_false] at hr
    rcases hr with rfl | rfl | rfl
    · exact val1 ha.1 ha.2
    · exact val1 hb.1 hb.2
    · exact val1 hcc.1 hcc.2
  · intro r hr
    simp only [tri, List.mem_cons, List.not_mem_nil, or_false] at hr
    rcases hr with rfl | rfl | rfl
    · exact (by decide : (0 : Int) ≤ 0 ∧ (0 : Int) ≤ 52595999)
    · exact (by decide : (0 : Int) ≤ 60 ∧ (60 : Int) ≤ 52595999)
    · exact (by decide : (0 : Int) ≤ 120 ∧ (120 : Int) ≤ 52595999)
  · simp [tri]
theorem tri_nm {a b c : Int} {u0 u1 u2 : Value} : ∀ r ∈ tri a b c u0 u1 u2, r.nm.size ≤ 40 := by
  intro r hr
  simp only [tri, List.mem_cons, List.not_mem_nil, or_false] at hr
  rcases hr with rfl | rfl | rfl <;> exact (by decide : nmA.size ≤ 40)
end Go.Proofs.YtlakgkoohdfiaaaDoor.Tm
