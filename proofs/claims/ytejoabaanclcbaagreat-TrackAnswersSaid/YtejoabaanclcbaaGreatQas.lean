/- Texts of this proof. -/
import Derived.RangeFuncNested
import Derived.RangeFuncBound
import Derived.RangeFuncCalls
import Derived.RangeFuncLeaves
import Derived.RangeFuncBox
import Derived.Shelf.Abstract
import Derived.WalkKit
import Derived.OwnWalkIn
import Derived.TacticsInMore
import Derived.LoopNIn
import Derived.LoopIn
import Derived.OrdersIn
import Derived.Scope
import Derived.Deep.RegionHeld
import Derived.Deep.RegionHeld3
import Derived.Test.YtejoabaanclcbaaGreatQar
import Derived.Test.YtejoabaanclcbaaGreatTkB
namespace Go.Proofs.YtejoabaanclcbaaGreat.Tk
open Go.RowKit

theorem upon_round {P : Program} {o : Oper} {a : Act} {next : Act → World → Prop} {Q : Exit → Act → World → Prop} (l n : Nat) (r : Result Next) (h : o.upon P a next Q r) : o.uponIn (Fence.wide.inRound l) n P a next Q r := by
  cases r with
  | ok x w' =>
    cases x <;> simp only [Oper.upon, Oper.uponIn] at h ⊢ <;>
      first
        | exact h
        | exact ⟨fun h => by simp [Fence.wide] at h, CallsIn.inRound l (CallsIn.mono (callsIn_wide.2 h) (fun e w'' he => by cases e <;> exact he))⟩
        | exact ⟨fun h => by simp [Fence.wide] at h, fun c cs _ => let ⟨v, w', r, s⟩ := h c cs; ⟨v, w', r, stepsIn_wide.2 s⟩⟩
        | exact h.elim
  | halt x w' => cases x <;> simp only [Oper.upon, Oper.uponIn] at h ⊢ <;> exact h
theorem op_round {P : Program} {o : Oper} {a : Act} {w : World} {next : Act → World → Prop} {Q : Exit → Act → World → Prop} (l n : Nat) (hd : ∀ c, o.op ≠ .defer c) (hQ : ¬ LetsOut Q) (h : o.wp P a w next Q ∨ (o.asks P a w ∧ LetsOut Q)) : o.wpIn (Fence.wide.inRound l) n P a w next Q := by
  refine ⟨fun _ _ => trivial, ?_⟩
  rw [Oper.semAt_eq _ _ _ hd]
  exact upon_round l n _ (h.resolve_right (fun x => hQ x.2))
/-- No operation puts a call off. -/
def plainOps (ops : Array Oper) : Bool := ops.toList.all fun o => match o.op with | .defer _ => false | _ => true
theorem plain_at {ops : Array Oper} (h : plainOps ops = true) {i : Nat} {o : Oper} (hi : ops[i]? = some o) : ∀ c, o.op ≠ .defer c := by
  intro c hc
  have hm : o ∈ ops.toList := by
    rw [← Array.getElem?_toList] at hi
    exact List.mem_of_getElem? hi
  have := (List.all_eq_true.1 h) o hm
  rw [hc] at this
  cases this
theorem any_round {P : Program} {md : Region.Mode} {ops : Array Oper} {Q : Exit → Act → World → Prop} {S : World → Prop} (l n : Nat) (hp : plainOps ops = true) (hQ : ¬ LetsOut Q) :
    ∀ (fuel : Nat) (listed : Array Bool) (a : Act) (w : World), wpAnyH P md ops Q S fuel listed a w → wpAnyIn (Fence.wide.inRound l) n P md ops Q fuel listed a w
  | 0, _, _, _, h => h
  | fuel + 1, listed, a, w, h => by
    refine ⟨h.1, fun i hi => ?_⟩
    have h2 := h.2 i hi
    unfold wpOp at h2
    unfold wpOpIn
    cases ho : ops[i]? with
    | none =>
      simp only [ho] at h2 ⊢
      exact any_round l n hp hQ fuel _ _ _ h2.2
    | some o =>
      simp only [ho] at h2 ⊢
      by_cases hw : Region.wanted o (yielded ops a.tmps) = true
      · rw [if_pos hw] at h2 ⊢
        exact Oper.wpIn_mono (fun a' w' h' => any_round l n hp hQ fuel _ _ _ h'.2) (op_round l n (plain_at hp ho) hQ h2)
      · rw [if_neg hw] at h2 ⊢
        exact ⟨fun _ _ => trivial, any_round l n hp hQ fuel _ _ _ h2.2⟩
/-- A drawn region in a round. -/
theorem region_round {P : Program} {ops : Array Oper} {Q : Exit → Act → World → Prop} {S : World → Prop} {id l n : Nat} {a : Act} {w : World} (hm : P.follows .mixedOrders = true) (hp : plainOps ops = true) (hQ : ¬ LetsOut Q) (hS : S w.drew)
    (h : S w.drew → wpAnyH P .any ops Q S ops.size (Array.replicate ops.size false) a w.drew) : (Code.region id ops true).wpIn (Fence.wide.inRound l) n P Q a w :=
  wpIn_region_any hm (any_round l n hp hQ _ _ _ _ (h hS))
section
variable {F : Fence} {n : Nat} {P : Program} {b : Frame} {a : Act} {k : List Item} {cs : List Frame} {w : World} {Q : Exit → Act → World → Prop}
theorem stepR_scope {c : Code} : step P (lone (b.atR a (.code (.scope c) :: k)) cs w) = .next (lone (b.atR a (.code c :: .inScope c :: k)) cs w) := step_lone_go (by simp [stepG, stepG.exec, Frame.atR])
theorem stepR_inScope {c : Code} : step P (lone (b.atR a (.inScope c :: k)) cs w) = .next (lone (b.atR a k) cs w) := step_lone_go (by simp [stepG, stepG.exec, Frame.atR])
/-- A scope through which the run goes without a goto. -/
theorem wpIn_scope {c : Code} (h : c.wpIn F n P (Exit.noGoto Q) a w) : (Code.scope c).wpIn F n P Q a w := by
  intro b k cs hro hb hr
  have h0 : (lone (b.atR a (.code (.scope c) :: k)) cs w).fenced P F := fenced_calm hb hr rfl
  obtain ⟨e, a₁, w₁, hq, harr⟩ := h b (.inScope c :: k) cs hro hb hr
  cases e with
  | normal => exact ⟨.normal, a₁, w₁, hq, .head h0 stepR_scope (StepsIn.trans harr (.one (fenced_calm hb hr rfl) stepR_inScope))⟩
  | exit id => exact ⟨.exit id, a₁, w₁, hq, fun k' hk => .head h0 stepR_scope (harr.1 k' (by simp [exitTo, hk])), fun hs hk => let ⟨k₁, h1, h2⟩ := harr.2 hs (by simp [exitTo, hk]); ⟨k₁, h1, .head h0 stepR_scope h2⟩⟩
  | goto l => exact hq.elim
  | ret => exact ⟨_, a₁, w₁, hq, .of_steps (.one h0 stepR_scope) harr⟩
  | panic ch => exact ⟨_, a₁, w₁, hq, .of_steps (.one h0 stepR_scope) harr⟩
  | outgrown => exact ⟨_, a₁, w₁, hq, .of_steps (.one h0 stepR_scope) harr⟩
end
/-- A row's cells stay when a block that holds no cells is turned. -/
theorem row_turn {W W' : World} {g : Nat} {t : TypeId} {c : Array Value} {row : Option Nat} (hr : Row W g t c) (hg : W.grownBy W' row) (ho : ∀ r, row = some r → ∃ o : Obj, W.heap[r]? = some o ∧ o.isCells = false) : Row W' g t c :=
  hr.grown hg (fun e => by
    obtain ⟨o, h1, h2⟩ := ho g e.symm
    have := h1.symm.trans hr
    injection this with this
    subst this
    cases h2)
/-- What stands when the variables of a round are laid: the element's box. -/
def BoxAx {α : Type} (B : Nat) (T : TypeId) (cells : α → Array Value) (acts : α → Nat → Act) (x : α) (a' : Act) (W : World) : Prop := ∃ g, a' = acts x g ∧ Row W g T (cells x) ∧ B ≤ g
theorem boxAx_own {α : Type} {B : Nat} {T : TypeId} {cells : α → Array Value} {acts : α → Nat → Act} (C : Nat) (x : α) (a' : Act) : OwnFrom C (fun (_ : Unit) W => BoxAx B T cells acts x a' W) := fun _ W W' row hs hg hr => by
  obtain ⟨g, e, h1, h2⟩ := hs
  exact ⟨g, e, row_turn h1 hg (fun r e => (hr r e).2), h2⟩
end Go.Proofs.YtejoabaanclcbaaGreat.Tk


namespace Go.Proofs.YtejoabaanclcbaaGreat.Tk
open Go.RowKit

/-- The times ascend strictly up to an index. -/
def ascTo (L : List Sg) (k : Nat) : Prop := ∀ i, i + 1 < k → ∀ h : i + 1 < L.length, L[i].t < L[i + 1].t
def ascP (L : List Sg) : Prop := ascTo L L.length
/-- What ascending answers. -/
def AscO (L : List Sg) (w : World) (e : Ending) (w' : World) : Prop := (∃ b : Bool, e = .returned (.bool b) ∧ (b = true ↔ ascP L)) ∧ Below w.heap.size w w'
set_option maxRecDepth 100000 in
set_option maxHeartbeats 4000000 in
theorem ascending_any (v : Value) (L : List Sg) (w : World) (hL : SgIn w v L) (hl : L.length ≤ 100000) :
    Calls Tryz.prog 35 #[v] w (AscO L w) := by
  obtain ⟨A, cap, rfl, hc1, hc2, hat⟩ := hL
  have HA := Lib.hid hat; clear hat
  go_enter Tryz.func35, Tryz.ntmps35
  go_wp2_with fail
  go_loopw [3] (fun t wr => ∃ m : Nat, m ≤ L.length ∧ t = .int .i64 ((m : Int) + 1) ∧ Hid (ascTo L (m + 1)) ∧ Hid (Below w.heap.size w wr)) (fun t _ => L.length + 1 - (intOf t).toNat)
  case atStart => exact ⟨0, by omega, rfl, Lib.hid (fun i hi => by omega), Lib.hid (Below.refl _ _)⟩
  case round =>
    obtain ⟨m, hm, rfl, HT, HB⟩ := hrel
    by_cases hlt : m + 1 < L.length
    · obtain ⟨g, rfl, hg, h0⟩ := HA.out m (by omega)
      obtain ⟨g', e', hg', h1⟩ := HA.out (m + 1) hlt
      obtain rfl : g = g' := by injection e' with e'; injection e'
      clear e' hg'
      replace h0 := h0.under hg HB.out
      replace h1 := h1.under hg HB.out
      have HST := Lib.hid (show L[m].t < L[m + 1].t → ascTo L (m + 1 + 1) from fun h i hi hl' => by
        rcases (by omega : i + 1 < m + 1 ∨ i = m) with hi' | rfl
        · exact HT.out i hi' hl'
        · exact h)
      have HNO := Lib.hid (show ¬ L[m].t < L[m + 1].t → ¬ ascP L from fun h h' => h (h' m hlt hlt))
      obtain ⟨-, p1, -, -⟩ := h0
      obtain ⟨-, q1, -, -⟩ := h1
      generalize L[m].t = x at *
      generalize L[m + 1].t = y at *
      have k0 : (m : Int) + 1 < (L.length : Int) := by omega
      have k2 : (0 : Int) ≤ (m : Int) := by omega
      have k3 : (m : Int) < (L.length : Int) := by omega
      have k4 : (0 : Int) ≤ (m : Int) + 1 := by omega
      have kw : IntKind.i64.wrap (m : Int) = m := IntWalk.i64_in _ (by omega)
      go_upto_region 4 with fail
      refine wp_region_held_drew (S := fun w' : World => w'.cell? ⟨g, m * 4 + 1, none⟩ = some (.int .i64 x) ∧ w'.cell? ⟨g, (m + 1) * 4 + 1, none⟩ = some (.int .i64 y)) (by kernel_rfl) ⟨p1, q1⟩ (fun hHeld => ?_)
      have hx1 : ((m : Int) + 1 - 1) = (m : Int) := by omega
      refine tk 0 (oi := ⟨some 10, _, _, _, _, none⟩) rfl ?_
      try go_frame
      refine tk 1 (oi := ⟨some 11, _, _, _, _, none⟩) rfl ?_
      try go_frame
      refine tk 2 (oi := ⟨some 12, _, _, _, _, none⟩) rfl ?_
      try go_frame
      refine tk 3 (oi := ⟨some 13, _, _, _, _, none⟩) rfl ?_
      try go_frame
      refine tk 4 (oi := ⟨some 14, _, _, _, _, none⟩) rfl ?_
      try go_frame
      refine tk 5 (oi := ⟨some 15, _, _, _, _, none⟩) rfl ?_
      try go_frame
      refine tk 6 (oi := ⟨some 16, _, _, _, _, none⟩) rfl ?_
      try go_frame
      refine tk 7 (oi := ⟨some 17, _, _, _, _, none⟩) rfl ?_
      try go_frame
      refine tk 8 (oi := ⟨some 18, _, _, _, _, none⟩) rfl ?_
      try go_frame
      refine tk 9 (oi := ⟨some 19, _, _, _, _, none⟩) rfl ?_
      try go_frame
      refine tk 10 (oi := ⟨some 20, _, _, _, _, none⟩) rfl ?_
      try go_frame
      refine tk 11 (oi := ⟨some 21, _, _, _, _, none⟩) rfl ?_
      try go_frame
      refine wpAnyH_done (by kernel_rfl) ?_ _
      have HB2 := Lib.hid (HB.out.trans (show Below w.heap.size wr wr.drew from ⟨rfl, rfl, rfl, Nat.le_refl _, fun _ _ => rfl⟩))
      clear hHeld p1 q1
      by_cases hxy : x < y
      · have hc : ¬ y ≤ x := by omega
        have HS2 := Lib.hid (HST.out hxy)
        clear HST HNO
        go_wp2_with fail
        go_roundw
        case rel => exact ⟨m + 1, by omega, by go_num, HS2, HB2⟩
        case measure => simp [intOf]; omega
      · have hc : y ≤ x := by omega
        have HN := Lib.hid (HNO.out hxy)
        clear HST HNO
        go_wp2_with fail
        go_ret
        exact ⟨⟨false, rfl, ⟨fun h => (by cases h), fun h => absurd h HN.out⟩⟩, HB2.out⟩
    · have k0 : ¬ (m : Int) + 1 < (L.length : Int) := by omega
      have HY := Lib.hid (show ascP L from fun i hi hl' => HT.out i (by omega) hl')
      go_wp2_with fail
      go_ret
      exact ⟨⟨true, rfl, ⟨fun _ => HY.out, fun _ => rfl⟩⟩, HB.out⟩
/-- A station that was at one place can have come to another. -/
noncomputable def pls (h : Int) (x y : Sg) : Bool := decide (x.t < y.t ∧ 1440 * (hp x.nd y.nd : Int) ≤ h * (y.t - x.t) + 1440)
/-- A sighting in the range. -/
def Gd (x : Sg) : Prop := x.nd < 642 ∧ 0 ≤ x.t ∧ x.t ≤ 52595999
set_option maxRecDepth 100000 in
set_option maxHeartbeats 4000000 in
theorem plausible_any (nx : ByteArray) (tx : Int) (dx ix : Nat) (ny : ByteArray) (ty : Int) (dy iy : Nat) (h : Int) (w : World) (hx : Gd ⟨nx, tx, dx, ix⟩) (hy : Gd ⟨ny, ty, dy, iy⟩) (hh : 0 ≤ h ∧ h ≤ 1000) :
    Calls Tryz.prog 45 #[.agg #[.string nx, .int .i64 tx, .int .i64 dx, .int .i64 ix], .agg #[.string ny, .int .i64 ty, .int .i64 dy, .int .i64 iy], .int .i64 h] w fun e w' => e = .returned (.bool (pls h ⟨nx, tx, dx, ix⟩ ⟨ny, ty, dy, iy⟩)) ∧ Below w.heap.size w w' := by
  obtain ⟨hx1, hx2, hx3⟩ := hx
  obtain ⟨hy1, hy2, hy3⟩ := hy
  obtain ⟨h1, h2⟩ := hh
  simp only at hx1 hx2 hx3 hy1 hy2 hy3
  go_enter Tryz.func45, Tryz.ntmps45
  go_upto_region 1 with fail
  refine forget (fun Y => Below w.heap.size w Y ∧ Row Y w.heap.size 74 #[.string nx, .int .i64 tx, .int .i64 dx, .int .i64 ix] ∧ Row Y (w.heap.size + 1) 74 #[.string ny, .int .i64 ty, .int .i64 dy, .int .i64 iy])
    ⟨((Below.refl _ _).alloc (Nat.le_refl _) _).alloc (by simp) _, (Row.new _ _ _).alloc _, Row.newAt (by simp)⟩ ?_
  generalize w.heap.size + 1 = gy at *
  obtain ⟨gx, hgx⟩ : ∃ g, w.heap.size = g := ⟨_, rfl⟩
  rintro Y ⟨hb, rx, ry⟩
  rw [hgx] at rx
  rw [hgx]
  have HB := Lib.hid hb; clear hb hgx
  obtain ⟨a0, a1, a2, a3⟩ := row4 rx
  obtain ⟨b0, b1, b2, b3⟩ := row4 ry
  have HX := Lib.hid rx; clear rx
  have HY := Lib.hid ry; clear ry
  obtain ⟨z, hz⟩ : ∃ z, pls h ⟨nx, tx, dx, ix⟩ ⟨ny, ty, dy, iy⟩ = z := ⟨_, rfl⟩
  have HZ := Lib.hid hz
  clear hz
  by_cases ht : ty ≤ tx
  · have HF := Lib.hid (show z = false by rw [← HZ.out]; unfold pls; rw [decide_eq_false_iff_not]; simp only; omega)
    go_wp2_with fail
    go_ret
    exact ⟨by rw [HZ.out, HF.out]; rfl, HB.out⟩
  · have hd := hp_le hx1 hy1
    have HH := Lib.hid (fun W => hops8_any dx dy W hx1 hy1)
    have HZ2 := Lib.hid (show z = decide (1440 * (hp dx dy : Int) ≤ h * (ty - tx) + 1440) by rw [← HZ.out]; unfold pls; simp only; rw [decide_eq_decide]; exact ⟨fun h => h.2, fun h => ⟨by omega, h⟩⟩)
    generalize hp dx dy = d at *
    go_wp2_with fail
    refine (HH.out _).mono ?_
    rintro e w1 ⟨rfl, hb1⟩
    have HB1 := Lib.hid (HB.out.trans (hb1.mono HB.out.size))
    clear a0 a1 a2 a3 b0 b1 b2 b3
    obtain ⟨a0, a1, a2, a3⟩ := row4 (HX.out.under hb1)
    obtain ⟨b0, b1, b2, b3⟩ := row4 (HY.out.under hb1)
    have hm0 : 0 ≤ h * (ty - tx) := Int.mul_nonneg h1 (by omega)
    have hm1 : h * (ty - tx) ≤ 1000 * 52595999 := Int.mul_le_mul h2 (by omega) (by omega) (by omega)
    have w0 : IntKind.i64.wrap (ty - tx) = ty - tx := IntWalk.i64_in _ (by omega)
    have w1' : IntKind.i64.wrap (h * (ty - tx)) = h * (ty - tx) := by
      generalize h * (ty - tx) = q at *
      exact IntWalk.i64_in _ (by omega)
    have w2 : IntKind.i64.wrap (h * (ty - tx) + 1440) = h * (ty - tx) + 1440 := by
      generalize h * (ty - tx) = q at *
      exact IntWalk.i64_in _ (by omega)
    have w3 : IntKind.i64.wrap (1440 * (d : Int)) = 1440 * (d : Int) := IntWalk.i64_in _ (by omega)
    clear hb1 HH
    go_wp2_with fail
    go_ret
    exact ⟨by rw [HZ.out, HZ2.out]; rfl, HB1.out⟩
end Go.Proofs.YtejoabaanclcbaaGreat.Tk


namespace Go.Proofs.YtejoabaanclcbaaGreat.Tk
open Go.RowKit
attribute [local go_sem] Oper.semAt_some

/-- What the iterator gives. -/
abbrev encB (L : List Sg) (x : Fin L.length) : Array Value := #[.int .i64 (x.1 : Int), .agg #[.string L[x].nm, .int .i64 L[x].t, .int .i64 (L[x].nd : Nat), .int .i64 (L[x].ix : Nat)]]
/-- The numbers below n that are not below k, from the greatest on. -/
def downTo (n k : Nat) : List Nat := (List.range' k (n - k)).reverse
theorem downTo_top (n : Nat) : downTo n n = [] := by simp [downTo]
theorem downTo_step {n k : Nat} (h : k < n) : downTo n k = downTo n (k + 1) ++ [k] := by
  unfold downTo
  rw [show n - k = (n - (k + 1)) + 1 by omega, List.range'_succ, List.reverse_cons]
theorem downTo_len (n k : Nat) : (downTo n k).length = n - k := by simp [downTo]
/-- These blocks lie as they lay. -/
def Kq (p : Nat → Prop) (A C : World) : Prop := ∀ i, p i → C.heap[i]? = A.heap[i]?
theorem Kq.tr {p : Nat → Prop} {A B C : World} (h : Kq p A B) (k : Kq p B C) : Kq p A C := fun i hi => (k i hi).trans (h i hi)
theorem kq_cell {p : Nat → Prop} {A C : World} (h : Kq p A C) {g j : Nat} (hg : p g) : C.cell? ⟨g, j, none⟩ = A.cell? ⟨g, j, none⟩ := by
  unfold World.cell?
  simp only
  rw [h g hg]
/-- The blocks of the iterator's box and of the list. -/
def bkP (B N : Nat) (v : Value) (i : Nat) : Prop := i = B ∨ (i < N ∧ v.ownBlock = some i)
set_option maxRecDepth 100000 in
set_option maxHeartbeats 2000000 in
theorem back_stops (n : Nat) (hn : 1 ≤ n) (B N : Nat) (v : Value) (L : List Sg) (w : World) (hN : 0 < L.length → ∀ i, v.ownBlock = some i → i < N) (hB : B < w.heap.size) (hc0 : w.cell? ⟨B, 0, none⟩ = some v) (hL : SgIn w v L) (hl : L.length ≤ 100000) :
    SeqStopsK Fence.wide n Tryz.prog 71 #[.pointer (some ⟨B, 0, none⟩)] (encB L) (Kq (bkP B N v)) (fun ys => ys.map (·.1) = downTo L.length 0) (fun _ => True) L.length w := fun l J Jx W hW _ _ hY h0 => by
  have hc := (hW.cell (p := ⟨B, 0, none⟩) hB).trans hc0
  have hL2 := hL.under hW
  obtain ⟨A, cap, hv, hc1, hc2, hat⟩ := hL2
  subst hv
  have HA := Lib.hid hat
  clear hat
  refine callsIn_of_wp Tryz.func71 rfl trivial ?_ rfl
  simp only [Tryz.ntmps71, List.size_toArray, List.length_cons, List.length_nil, Nat.reduceAdd, Nat.reduceSub, Array.replicate_succ, Array.replicate_zero, List.push_toArray, List.append_toArray, List.nil_append, List.cons_append]
  have w1 : IntKind.i64.wrap ((L.length : Int) - 1) = (L.length : Int) - 1 := IntWalk.i64_in _ (by omega)
  gi_wp2
  gi_loopw [3] (fun p wr => ∃ (pre : List (Fin L.length)) (k : Nat), p = .int .i64 ((k : Int) - 1) ∧ Hid (k ≤ L.length ∧ pre.map (·.1) = downTo L.length k ∧ Kq (bkP B N (.slice A L.length cap)) W wr) ∧ J pre wr) (fun p _ => (intOf p + 1).toNat)
  case atStart => exact ⟨[], L.length, rfl, Lib.hid ⟨Nat.le_refl _, by rw [downTo_top]; rfl, fun _ _ => rfl⟩, h0⟩
  case round =>
    obtain ⟨pre, k, rfl, HX, hJ⟩ := hrel
    rcases Nat.eq_zero_or_pos k with hk | hk
    · subst hk
      have k0 : ¬ (0 : Int) ≤ ((0 : Nat) : Int) - 1 := by omega
      gi_wp2
      go_end0
      exact ⟨⟨_, rfl⟩, .inl ⟨pre, HX.out.2.1, hJ⟩⟩
    · obtain ⟨m, rfl⟩ : ∃ m, k = m + 1 := ⟨k - 1, by omega⟩
      have em : (((m + 1 : Nat) : Int) - 1) = (m : Int) := by omega
      rw [em]
      have hm : m < L.length := by have := HX.out.1; omega
      have hlt : pre.length < L.length := by
        have h := congrArg List.length HX.out.2.1
        rw [List.length_map, downTo_len] at h
        omega
      obtain ⟨g, rfl, hg, q0, q1, q2, q3⟩ := HA.out m hm
      have hq := HX.out.2.2
      have kc := kq_cell (j := 0) hq (.inl rfl)
      have kg : ∀ j, wr.cell? ⟨g, j, none⟩ = W.cell? ⟨g, j, none⟩ := fun j => kq_cell hq (.inr ⟨hN (by omega) g rfl, rfl⟩)
      have hcb := kc.trans hc
      have a0 := (kg _).trans q0
      have a1 := (kg _).trans q1
      have a2 := (kg _).trans q2
      have a3 := (kg _).trans q3
      obtain ⟨fn, tmps, assign, body, hy, hR⟩ := hY pre ⟨m, hm⟩ wr hJ hlt
      simp only [encB, Fin.getElem_fin] at hy
      have HN := Lib.hid (show m ≤ L.length ∧ (pre ++ [(⟨m, hm⟩ : Fin L.length)]).map (·.1) = downTo L.length m from ⟨by omega, by rw [List.map_append, HX.out.2.1, downTo_step hm]; rfl⟩)
      have HQ := Lib.hid hq
      generalize L[m] = sg at *
      generalize (⟨m, hm⟩ : Fin L.length) = xx at *
      obtain ⟨sn, stt, sd, si⟩ := sg
      simp only at a0 a1 a2 a3 hy
      have m0 : (0 : Int) ≤ (m : Int) := by omega
      have m1 : (m : Int) < (L.length : Int) := by omega
      have wm : IntKind.i64.wrap ((m : Int) - 1) = (m : Int) - 1 := IntWalk.i64_in _ (by omega)
      clear em kc kg q0 q1 q2 q3 HX hq
      gi_wp2
      refine hR.mono ?_
      rintro e W3 (⟨rfl, hJ3, hk3⟩ | ⟨rfl, hJx3⟩)
      · have HN2 := Lib.hid (And.intro HN.out.1 (And.intro HN.out.2 (HQ.out.tr hk3)))
        clear a0 a1 a2 a3 hcb hk3 HN HQ hy
        gi_wp2
        go_roundw
        case rel => exact ⟨pre ++ [xx], m, rfl, HN2, hJ3⟩
        case measure => simp [intOf]
      · clear a0 a1 a2 a3 hcb HN HQ hy
        gi_wp2
        refine bodyPost_ret (results_none rfl _ _ _) rfl ?_
        exact ⟨⟨_, rfl⟩, .inr ⟨pre ++ [xx], trivial, hJx3⟩⟩
set_option maxHeartbeats 1000000 in
theorem backward_any (n : Nat) (A : Option Addr) (m c : Nat) (w : World) :
    CallsIn Fence.wide n Tryz.prog 53 #[.slice A m c] w fun e w' => e = .returned (.func (.func 71) #[] #[.pointer (some ⟨w.heap.size, 0, none⟩)]) ∧ w' = w.alloc (.cells #[.slice A m c] 63) := by
  refine callsIn_of_wp Tryz.func53 rfl trivial ?_ rfl
  simp only [Tryz.ntmps53, List.size_toArray, List.length_cons, List.length_nil, Nat.reduceAdd, Nat.reduceSub, Array.replicate_succ, Array.replicate_zero, List.push_toArray, List.append_toArray, List.nil_append, List.cons_append]
  gi_wp2
  go_ret
  exact ⟨rfl, rfl⟩
end Go.Proofs.YtejoabaanclcbaaGreat.Tk

