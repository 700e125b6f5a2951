/- The contract of the reference's cell: three nodes in their order. -/
import Derived.Test.YtehehhehilgnkaaGreatHop
import Derived.Test.YtehehhehilgnkaaGreatCelM
import Derived.Laws.CopyRow
import Derived.Laws.CopyOwn
namespace Go.Proofs.YtehehhehilgnkaaGreat
open Go.RowKit Go.Maps Go.Shelf

theorem agg3 {x y z x' y' z' : Int} (h : x = x') (h1 : y = y') (h2 : z = z') : Ending.returned (.agg #[.int .i64 x, .int .i64 y, .int .i64 z]) = Ending.returned (.agg #[.int .i64 x', .int .i64 y', .int .i64 z']) := by rw [h, h1, h2]
set_option maxRecDepth 100000 in
set_option maxHeartbeats 4000000 in
theorem refCell_any (a b c : Nat) (w : World) (ha : a ≤ 1000) (hb : b ≤ 1000) (hc : c ≤ 1000) : Calls Tryz.prog 26 #[.int .i64 (a : Int), .int .i64 (b : Int), .int .i64 (c : Int)] w fun e w' => e = .returned (.agg #[.int .i64 ((Lat.scell (a, b, c)).1 : Int), .int .i64 ((Lat.scell (a, b, c)).2.1 : Int), .int .i64 ((Lat.scell (a, b, c)).2.2 : Int)]) ∧ Below w.heap.size w w' := by
  have HS : Hid (((Lat.scell (a, b, c)).1 : Int) = min (a : Int) (min b c) ∧ ((Lat.scell (a, b, c)).2.1 : Int) = a + b + c - min (a : Int) (min b c) - max (a : Int) (max b c) ∧ ((Lat.scell (a, b, c)).2.2 : Int) = max (a : Int) (max b c)) := Lib.hid (by
    unfold Lat.scell
    simp only
    omega)
  go_enter Tryz.func26, Tryz.ntmps26
  go_wp2_with fail
  all_goals refine bodyPost_ret (results_cell_row Tryz.results26 _ _ w.heap.size 34 _ (0, 0) _ rfl (Row.new _ _ _) Tryz.underlying34 rfl (by kernel_rfl)) rfl ⟨agg3 ?_ ?_ ?_, (Below.refl _ _).alloc (Nat.le_refl _) _⟩
  all_goals (obtain ⟨h1, h2, h3⟩ := HS.out)
  all_goals (first | rw [h1] | rw [h2] | rw [h3])
  all_goals (clear h1 h2 h3 HS)
  all_goals (repeat (split at *))
  all_goals omega
end Go.Proofs.YtehehhehilgnkaaGreat


namespace Go.Proofs.YtehehhehilgnkaaGreat
open Go.RowKit Go.Maps Go.Shelf

/-- copy, where an element has s cells. -/
theorem run_copy_wide {P : Program} (w : World) (dT sT ty elem : TypeId) (g o dLen dCap : Nat) (a : Addr) (sLen sCap s : Nat) (cur : Array Value) (t : TypeId) (cs : List Value)
    (hu : P.underlying dT = some (.slice elem)) (hs : (P.info? elem).map (·.size) = some s)
    (hg : w.heap[g]? = some (.cells cur t (0, 0))) (hn : cs.length = Nat.min sLen dLen * s)
    (hsrc : ∀ j v, cs[j]? = some v → w.cell? (a.add j) = some v) (hfit : o + cs.length ≤ cur.size) (h1 : ∀ v ∈ cs, v.oneCell' = true) :
    (Builtin.copy_ #[dT, sT] ty #[.slice (some ⟨g, o, none⟩) dLen dCap, .slice (some a) sLen sCap]).run P w =
      .ok (goInt (Nat.min sLen dLen)) (w.setRow g (cur.toList.take o ++ cs ++ cur.toList.drop (o + cs.length)).toArray) := by
  have hl := run_loadCells_list (P := P) w a cs hsrc
  have hst := run_storeCells_at P g o t cs 0 cur w hg (by simpa using hfit) h1
  cases hq : P.info? elem with
  | none => simp [hq] at hs
  | some i =>
    have hi : i.size = s := by simpa [hq] using hs
    rw [hn] at hl hst
    simp [Builtin.copy_, run_underlying hu, Builtin.lenOf, Builtin.firstCells, sizeOf, typeInfo, hq, hi, hl, hst, hn]
theorem wpList_copy_wide {P : Program} {w : World} {ops : Array Oper} {rest : List Oper} {o : Oper} {a : Act} {Q : Exit → Act → World → Prop} (hgd : o.guard = none) (d s : Operand) (dT sT : TypeId)
    (ho : o.op = .call { callee := .builtin .copy, args := #[d, s], argTypes := #[dT, sT] }) (elem : TypeId) (size : Nat) (hu : P.underlying dT = some (.slice elem)) (hsz : (P.info? elem).map (·.size) = some size)
    (g off dLen dCap : Nat) (ad : Addr) (sLen sCap : Nat) (hd : a.eval d = .slice (some ⟨g, off, none⟩) dLen dCap) (hs : a.eval s = .slice (some ad) sLen sCap)
    (cur : Array Value) (t : TypeId) (hg : w.heap[g]? = some (.cells cur t (0, 0))) (cs : List Value) (hn : cs.length = Nat.min sLen dLen * size)
    (hsrc : ∀ j v, cs[j]? = some v → w.cell? (ad.add j) = some v) (hfit : off + cs.length ≤ cur.size) (h1 : ∀ v ∈ cs, v.oneCell' = true)
    (h : wpList P ops Q rest (a.put o.dst (goInt (Nat.min sLen dLen))) (w.setRow g (cur.toList.take off ++ cs ++ cur.toList.drop (off + cs.length)).toArray)) : wpList P ops Q (o :: rest) a w := by
  refine wpList_plain hgd fun K hK => ?_
  have hrun := run_copy_wide (P := P) w dT sT o.type elem g off dLen dCap ad sLen sCap size cur t cs hu hsz hg hn hsrc hfit h1
  unfold Oper.wp
  simp only [execOp, ho, resolve, invoke, builtin]
  simp [hd, hs, hrun, Result.andThen]
  exact hK _ _ (by simpa using h)
end Go.Proofs.YtehehhehilgnkaaGreat


namespace Go.Proofs.YtehehhehilgnkaaGreat
open Go.RowKit Go.Maps Go.Shelf

theorem tcs_app (L M : List Lat.Tr) : tcs (L ++ M) = tcs L ++ tcs M := by simp [tcs]
theorem tcs_split (L : List Lat.Tr) (k : Nat) : tcs L = tcs (L.take k) ++ tcs (L.drop k) := by rw [← tcs_app, List.take_append_drop]
theorem copied {Z : World} {base g cap k : Nat} {L : List Lat.Tr} {e : TypeId} {Y : List Value} (hY : Y.length = 3) (o4 : Z.ownsRow base e 3 (.slice (some ⟨g, 0, none⟩) (L.length + 1) cap) (L.length + 1) (tcs L ++ Y)) (hk : k ≤ L.length) :
    ∃ cur, Z.heap[g]? = some (.cells cur e (0, 0)) ∧ (k + 1) * 3 + (tcs (L.drop k)).length ≤ cur.size ∧ (∀ j v, (tcs (L.drop k))[j]? = some v → Z.cell? ((⟨g, k * 3, none⟩ : Addr).add j) = some v) ∧
      ∀ W : World, W.heap[g]? = some (.cells (cur.toList.take ((k + 1) * 3) ++ tcs (L.drop k) ++ cur.toList.drop ((k + 1) * 3 + (tcs (L.drop k)).length)).toArray e (0, 0)) → ∃ X, X.length = 3 ∧ W.ownsRow base e 3 (.slice (some ⟨g, 0, none⟩) (L.length + 1) cap) (L.length + 1) (tcs (L.take k) ++ X ++ tcs (L.drop k)) := by
  have hx := o4
  rcases hx.2 with ⟨h, _⟩ | ⟨g', cap', cur, h, hb, hh, hle, hmax, hsz, htk⟩
  · cases h
  · injection h with h _ h3
    injection h with h
    injection h with h
    subst h
    subst h3
    have hl1 : (tcs (L.take k)).length = k * 3 := by rw [tcs_len, List.length_take, Nat.min_eq_left hk]
    have hl2 : (tcs (L.drop k)).length = (L.length - k) * 3 := by rw [tcs_len, List.length_drop]
    refine ⟨cur, hh, by rw [hl2, hsz]; omega, fun j v hj => ?_, fun W hW => ?_⟩
    · have hjl : j < (tcs (L.drop k)).length := (List.getElem?_eq_some_iff.1 hj).1
      have hadd : (⟨g, k * 3, none⟩ : Addr).add j = ⟨g, k * 3 + j, none⟩ := by unfold Addr.add; split <;> simp_all
      rw [hadd, o4.cellAt _ (by omega), List.getElem?_append_left (by rw [tcs_len]; omega), tcs_split L k, List.getElem?_append_right (by omega), hl1, show k * 3 + j - k * 3 = j by omega, hj]
    · refine ⟨(cur.toList.take ((k + 1) * 3)).drop (k * 3), ?_, ?_, .inr ⟨g, cap, _, rfl, hb, hW, hle, hmax, ?_, ?_⟩⟩
      · simp; omega
      · simp; omega
      · simp; omega
      · have htk2 : cur.toList.take (k * 3) = tcs (L.take k) := by
          have h1 := congrArg (List.take (k * 3)) htk
          rw [List.take_take, Nat.min_eq_left (by omega), List.take_append_of_le_length (by rw [tcs_len]; omega), tcs_split L k, List.take_append_of_le_length (by omega), List.take_of_length_le (l := tcs (L.take k)) (by omega)] at h1
          exact h1
        have hsp : cur.toList.take ((k + 1) * 3) = tcs (L.take k) ++ (cur.toList.take ((k + 1) * 3)).drop (k * 3) := by
          have h2 := List.take_append_drop (k * 3) (cur.toList.take ((k + 1) * 3))
          rw [List.take_take, Nat.min_eq_left (by omega), htk2] at h2
          exact h2.symm
        rw [List.toList_toArray, List.take_append_of_le_length (by simp; omega), List.take_of_length_le (by simp; omega)]
        exact congrArg (· ++ tcs (L.drop k)) hsp
end Go.Proofs.YtehehhehilgnkaaGreat

