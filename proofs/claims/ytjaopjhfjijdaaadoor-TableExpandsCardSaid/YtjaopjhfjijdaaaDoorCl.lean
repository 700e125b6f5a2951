/- Contracts of slices.Clone over numbers, entries and sequences. -/
import Derived.Test.YtjaopjhfjijdaaaDoorSt
import Derived.Test.YtjaopjhfjijdaaaDoorJof
namespace Go.Proofs.YtjaopjhfjijdaaaDoor
open Go.RowKit

/-- The list of sequences as values: codes and lists. -/
def SvIn (w : World) (v : Value) (L : List (Int × Value)) : Prop := ∃ A cap, v = .slice A L.length cap ∧ L.length ≤ cap ∧ cap ≤ 9223372036854775807 ∧ ∀ i (h : i < L.length), ∃ g off, A = some ⟨g, off, none⟩ ∧ g < w.heap.size ∧ w.cell? ⟨g, off + i * 2, none⟩ = some (.int .i64 (L[i]).1) ∧ w.cell? ⟨g, off + i * 2 + 1, none⟩ = some (L[i]).2 ∧ (L[i]).2.oneCell' = true
theorem SvIn.under {w w' : World} {v : Value} {L : List (Int × Value)} (h : SvIn w v L) (hb : Below w.heap.size w w') : SvIn w' v L := by
  obtain ⟨A, cap, h1, h2, h3, h4⟩ := h
  refine ⟨A, cap, h1, h2, h3, fun i hi => ?_⟩
  obtain ⟨g, off, a, b, c, d, e⟩ := h4 i hi
  exact ⟨g, off, a, Nat.lt_of_lt_of_le b hb.size, (hb.cell (p := ⟨g, off + i * 2, none⟩) b).trans c, (hb.cell (p := ⟨g, off + i * 2 + 1, none⟩) b).trans d, e⟩
theorem SvIn.null {w : World} {A : Option Addr} {m c : Nat} {D : List (Int × Value)} (h : SvIn w (.slice A m c) D) : m = D.length ∧ (A = none → D = []) := by
  obtain ⟨A', cap, e, h2, h3, h4⟩ := h
  injection e with e1 e2 e3
  subst e1; subst e2; subst e3
  refine ⟨rfl, fun q => ?_⟩
  cases D with
  | nil => rfl
  | cons d D =>
    obtain ⟨g, off, e, -⟩ := h4 0 (by simp)
    rw [q] at e; cases e
theorem rowS_len : ∀ L : List (Int × Value), (rowS L).length = L.length * 2
  | [] => rfl
  | x :: r => by
    have e : rowS (x :: r) = .int .i64 x.1 :: x.2 :: rowS r := rfl
    rw [e, List.length_cons, List.length_cons, rowS_len r, List.length_cons]; omega
theorem SvIn.news {w : World} {ad : Addr} {m c : Nat} {D : List (Int × Value)} (h : SvIn w (.slice (some ad) m c) D) : m = D.length ∧ (∀ (j : Nat) u, (rowS D)[j]? = some u → w.cell? (ad.add j) = some u) ∧ ∀ u ∈ rowS D, u.oneCell' = true := by
  obtain ⟨A, cap, e, h2, h3, h4⟩ := h
  injection e with e1 e2 e3
  subst e1; subst e2; subst e3
  refine ⟨rfl, fun j u hj => ?_, fun u hu => ?_⟩
  · have hl : j < D.length * 2 := by have := (List.getElem?_eq_some_iff.1 hj).1; rwa [rowS_len] at this
    obtain ⟨i, r, hi, hr, rfl⟩ : ∃ i r, i < D.length ∧ r < 2 ∧ j = i * 2 + r := ⟨j / 2, j % 2, by omega, by omega, by omega⟩
    obtain ⟨g, off, e, -, c0, c1, -⟩ := h4 i hi
    injection e with e
    subst e
    obtain ⟨r0, r1⟩ := rowS_at D i hi
    rw [Addr.add_lit, ← Nat.add_assoc]
    rcases (by omega : r = 0 ∨ r = 1) with rfl | rfl
    · rw [Nat.add_zero] at hj ⊢; rw [c0, ← hj, r0]
    · rw [c1, ← hj, r1]
  · obtain ⟨j, hj, rfl⟩ := List.getElem_of_mem hu
    have hl : j < D.length * 2 := by rwa [rowS_len] at hj
    obtain ⟨i, r, hi, hr, rfl⟩ : ∃ i r, i < D.length ∧ r < 2 ∧ j = i * 2 + r := ⟨j / 2, j % 2, by omega, by omega, by omega⟩
    obtain ⟨r0, r1⟩ := rowS_at D i hi
    obtain ⟨g, off, -, -, -, -, e1⟩ := h4 i hi
    rcases (by omega : r = 0 ∨ r = 1) with rfl | rfl
    · have : (rowS D)[i * 2 + 0] = .int .i64 (D[i]).1 := by have := List.getElem?_eq_some_iff.1 r0; exact this.2
      rw [this]; rfl
    · have : (rowS D)[i * 2 + 1] = (D[i]).2 := (List.getElem?_eq_some_iff.1 r1).2
      rw [this]; exact e1
/-- A LIST OF SEQUENCES, NONE OR MORE, APPENDED TO AN OWNED ROW, FOR THE WALK. -/
theorem wpList_append_seqs {ops : Array Oper} {rest : List Oper} {o : Oper} {a : Act} {w : World} {Q : Exit → Act → World → Prop} (hw : Region.wanted o (yielded ops a.tmps) = true) (s x : Operand)
    (ho : o.op = .call { callee := .builtin .append, args := #[s, x], argTypes := #[23, 23] }) (base : Nat) (v : Value) (n : Nat) (xs : List Value) (hs : a.eval s = v) (hown : w.ownsRow base 58 2 v n xs)
    (A : Option Addr) (m c : Nat) (D : List (Int × Value)) (hx : a.eval x = .slice A m c) (hD : SvIn w (.slice A m c) D) (h63 : n + m ≤ 1000) (hbase : base ≤ w.heap.size)
    (h : ∀ v' w', w'.ownsRow base 58 2 v' (n + m) (xs ++ rowS D) → w.grownBy w' v.ownBlock → wpList Tryd.prog ops Q rest (a.put o.dst v') w') : wpList Tryd.prog ops Q (o :: rest) a w := by
  obtain ⟨i0, hi, hz0, hz1, hz2⟩ := info_parts infoSeq
  obtain ⟨hm, hn⟩ := hD.null
  simp only [wpList, hw, if_true]
  left
  cases A with
  | some ad =>
    obtain ⟨v', w', hr, h2, h3, -⟩ := run_append_own (P := Tryd.prog) w base 23 o.type 58 i0 _ 2 32 Tryd.underlying23 hi hz0 hz1 hz2 rfl (by decide) v n xs hown ad m c (rowS D) (by rw [rowS_len, hm]) hD.news.2.1 hD.news.2.2 (by unfold maxLen; omega) (by omega) hbase
    unfold Oper.wp execOp
    simp only [ho, resolve, invoke, builtin, Sem.run_bind, Sem.run_pure, Result.andThen_ok, List.map_toArray, List.map_cons, List.map_nil, hs, hx, hr]
    exact h v' w' h2 h3
  | none =>
    obtain rfl := hn rfl
    obtain rfl : m = 0 := hm
    have hk : ∃ B cp, v = .slice B n cp ∧ n ≤ cp := by
      rcases hown.2 with ⟨rfl, h0⟩ | ⟨g, cap, cur, rfl, _, _, hle, _⟩
      · exact ⟨none, 0, by rw [h0], by omega⟩
      · exact ⟨_, cap, rfl, hle⟩
    obtain ⟨B, cp, ev, hle⟩ := hk
    have hr := run_append_nothing (P := Tryd.prog) w 23 23 o.type 58 i0 Tryd.underlying23 hi B n cp hle (.slice none 0 c) (Go.Src.ofNil w Tryd.underlying23 c)
    unfold Oper.wp execOp
    rw [← ev] at hr
    simp only [ho, resolve, invoke, builtin, Sem.run_bind, Sem.run_pure, Result.andThen_ok, List.map_toArray, List.map_cons, List.map_nil, hs, hx, hr]
    exact h v w (by simpa [rowS] using hown) (grown_refl _ _)
set_option maxRecDepth 100000 in
set_option maxHeartbeats 2000000 in
theorem cloneE_any (v : Value) (L : List En) (w : World) (h : EnIn w v L) (hl : L.length ≤ 1000) :
    Calls Tryd.prog 63 #[v] w fun e w' => ∃ v', e = .returned v' ∧ w'.ownsRow w.heap.size 47 5 v' L.length (rowE L) ∧ Below w.heap.size w w' := by
  have HL := Lib.hid h
  obtain ⟨A, cap, rfl, h1, h2, h3⟩ := h
  cases A with
  | none =>
    obtain rfl := HL.out.null.2 rfl
    have he : ∀ W : World, (binOp .eql 22 (.slice none 0 cap) (.slice none 0 0)).run Tryd.prog W = .ok (.bool true) W := fun _ => rfl
    clear h3
    go_enter Tryd.func63, Tryd.ntmps63
    go_wp2_with fail
    go_ret
    exact ⟨_, rfl, World.ownsRow_nil _ _ _ _, Below.refl _ _⟩
  | some ad =>
    have he : ∀ W : World, (binOp .eql 22 (.slice (some ad) L.length cap) (.slice none 0 0)).run Tryd.prog W = .ok (.bool false) W := fun _ => rfl
    clear h3
    have ha : Below w.heap.size w (w.alloc (.cells #[] 47)) := (Below.refl _ _).alloc (Nat.le_refl _) _
    have HO := Lib.hid (World.ownsRow_lit (e := 47) (base := w.heap.size) (size := 5) w #[] 0 (Nat.le_refl _) (by decide) rfl)
    have HA := Lib.hid ha
    have HK := Lib.hid (HL.out.under ha)
    clear ha
    go_enter Tryd.func63, Tryd.ntmps63
    go_wp2_with (at_builtin; refine wpList_append_ents (by first | rfl | kernel_rfl | simp [Region.wanted, yielded]) (.tmp 5) (.tmp 6) rfl w.heap.size _ 0 _ rfl HO.out (some ad) L.length cap L rfl HK.out (by omega) HA.out.size ?_; intro v' w3 ho hg; have HF := Lib.hid (⟨by simpa using ho, below_grown HA.out hg (Nat.le_refl _) HA.out.size⟩ : w3.ownsRow w.heap.size 47 5 v' L.length (rowE L) ∧ Below w.heap.size w w3); clear ho hg)
    go_ret
    exact ⟨_, rfl, HF.out⟩
set_option maxRecDepth 100000 in
set_option maxHeartbeats 2000000 in
theorem cloneS_any (v : Value) (L : List (Int × Value)) (w : World) (h : SvIn w v L) (hl : L.length ≤ 1000) :
    Calls Tryd.prog 64 #[v] w fun e w' => ∃ v', e = .returned v' ∧ w'.ownsRow w.heap.size 58 2 v' L.length (rowS L) ∧ Below w.heap.size w w' := by
  have HL := Lib.hid h
  obtain ⟨A, cap, rfl, h1, h2, h3⟩ := h
  cases A with
  | none =>
    obtain rfl := HL.out.null.2 rfl
    have he : ∀ W : World, (binOp .eql 23 (.slice none 0 cap) (.slice none 0 0)).run Tryd.prog W = .ok (.bool true) W := fun _ => rfl
    clear h3
    go_enter Tryd.func64, Tryd.ntmps64
    go_wp2_with fail
    go_ret
    exact ⟨_, rfl, World.ownsRow_nil _ _ _ _, Below.refl _ _⟩
  | some ad =>
    have he : ∀ W : World, (binOp .eql 23 (.slice (some ad) L.length cap) (.slice none 0 0)).run Tryd.prog W = .ok (.bool false) W := fun _ => rfl
    clear h3
    have ha : Below w.heap.size w (w.alloc (.cells #[] 58)) := (Below.refl _ _).alloc (Nat.le_refl _) _
    have HO := Lib.hid (World.ownsRow_lit (e := 58) (base := w.heap.size) (size := 2) w #[] 0 (Nat.le_refl _) (by decide) rfl)
    have HA := Lib.hid ha
    have HK := Lib.hid (HL.out.under ha)
    clear ha
    go_enter Tryd.func64, Tryd.ntmps64
    go_wp2_with (at_builtin; refine wpList_append_seqs (by first | rfl | kernel_rfl | simp [Region.wanted, yielded]) (.tmp 5) (.tmp 6) rfl w.heap.size _ 0 _ rfl HO.out (some ad) L.length cap L rfl HK.out (by omega) HA.out.size ?_; intro v' w3 ho hg; have HF := Lib.hid (⟨by simpa using ho, below_grown HA.out hg (Nat.le_refl _) HA.out.size⟩ : w3.ownsRow w.heap.size 58 2 v' L.length (rowS L) ∧ Below w.heap.size w w3); clear ho hg)
    go_ret
    exact ⟨_, rfl, HF.out⟩
set_option maxRecDepth 100000 in
set_option maxHeartbeats 2000000 in
theorem cloneI_any (v : Value) (L : List Int) (w : World) (h : NmIn w v L) (hl : L.length ≤ 1000) :
    Calls Tryd.prog 65 #[v] w fun e w' => ∃ v', e = .returned v' ∧ w'.ownsRow w.heap.size 3 1 v' L.length (L.map (Value.int .i64)) ∧ Below w.heap.size w w' := by
  have HL := Lib.hid h
  obtain ⟨A, cap, rfl, h1, h2, h3⟩ := h
  cases A with
  | none =>
    obtain rfl := HL.out.null.2 rfl
    have he : ∀ W : World, (binOp .eql 26 (.slice none 0 cap) (.slice none 0 0)).run Tryd.prog W = .ok (.bool true) W := fun _ => rfl
    clear h3
    go_enter Tryd.func65, Tryd.ntmps65
    go_wp2_with fail
    go_ret
    exact ⟨_, rfl, World.ownsRow_nil _ _ _ _, Below.refl _ _⟩
  | some ad =>
    have he : ∀ W : World, (binOp .eql 26 (.slice (some ad) L.length cap) (.slice none 0 0)).run Tryd.prog W = .ok (.bool false) W := fun _ => rfl
    clear h3
    have ha : Below w.heap.size w (w.alloc (.cells #[] 3)) := (Below.refl _ _).alloc (Nat.le_refl _) _
    have HO := Lib.hid (World.ownsRow_lit (e := 3) (base := w.heap.size) (size := 1) w #[] 0 (Nat.le_refl _) (by decide) rfl)
    have HA := Lib.hid ha
    have HK := Lib.hid (HL.out.under ha)
    clear ha
    go_enter Tryd.func65, Tryd.ntmps65
    go_wp2_with (at_builtin; refine wpList_append_ints (by first | rfl | kernel_rfl | simp [Region.wanted, yielded]) (.tmp 5) (.tmp 6) rfl w.heap.size _ 0 _ rfl HO.out (some ad) L.length cap L rfl HK.out (by omega) HA.out.size ?_; intro v' w3 ho hg; have HF := Lib.hid (⟨by simpa using ho, below_grown HA.out hg (Nat.le_refl _) HA.out.size⟩ : w3.ownsRow w.heap.size 3 1 v' L.length (L.map (Value.int .i64)) ∧ Below w.heap.size w w3); clear ho hg)
    go_ret
    exact ⟨_, rfl, HF.out⟩
end Go.Proofs.YtjaopjhfjijdaaaDoor
