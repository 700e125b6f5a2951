/- The reference's lines of a text. A first line that is read, by its columns. The lines of the program and those of the reference. -/
import Derived.Test.YtfnlgfacadmjpaaGreatDoorBRa
import Derived.Test.YtfnlgfacadmjpaaGreatDoorBMa
import Derived.Test.YtfnlgfacadmjpaaGreatDoorBFt
namespace Go.Proofs.YtfnlgfacadmjpaaGreatDoor.Bu
open Go.RowKit

/-- A text cut at its line feeds. -/
def pcs : List UInt8 → List (List UInt8)
  | [] => [[]]
  | c :: r => if c = 10 then [] :: pcs r else match pcs r with
    | [] => [[c]]
    | l :: ls => (c :: l) :: ls
theorem pcs_free {a : List UInt8} (h : ∀ c ∈ a, c ≠ 10) : pcs a = [a] := by
  induction a with
  | nil => rfl
  | cons c r ih =>
    simp only [pcs]
    rw [if_neg (h c (by simp)), ih (fun x hx => h x (by simp [hx]))]
theorem pcs_cut {a : List UInt8} (b : List UInt8) (h : ∀ c ∈ a, c ≠ 10) : pcs (a ++ 10 :: b) = a :: pcs b := by
  induction a with
  | nil => simp [pcs]
  | cons c r ih =>
    simp only [List.cons_append, pcs]
    rw [if_neg (h c (by simp)), ih (fun x hx => h x (by simp [hx]))]
theorem pcs_step {s : List UInt8} {a k : Nat} (ha : a ≤ k) (hk : s[k]? = some 10) (h : ∀ c ∈ (s.drop a).take (k - a), c ≠ 10) : pcs (s.drop a) = (s.drop a).take (k - a) :: pcs (s.drop (k + 1)) := by
  have e : s.drop a = (s.drop a).take (k - a) ++ 10 :: s.drop (k + 1) := by
    have e1 : (s.drop a).drop (k - a) = s.drop k := by rw [List.drop_drop]; congr 1; omega
    have hk' : k < s.length := (List.getElem?_eq_some_iff.1 hk).1
    have e2 : s.drop k = 10 :: s.drop (k + 1) := by
      rw [List.drop_eq_getElem_cons hk']
      congr 1
      exact (List.getElem?_eq_some_iff.1 hk).2
    rw [← e2, ← e1, List.take_append_drop]
  have h2 := pcs_cut (s.drop (k + 1)) h
  rw [← e] at h2
  exact h2
theorem pcs_len : ∀ (a : List UInt8), (pcs a).length ≤ a.length + 1
  | [] => Nat.le_refl _
  | c :: r => by
    have ih := pcs_len r
    simp only [pcs, List.length_cons]
    split
    · simp only [List.length_cons]; omega
    · split
      · simp
      · rename_i l ls e
        rw [e] at ih
        simp only [List.length_cons] at ih ⊢; omega
theorem infoStr : (Tryz.prog.info? 9).map (fun i => (i.zero, i.size, i.bytes)) = some (some (.string ⟨#[]⟩), 1, 16) := by kernel_rfl
def strs (L : List (List UInt8)) : List Value := L.map fun x => .string (S x)
/-- What lines holds between two bytes. -/
structure Lr (s : List UInt8) (w : World) (k a : Nat) (L : List (List UInt8)) (v : Value) (Y : World) : Prop where
  low : Below w.heap.size w Y
  own : Y.ownsRow w.heap.size 9 1 v L.length (strs L)
  pie : pcs s = L ++ pcs (s.drop a)
  fre : ∀ c ∈ (s.drop a).take (k - a), c ≠ 10
  len : L.length ≤ a
set_option maxRecDepth 100000 in
set_option maxHeartbeats 2000000 in
theorem refLines_any (s : List UInt8) (w : World) (hs : s.length ≤ 4000) :
    Calls Tryz.prog 55 #[.string (S s)] w fun e w' => ∃ v, e = .returned v ∧ w'.ownsRow w.heap.size 9 1 v (pcs s).length (strs (pcs s)) ∧ Below w.heap.size w w' := by
  obtain ⟨i0, hi, hz0, hz1, hz2⟩ := info_parts infoStr
  have hsz : (S s).size = s.length := S_size s
  have HX := Lib.hid (fun (a b : Nat) => S_extract s a b)
  have HA : Hid (∀ k (h : k < (S s).size), s[k]? = some ((S s)[k]'h)) := Lib.hid (fun k h => by
    have h' : k < s.length := by rw [S_size] at h; exact h
    rw [List.getElem?_eq_getElem h']
    rfl)
  generalize S s = t at *
  generalize hn : s.length = n at *
  have HN := Lib.hid hn
  clear hn
  go_enter Tryz.func55, Tryz.ntmps55
  go_wp2_with fail
  go_loopw [3, 4, 5] (fun v f i Y => ∃ (k a : Nat) (L : List (List UInt8)), (k ≤ n ∧ a ≤ k) ∧ i = .int .i64 (k : Int) ∧ f = .int .i64 (a : Int) ∧ Hid (Lr s w k a L v Y)) (fun _ _ i _ => n - (intOf i).toNat)
  case atStart => exact ⟨0, 0, [], ⟨Nat.zero_le _, Nat.le_refl _⟩, rfl, rfl, Lib.hid ⟨Below.refl _ _, World.ownsRow_nil _ _ _ _, by simp, by simp, Nat.le_refl _⟩⟩
  case round =>
    obtain ⟨k, a, L, ⟨hk, hak⟩, rfl, rfl, M⟩ := hrel
    have k0 : (0 : Int) ≤ (k : Int) := by omega
    by_cases hlt : k < n
    · have k1 : (k : Int) < (n : Int) := by omega
      have k2 : k < t.size := by omega
      by_cases hten : t[k] = 10
      · have hne : ((t[k].toNat : Int) == 10) = true := by rw [hten]; rfl
        have hsk : s[k]? = some 10 := by rw [HA.out k k2, hten]
        obtain ⟨A, cp, ev⟩ := row_form M.out.own
        subst ev
        have hb3 : Below wr.heap.size wr (wr.alloc (.cells #[.string (t.extract a k)] 9)) := (Below.refl _ _).alloc (Nat.le_refl _) _
        have hrow := Row.new wr #[.string (t.extract a k)] 9
        have hcel : ∀ (j : Nat) (u : Value), [Value.string (t.extract a k)][j]? = some u → (wr.alloc (.cells #[.string (t.extract a k)] 9)).cell? ((⟨wr.heap.size, 0, none⟩ : Addr).add j) = some u := fun j u hu => by
          have hj : j < 1 := (List.getElem?_eq_some_iff.1 hu).1
          obtain rfl : j = 0 := by omega
          rw [Addr.add_lit, hrow.cell]
          exact hu
        have HC := Lib.hid hcel
        have HO := Lib.hid (own_heap (W' := wr.alloc (.cells #[.string (t.extract a k)] 9)) M.out.own (fun i hi => hb3.block i (row_size M.out.own hi)))
        have HB3 := Lib.hid hb3
        have hLn := M.out.len
        have ka : (a : Int) ≤ (k : Int) := by omega
        have a0 : (0 : Int) ≤ (a : Int) := by omega
        clear hcel hrow hb3
        go_wp2_with (at_builtin; refine El.wpList_append_own' rfl (.tmp 16) (.tmp 21) 41 rfl w.heap.size 9 i0 (.string ⟨#[]⟩) 1 16 Tryz.underlying41 hi hz0 hz1 hz2 rfl (by decide) (.slice A L.length cp) L.length (strs L) rfl HO.out ⟨wr.heap.size, 0, none⟩ 1 1 [.string (t.extract a k)] rfl rfl HC.out (fun u hu => by rw [List.mem_singleton.1 hu]; rfl) (by unfold maxLen; omega) (by omega) (Nat.le_trans M.out.low.size HB3.out.size) ?_; intro v' w9 ho' hg'; obtain ⟨A', cap', ev⟩ : ∃ A' cap', v' = .slice A' (L.length + 1) cap' := row_form ho'; subst ev)
        have HLr : Hid (Lr s w (k + 1) (k + 1) (L ++ [(s.drop a).take (k - a)]) (.slice A' (L.length + 1) cap') w9) := Lib.hid (by
          have e : t.extract a k = S ((s.drop a).take (k - a)) := by rw [HX.out, List.drop_take]
          rw [e] at ho'
          refine ⟨(M.out.low.trans (HB3.out.mono M.out.low.size)).grown hg' (Nat.le_trans M.out.low.size HB3.out.size) (fun j ej => row_base M.out.own ej), ?_, ?_, by simp, by simp; omega⟩
          · rw [List.length_append, List.length_singleton, show strs (L ++ [(s.drop a).take (k - a)]) = strs L ++ [.string (S ((s.drop a).take (k - a)))] by simp [strs]]
            exact ho'
          · rw [List.append_assoc, List.singleton_append, ← pcs_step hak hsk M.out.fre]
            exact M.out.pie)
        clear ho' hg' HC HO HB3 M
        go_roundw
        case rel => exact ⟨k + 1, k + 1, _, ⟨by omega, Nat.le_refl _⟩, by go_num, by go_num, HLr⟩
        case measure => simp [intOf]; omega
      · have hne : ((t[k].toNat : Int) == 10) = false := by
          rw [beq_eq_false_iff_ne]
          intro e
          exact hten (UInt8.toNat_inj.1 (by rw [show (10 : UInt8).toNat = 10 from rfl]; omega))
        have HLr : Hid (Lr s w (k + 1) a L _ wr) := Lib.hid ⟨M.out.low, M.out.own, M.out.pie, fun c hc => by
          rw [show k + 1 - a = (k - a) + 1 by omega, List.take_add_one, List.getElem?_drop, show a + (k - a) = k by omega, HA.out k k2] at hc
          rcases List.mem_append.1 hc with q | q
          · exact M.out.fre c q
          · simp only [Option.toList_some, List.mem_singleton] at q
            rw [q]; exact hten, M.out.len⟩
        clear M hten
        go_wp2_with fail
        go_roundw
        case rel => exact ⟨k + 1, a, L, ⟨by omega, by omega⟩, by go_num, rfl, HLr⟩
        case measure => simp [intOf]; omega
    · obtain rfl : k = n := by omega
      have k1 : ¬ (k : Int) < (k : Int) := by omega
      obtain ⟨A, cp, ev⟩ := row_form M.out.own
      subst ev
      have hb3 : Below wr.heap.size wr (wr.alloc (.cells #[.string (t.extract a k)] 9)) := (Below.refl _ _).alloc (Nat.le_refl _) _
      have hrow := Row.new wr #[.string (t.extract a k)] 9
      have hcel : ∀ (j : Nat) (u : Value), [Value.string (t.extract a k)][j]? = some u → (wr.alloc (.cells #[.string (t.extract a k)] 9)).cell? ((⟨wr.heap.size, 0, none⟩ : Addr).add j) = some u := fun j u hu => by
        have hj : j < 1 := (List.getElem?_eq_some_iff.1 hu).1
        obtain rfl : j = 0 := by omega
        rw [Addr.add_lit, hrow.cell]
        exact hu
      have HC := Lib.hid hcel
      have HO := Lib.hid (own_heap (W' := wr.alloc (.cells #[.string (t.extract a k)] 9)) M.out.own (fun i hi => hb3.block i (row_size M.out.own hi)))
      have HB3 := Lib.hid hb3
      have hLn := M.out.len
      have ka : (a : Int) ≤ (k : Int) := by omega
      have a0 : (0 : Int) ≤ (a : Int) := by omega
      clear hcel hrow hb3
      go_wp2_with (at_builtin; refine El.wpList_append_own' rfl (.tmp 25) (.tmp 29) 41 rfl w.heap.size 9 i0 (.string ⟨#[]⟩) 1 16 Tryz.underlying41 hi hz0 hz1 hz2 rfl (by decide) (.slice A L.length cp) L.length (strs L) rfl HO.out ⟨wr.heap.size, 0, none⟩ 1 1 [.string (t.extract a k)] rfl rfl HC.out (fun u hu => by rw [List.mem_singleton.1 hu]; rfl) (by unfold maxLen; omega) (by omega) (Nat.le_trans M.out.low.size HB3.out.size) ?_; intro v' w9 ho' hg'; obtain ⟨A', cap', ev⟩ : ∃ A' cap', v' = .slice A' (L.length + 1) cap' := row_form ho'; subst ev)
      have HF : Hid (w9.ownsRow w.heap.size 9 1 (.slice A' (L.length + 1) cap') (pcs s).length (strs (pcs s)) ∧ Below w.heap.size w w9) := Lib.hid (by
        have e : t.extract a k = S (s.drop a) := by rw [HX.out, List.drop_take, List.take_of_length_le (by rw [List.length_drop, HN.out]; omega)]
        rw [e] at ho'
        have hp : pcs s = L ++ [s.drop a] := by
          rw [M.out.pie, pcs_free (fun c hc => M.out.fre c (by rw [List.take_of_length_le (by rw [List.length_drop, HN.out]; omega)]; exact hc))]
        refine ⟨?_, (M.out.low.trans (HB3.out.mono M.out.low.size)).grown hg' (Nat.le_trans M.out.low.size HB3.out.size) (fun j ej => row_base M.out.own ej)⟩
        rw [hp, List.length_append, List.length_singleton, show strs (L ++ [s.drop a]) = strs L ++ [.string (S (s.drop a))] by simp [strs]]
        exact ho')
      clear ho' hg' HC HO HB3 M
      go_ret
      exact ⟨_, rfl, HF.out.1, HF.out.2⟩
end Go.Proofs.YtfnlgfacadmjpaaGreatDoor.Bu
namespace Go.Proofs.YtfnlgfacadmjpaaGreatDoor.Bu
open Go.RowKit
open Lib (join splitK)

theorem splitK_ne (k : Nat) (s : List UInt8) : splitK [32] 0 k s ≠ [] := by
  cases k with
  | zero => rw [Wrd.splitK_zero]; simp
  | succ k =>
    by_cases h : (32 : UInt8) ∈ s
    · obtain ⟨a, b, e, hn⟩ : ∃ a b, s = a ++ 32 :: b ∧ (32 : UInt8) ∉ a := List.eq_append_cons_of_mem h
      rw [e, Wrd.splitK_at _ hn]; simp
    · rw [Wrd.splitK_none _ h]; simp
theorem join_two (x y : List UInt8) (l : List (List UInt8)) : join (x :: y :: l) [32] = x ++ 32 :: join (y :: l) [32] := by
  rw [Lib.join_cons, Lib.join_cons]; simp [Lib.joinTail]
theorem join_splitK : ∀ (k : Nat) (s : List UInt8), join (splitK [32] 0 k s) [32] = s
  | 0, s => by rw [Wrd.splitK_zero, Lib.join_one]
  | k + 1, s => by
    by_cases h : (32 : UInt8) ∈ s
    · obtain ⟨a, b, e, hn⟩ : ∃ a b, s = a ++ 32 :: b ∧ (32 : UInt8) ∉ a := List.eq_append_cons_of_mem h
      rw [e, Wrd.splitK_at _ hn]
      have ih := join_splitK k b
      cases hs : splitK [32] 0 k b with
      | nil => exact absurd hs (splitK_ne k b)
      | cons y l => rw [join_two, ← hs, ih]
    · rw [Wrd.splitK_none _ h, Lib.join_one]
theorem cnt_form {a : UInt8} {x : List UInt8} (h : cnt [a, a] x ≠ 0) : ∃ n, (1 ≤ n ∧ n ≤ 26) ∧ x = [a, a] ++ ltr n ∧ cnt [a, a] x = n := by
  unfold cnt at h
  by_cases hp : Lib.hasPrefix x [a, a] = true
  · rw [if_pos hp] at h
    have hx : ∃ r, x = [a, a] ++ r := by
      match x, hp with
      | [], hp => simp [Lib.hasPrefix] at hp
      | [p], hp => simp [Lib.hasPrefix] at hp
      | p :: q :: r, hp => simp [Lib.hasPrefix] at hp; exact ⟨r, by rw [← hp.1, ← hp.2]; rfl⟩
    obtain ⟨r, rfl⟩ := hx
    match r, h with
    | [], h => simp at h
    | [c], h =>
      simp at h
      have hc : isCap c = true := by
        unfold lno at h
        by_cases q : isCap c = true
        · exact q
        · rw [if_neg q] at h; exact absurd rfl h
      have hv : lno c = (c.toNat : Int) - 64 := by unfold lno; rw [if_pos hc]
      unfold isCap at hc
      rw [Bool.and_eq_true, decide_eq_true_iff, decide_eq_true_iff] at hc
      refine ⟨lno c, ⟨by omega, by omega⟩, ?_, ?_⟩
      · rw [hv]
        unfold ltr
        have : (64 + ((c.toNat : Int) - 64).toNat) = c.toNat := by omega
        rw [this, UInt8.ofNat_toNat]
      · unfold cnt; rw [if_pos hp]; simp
    | c :: d :: r, h => simp at h
  · rw [if_neg hp] at h; exact absurd rfl h
/-- What a first line that is read looks like. -/
theorem hdr_form {s c : List UInt8} {near t cor del : Int} (h : Hdr (hws s) near c t cor del) : ∃ st mark, s = sy ++ 32 :: (c ++ 32 :: (st ++ mark)) ∧ c.length = 4 ∧ st.length = 6 ∧ Stm st near t ∧ ctr (S c) = true ∧
    ((mark = [] ∧ cor = 0 ∧ del = 0) ∨ ∃ n, (1 ≤ n ∧ n ≤ 26) ∧ ((mark = 32 :: ([67, 67] ++ ltr n) ∧ cor = n ∧ del = 0) ∨ (mark = 32 :: ([82, 82] ++ ltr n) ∧ cor = 0 ∧ del = n))) := by
  obtain ⟨st, rest, e, hc, hst, hr⟩ := h
  have hj := join_splitK 3 s
  rw [show splitK [32] 0 3 s = hws s from rfl, e] at hj
  have hst6 : st.length = 6 := by
    obtain ⟨d, hh, i, -, -, -, rfl, -⟩ := hst
    simp [dig2_len]
  rcases hr with ⟨rfl, h1, h2⟩ | ⟨x, rfl, h1, h2, h3⟩
  · refine ⟨st, [], ?_, (ctr_caps hc).1, hst6, hst, hc, .inl ⟨rfl, h1, h2⟩⟩
    rw [← hj, join_two, join_two, Lib.join_one, List.append_nil]
  · have hs : s = sy ++ 32 :: (c ++ 32 :: (st ++ 32 :: x)) := by rw [← hj, join_two, join_two, join_two, Lib.join_one]
    refine ⟨st, 32 :: x, hs, (ctr_caps hc).1, hst6, hst, hc, .inr ?_⟩
    by_cases hz : cnt [67, 67] x = 0
    · have hy : cnt [82, 82] x ≠ 0 := fun q => h3 ⟨h1.trans hz, h2.trans q⟩
      obtain ⟨n, hn, hx, hv⟩ := cnt_form hy
      exact ⟨n, hn, .inr ⟨by rw [hx], h1.trans hz, h2.trans hv⟩⟩
    · obtain ⟨n, hn, hx, hv⟩ := cnt_form hz
      refine ⟨n, hn, .inl ⟨by rw [hx], h1.trans hv, ?_⟩⟩
      rw [h2, hx]
      exact (cnt_own hn).2.1
theorem stm_free {st : List UInt8} {near t : Int} (h : Stm st near t) : (32 : UInt8) ∉ st := by
  obtain ⟨d, hh, i, h1, h2, h3, rfl, -⟩ := h
  refine free_digs ?_
  rw [digs_app, digs_app, digs_dig2 (by omega) (by omega), digs_dig2 (by omega) (by omega), digs_dig2 (by omega) (by omega)]
  rfl
theorem hdr_of {c st mark : List UInt8} {near t cor del : Int} (hc : ctr (S c) = true) (hst : Stm st near t)
    (h : (mark = [] ∧ cor = 0 ∧ del = 0) ∨ ∃ n, (1 ≤ n ∧ n ≤ 26) ∧ ((mark = 32 :: ([67, 67] ++ ltr n) ∧ cor = n ∧ del = 0) ∨ (mark = 32 :: ([82, 82] ++ ltr n) ∧ cor = 0 ∧ del = n))) :
    Hdr (hws (sy ++ 32 :: (c ++ 32 :: (st ++ mark)))) near c t cor del := by
  have f1 : (32 : UInt8) ∉ sy := by decide
  have f2 : (32 : UInt8) ∉ c := fun h => (cap_not ((ctr_caps hc).2 _ h)).2 rfl
  have f3 := stm_free hst
  unfold hws
  rw [Wrd.splitK_at _ f1, Wrd.splitK_at _ f2]
  rcases h with ⟨rfl, h1, h2⟩ | ⟨n, hn, ⟨rfl, h1, h2⟩ | ⟨rfl, h1, h2⟩⟩
  · rw [List.append_nil, Wrd.splitK_none _ f3]
    exact ⟨st, [], rfl, hc, hst, .inl ⟨rfl, h1, h2⟩⟩
  · rw [Wrd.splitK_at _ f3, Wrd.splitK_zero]
    obtain ⟨e1, e2, -, -⟩ := cnt_own hn
    exact ⟨st, [_], rfl, hc, hst, .inr ⟨_, rfl, by rw [e1, h1], by rw [e2, h2], fun q => by omega⟩⟩
  · rw [Wrd.splitK_at _ f3, Wrd.splitK_zero]
    obtain ⟨-, -, e3, e4⟩ := cnt_own hn
    exact ⟨st, [_], rfl, hc, hst, .inr ⟨_, rfl, by rw [e4, h1], by rw [e3, h2], fun q => by omega⟩⟩
/-- A first line of these columns: when it is read, and as what. -/
theorem hdr_cols {s c st mark : List UInt8} (e : s = sy ++ 32 :: (c ++ 32 :: (st ++ mark))) (h4 : c.length = 4) (h6 : st.length = 6) (near : Int) (c' : List UInt8) (t cor del : Int) :
    Hdr (hws s) near c' t cor del ↔ c' = c ∧ ctr (S c) = true ∧ Stm st near t ∧ ((mark = [] ∧ cor = 0 ∧ del = 0) ∨ ∃ n, (1 ≤ n ∧ n ≤ 26) ∧ ((mark = 32 :: ([67, 67] ++ ltr n) ∧ cor = n ∧ del = 0) ∨ (mark = 32 :: ([82, 82] ++ ltr n) ∧ cor = 0 ∧ del = n))) := by
  constructor
  · intro h
    obtain ⟨st', mark', e', h4', h6', hst, hc, hm⟩ := hdr_form h
    rw [e] at e'
    have e1 := (List.append_inj e' rfl).2
    injection e1 with _ e1
    obtain ⟨e2, e3⟩ := List.append_inj e1 (by rw [h4, h4'])
    injection e3 with _ e3
    obtain ⟨e4, e5⟩ := List.append_inj e3 (by rw [h6, h6'])
    subst e2; subst e4; subst e5
    exact ⟨rfl, hc, hst, hm⟩
  · rintro ⟨rfl, hc, hst, hm⟩
    rw [e]
    exact hdr_of hc hst hm
/-- The columns of a text that is long enough. -/
theorem cols {s : List UInt8} (h17 : 17 ≤ s.length) (h1 : s.take 6 = sy ++ [32]) (h2 : s[10]? = some 32) : s = sy ++ 32 :: ((s.take 10).drop 6 ++ 32 :: ((s.take 17).drop 11 ++ s.drop 17)) ∧ ((s.take 10).drop 6).length = 4 ∧ ((s.take 17).drop 11).length = 6 := by
  refine ⟨?_, by rw [List.length_drop, List.length_take]; omega, by rw [List.length_drop, List.length_take]; omega⟩
  have e1 : s = s.take 6 ++ s.drop 6 := (List.take_append_drop 6 s).symm
  have e2 : s.drop 6 = (s.take 10).drop 6 ++ s.drop 10 := by
    have := (List.take_append_drop 4 (s.drop 6)).symm
    rw [List.drop_drop, List.take_drop] at this
    exact this
  have e3 : s.drop 10 = 32 :: s.drop 11 := by
    have hl : 10 < s.length := by omega
    rw [List.drop_eq_getElem_cons hl]
    congr 1
    exact (List.getElem?_eq_some_iff.1 h2).2
  have e4 : s.drop 11 = (s.take 17).drop 11 ++ s.drop 17 := by
    have := (List.take_append_drop 6 (s.drop 11)).symm
    rw [List.drop_drop, List.take_drop] at this
    exact this
  rw [← e4, ← e3, ← e2]
  rw [show sy ++ 32 :: s.drop 6 = (sy ++ [32]) ++ s.drop 6 by simp, ← h1]
  exact e1
end Go.Proofs.YtfnlgfacadmjpaaGreatDoor.Bu
namespace Go.Proofs.YtfnlgfacadmjpaaGreatDoor.Bu
open Go.RowKit

/-- The pieces between line feeds, and the lines with theirs. -/
theorem lns_pcs : ∀ b : List UInt8, ∃ (L : List (List UInt8)) (z : List UInt8), pcs b = L ++ [z] ∧ lns b = L.map (· ++ [10]) ++ (if z = [] then [] else [z]) ∧ (∀ x ∈ L, ∀ c ∈ x, c ≠ 10) ∧ (∀ c ∈ z, c ≠ 10)
  | [] => ⟨[], [], rfl, by simp [lns], by simp, by simp⟩
  | c :: r => by
    obtain ⟨L, z, h1, h2, h3, h4⟩ := lns_pcs r
    by_cases hc : c = 10
    · refine ⟨[] :: L, z, by simp [pcs, hc, h1], by simp [lns, hc, h2], ?_, h4⟩
      intro x hx
      rcases List.mem_cons.1 hx with rfl | q
      · simp
      · exact h3 x q
    · match L, h1, h2, h3 with
      | [], h1, h2, _ =>
        refine ⟨[], c :: z, by simp [pcs, hc, h1], ?_, by simp, ?_⟩
        · by_cases hz : z = []
          · rw [if_pos hz] at h2
            simp [lns, hc, h2, hz]
          · rw [if_neg hz] at h2
            simp [lns, hc, h2]
        · intro x hx
          rcases List.mem_cons.1 hx with rfl | q
          · exact hc
          · exact h4 x q
      | l :: L, h1, h2, h3 =>
        refine ⟨(c :: l) :: L, z, by simp [pcs, hc, h1], by simp [lns, hc, h2], ?_, h4⟩
        intro x hx y hy
        rcases List.mem_cons.1 hx with rfl | q
        · rcases List.mem_cons.1 hy with rfl | q2
          · exact hc
          · exact h3 l (by simp) y q2
        · exact h3 x (by simp [q]) y hy
end Go.Proofs.YtfnlgfacadmjpaaGreatDoor.Bu
