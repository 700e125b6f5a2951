/- Whatever the reading, whatever the text: Format and Parse of the program and of the reference answer the same. -/
import Derived.Test.YthlcpmkjemdhkaaDoorRParse
namespace Go.Proofs.YthlcpmkjemdhkaaDoor
open Go.RowKit

set_option maxRecDepth 100000 in
set_option maxHeartbeats 1000000 in
theorem refParse_size (s : ByteArray) (w : World) (h : ¬ (2 ≤ s.size ∧ s.size ≤ 8)) :
    Calls Tryd.prog 30 #[.string s] w fun e w' => e = .returned (.tuple #[rdV 0 0, .int .i64 3]) ∧ Below w.heap.size w w' := by
  have b0 : Below w.heap.size w (w.alloc (.cells #[.int .i64 0, .int .i64 0] 47)) := (Below.refl _ _).alloc (Nat.le_refl _) _
  by_cases h2 : 2 ≤ s.size
  · have h8 : 8 < s.size := by omega
    have h2' : ¬ (s.size : Int) < 2 := by omega
    have h8' : (8 : Int) < (s.size : Int) := by omega
    clear h
    go_enter Tryd.func30, Tryd.ntmps30
    go_wp2_with fail
    exact bodyPost_ret (v := .tuple #[rdV 0 0, .int .i64 3]) (by simp [results, Tryd.results30, go_sem]) rfl ⟨rfl, b0⟩
  · have h2' : (s.size : Int) < 2 := by omega
    clear h
    go_enter Tryd.func30, Tryd.ntmps30
    go_wp2_with fail
    exact bodyPost_ret (v := .tuple #[rdV 0 0, .int .i64 3]) (by simp [results, Tryd.results30, go_sem]) rfl ⟨rfl, b0⟩
set_option maxRecDepth 100000 in
set_option maxHeartbeats 1000000 in
theorem refParse_none (s : ByteArray) (w : World) (h2 : 2 ≤ s.size) (h8 : s.size ≤ 8) (h : ∀ c, Elt.Ex c → s.extract 0 1 ≠ S [Elt.lt c]) :
    Calls Tryd.prog 30 #[.string s] w fun e w' => e = .returned (.tuple #[rdV 0 0, .int .i64 3]) ∧ Below w.heap.size w w' := by
  have b0 : Below w.heap.size w (w.alloc (.cells #[.int .i64 0, .int .i64 0] 47)) := (Below.refl _ _).alloc (Nat.le_refl _) _
  have r0 := Row.new w #[.int .i64 0, .int .i64 0] 47
  have HL := Lib.hid (fun W => refByLetter_no (s.extract 0 1) W h)
  clear h
  generalize hs1 : s.extract 0 1 = s1 at *
  go_enter Tryd.func30, Tryd.ntmps30
  go_wp2_with fail
  generalize w.alloc (.cells #[.int .i64 0, .int .i64 0] 47) = W00 at *
  refine (HL.out _).mono ?_
  rintro e W0 ⟨rfl, g0⟩
  have B0 := Lib.hid (b0.trans (g0.mono b0.size))
  have R0 := Lib.hid (r0.under g0)
  clear b0 r0 g0
  have f0 := R0.out.thaw 0
  have f1 := R0.out.thaw 1
  obtain ⟨q0, q1⟩ := row2 R0.out
  have HZ := Lib.hid (set2_row (.int .i64 0) (.int .i64 0) R0.out)
  go_wp2_with fail
  exact bodyPost_ret (v := .tuple #[rdV 0 0, .int .i64 3]) (by obtain ⟨z0, z1⟩ := row2 HZ.out; simp [results, Tryd.results30, z0, z1, go_sem]) rfl ⟨rfl, set2_below B0.out (Nat.le_refl _)⟩
theorem tail_neg (c v : Int) : neg (S (Elt.txt c v)) = decide (v < 0) ∨ Elt.dg c = 0 := by
  by_cases hd : Elt.dg c = 0
  · exact .inr hd
  · left
    obtain ⟨k, hk⟩ : ∃ k, Elt.dg c = k + 1 := ⟨Elt.dg c - 1, by omega⟩
    unfold neg stOf
    rw [show Elt.txt c v = Elt.lt c :: Elt.tail c v from rfl, ext_tail, S_list]
    unfold Elt.tail
    by_cases hv : v < 0
    · rw [show Elt.sg v = [45] from if_pos hv, decide_eq_true hv]; rfl
    · rw [show Elt.sg v = [] from if_neg hv, decide_eq_false hv, hk]
      obtain ⟨d, r, hd10, he⟩ := @Elt.ddn_head v.natAbs k
      rw [he, List.nil_append, List.head?_cons, beq_eq_false_iff_ne]
      intro e
      injection e with e
      have := Elt.b10_toNat hd10
      rw [e] at this
      have h45 : (45 : UInt8).toNat = 45 := rfl
      omega
theorem pout_yes {c v : Int} (h : Elt.Val c v) : pout (S (Elt.txt c v)) c = (c, v, 0) := by
  obtain ⟨b1, -, -, -⟩ := Elt.val_bd h
  obtain ⟨-, f6, f7, -⟩ := Elt.facts h.1
  have hn : neg (S (Elt.txt c v)) = decide (v < 0) := (tail_neg c v).resolve_right (by omega)
  have hdec : dec (Elt.ddn v.natAbs (Elt.dg c)) = some v.natAbs := by
    unfold dec; rw [Elt.ddn_dec, Nat.mod_eq_of_lt b1]; simp
  have hst : stOf (S (Elt.txt c v)) = S (Elt.tail c v) := ext_tail _ _
  have hr : restOf (S (Elt.txt c v)) = S (Elt.ddn v.natAbs (Elt.dg c)) ∧ signOf (S (Elt.txt c v)) * (v.natAbs : Int) = v := by
    unfold restOf signOf
    rw [hn, hst]
    by_cases hv : v < 0
    · rw [decide_eq_true hv, if_pos rfl, if_pos rfl]
      refine ⟨?_, by omega⟩
      unfold Elt.tail
      rw [show Elt.sg v = [45] from if_pos hv]
      exact ext_tail _ _
    · rw [decide_eq_false hv, if_neg (by decide), if_neg (by decide)]
      refine ⟨?_, by omega⟩
      unfold Elt.tail
      rw [show Elt.sg v = [] from if_neg hv, List.nil_append]
  unfold pout
  rw [hr.1, S_list, hdec]
  simp only
  rw [hr.2, if_pos ⟨h, rfl⟩]
theorem pout_no {s : ByteArray} (c : Int) (h : NoTxt s) : pout s c = (0, 0, 3) := by
  unfold pout
  cases dec (restOf s).data.toList with
  | none => rfl
  | some n => simp only; rw [if_neg (fun hh => h _ _ hh.1 hh.2.symm)]
theorem refParse_yes (c v : Int) (w : World) (h : Elt.Val c v) :
    Calls Tryd.prog 30 #[.string (S (Elt.txt c v))] w fun e w' => e = .returned (.tuple #[rdV c v, .int .i64 0]) ∧ Below w.heap.size w w' := by
  obtain ⟨l1, l2⟩ := Elt.tail_len h
  have hs : (S (Elt.txt c v)).size = 1 + (Elt.tail c v).length := by rw [S_size]; unfold Elt.txt; rw [List.length_cons]; omega
  have := refParse_letter (S (Elt.txt c v)) c w h.1 (by omega) (by omega) (ext_head _ _)
  rw [pout_yes h] at this
  exact this
theorem refParse_no (s : ByteArray) (w : World) (h : NoTxt s) :
    Calls Tryd.prog 30 #[.string s] w fun e w' => e = .returned (.tuple #[rdV 0 0, .int .i64 3]) ∧ Below w.heap.size w w' := by
  by_cases hs : 2 ≤ s.size ∧ s.size ≤ 8
  · by_cases hl : ∃ c, Elt.Ex c ∧ s.extract 0 1 = S [Elt.lt c]
    · obtain ⟨c, hc, hl⟩ := hl
      have := refParse_letter s c w hc hs.1 hs.2 hl
      rw [pout_no c h] at this
      exact this
    · exact refParse_none s w hs.1 hs.2 (fun c hc e => hl ⟨c, hc, e⟩)
  · exact refParse_size s w hs
/-- Whatever the text: both functions answer the same. -/
theorem both_parse (s : ByteArray) (hs : s.size ≤ 100000) : ∃ c v r : Int,
    (∀ w, Env w → Calls Tryd.prog 28 #[.string s] w fun e w' => e = .returned (.tuple #[rdV c v, .int .i64 r]) ∧ Below w.heap.size w w') ∧
    (∀ w, Calls Tryd.prog 30 #[.string s] w fun e w' => e = .returned (.tuple #[rdV c v, .int .i64 r]) ∧ Below w.heap.size w w') := by
  by_cases h : ∃ c v, Elt.Val c v ∧ s = S (Elt.txt c v)
  · obtain ⟨c, v, hv, rfl⟩ := h
    exact ⟨c, v, 0, fun w hE => parse_yes c v w hE hv, fun w => refParse_yes c v w hv⟩
  · have hn : NoTxt s := fun c v hv e => h ⟨c, v, hv, e⟩
    exact ⟨0, 0, 3, fun w hE => parse_no s w hE hs hn, fun w => refParse_no s w hn⟩
/-- Whatever the reading: both functions answer the same. -/
theorem both_format (c v : Int) : ∃ (t : ByteArray) (r : Int),
    (∀ w, Env w → Calls Tryd.prog 26 #[rdV c v] w fun e w' => e = .returned (.tuple #[.string t, .int .i64 r]) ∧ Below w.heap.size w w') ∧
    (∀ w, Calls Tryd.prog 27 #[rdV c v] w fun e w' => e = .returned (.tuple #[.string t, .int .i64 r]) ∧ Below w.heap.size w w') := by
  by_cases h : Elt.chk c v = 0
  · exact ⟨_, _, fun w hE => format_yes c v w hE (Elt.val_of h), fun w => refFormat_yes c v w (Elt.val_of h)⟩
  · exact ⟨_, _, fun w hE => format_no c v w hE.tab h, fun w => refFormat_no c v w h⟩
end Go.Proofs.YthlcpmkjemdhkaaDoor
