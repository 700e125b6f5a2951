/- Contracts of the reference's Join and Pad. -/
import Derived.Test.YtjabnicflpeopaaRfD
import Derived.Test.YtjabnicflpeopaaBitF
import Derived.Deep.Upon
namespace Go.Proofs.Ytjabnicflpeopaa
open Go.RowKit

/-- An append whose run is known, as one step of a drawn region. -/
theorem step_append_run {P : Program} {ops : Array Oper} {o : Oper} {a : Act} {w : World} {K : Act → World → Prop} {Q : Exit → Act → World → Prop} {E : Prop} (hgd : o.guard = none) (s x : Operand) (t : TypeId)
    (ho : o.op = .call { callee := .builtin .append, args := #[s, x], argTypes := #[t, t] }) (v u : Value) (hs : a.eval s = v) (hx : a.eval x = u) {v' : Value} {w' : World}
    (hr : (Builtin.append_ #[t, t] o.type #[v, u]).run P w = .ok v' w') (hK : K (a.put o.dst v') w') :
    if Region.wanted o (yielded ops a.tmps) = true then Oper.wp P o a w K Q else E := by
  have hw : Region.wanted o (yielded ops a.tmps) = true := by simp [Region.wanted, hgd]
  rw [if_pos hw]
  unfold Oper.wp execOp
  simp only [ho, resolve, invoke, builtin, Sem.run_bind, Sem.run_pure, Result.andThen_ok, List.map_toArray, List.map_cons, List.map_nil, hs, hx, hr]
  exact hK
/-- One list of numbers appended to another. -/
theorem append_list (w : World) (B : Nat) (v1 : Value) (X : List Int) (A : Option Addr) (c : Nat) (Y : List Int) (ty : TypeId) (h : OwnI w B v1 X) (k : Ins w A c Y) (hB : B ≤ w.heap.size) (hl : X.length + Y.length ≤ 1000000) :
    ∃ v' w', (Builtin.append_ #[25, 25] ty #[v1, .slice A Y.length c]).run Try.prog w = .ok v' w' ∧ OwnI w' B v' (X ++ Y) ∧ w.grownBy w' v1.ownBlock := by
  by_cases h0 : 0 < Y.length
  · obtain ⟨bk, off, rfl, hlt, hc0⟩ := k.2.2.2 0 h0
    have hc : ∀ j u, (ic Y)[j]? = some u → w.cell? ((⟨bk, off, none⟩ : Addr).add j) = some u := fun j u hj => by
      rw [Addr.add_lit]
      have hjl : j < Y.length := by rw [← ic_len Y]; exact (List.getElem?_eq_some_iff.1 hj).1
      obtain ⟨bk', off', e, _, hc⟩ := k.2.2.2 j hjl
      injection e with e
      injection e with e1 e2
      rw [ic_at hjl] at hj
      injection hj with hj
      rw [← hj, e1, e2]
      exact hc
    obtain ⟨v', w', hr, h2, h3, -⟩ := run_append_own (P := Try.prog) w B 25 ty 3 Try.t3 _ 1 8 Try.underlying25 intI intZ intS intB rfl (by decide) v1 X.length (ic X) h ⟨bk, off, none⟩ Y.length c (ic Y) (by rw [ic_len]; omega) hc (ic_one Y) (by unfold maxLen; omega) (by omega) hB
    refine ⟨v', w', hr, ?_, h3⟩
    unfold OwnI
    rw [List.length_append, ic_app]
    exact h2
  · obtain rfl : Y = [] := List.eq_nil_of_length_eq_zero (by omega)
    cases A with
    | none =>
      obtain ⟨-, rfl⟩ := k.2.2.1 rfl
      exact ⟨v1, w, run_append_owned_none w B _ ty 3 Try.t3 1 Try.underlying25 intI v1 X.length (ic X) h, by rw [List.append_nil]; exact h, grown_refl _ _⟩
    | some ad =>
      obtain ⟨v', w', hr, h2, h3, -⟩ := run_append_own (P := Try.prog) w B 25 ty 3 Try.t3 _ 1 8 Try.underlying25 intI intZ intS intB rfl (by decide) v1 X.length (ic X) h ad 0 c [] (by simp) (fun j u hj => by simp at hj) (fun u hu => by cases hu) (by unfold maxLen; omega) (by omega) hB
      refine ⟨v', w', hr, ?_, h3⟩
      unfold OwnI
      rw [List.append_nil]
      simpa using h2
theorem bl_behind (L M : List Nat) (n m : Nat) : bl (bt L) n ++ bl (bt M) m = bl (behind L n M) (n + m) := by
  induction m with
  | zero =>
    rw [Nat.add_zero, show bl (bt M) 0 = [] from rfl, List.append_nil]
    exact bl_cong (fun i hi => by unfold behind; rw [if_pos hi])
  | succ m ih =>
    rw [bl_succ, ← List.append_assoc, ih, ← Nat.add_assoc, bl_succ]
    congr 1
    unfold behind
    rw [if_neg (by omega), Nat.add_sub_cancel_left]
set_option maxHeartbeats 1000000 in
theorem refJoin_state1 (w : World) (A B : Option Addr) (c d : Nat) (L M : List Nat) (n m : Int) (h : Bys w A c L) (k : Bys w B d M) (hn0 : -9223372036854775808 ≤ n) (hn1 : n ≤ 9223372036854775807) (hm0 : -9223372036854775808 ≤ m) (hm1 : m ≤ 9223372036854775807) (hv : vb L n = false) :
    Calls Try.prog 19 #[btV A c L n, btV B d M m] w (Gives (joinA L n M m) w) := by
  have E : Hid (joinA L n M m = noAns 7) := Lib.hid (by unfold joinA; rw [if_pos hv])
  have HV := Lib.hid hv
  clear hv
  have HA : Hid (Below w.heap.size w (((w.alloc (.cells #[.slice A L.length c, .int .i64 n] 24)).alloc (.cells #[.slice B M.length d, .int .i64 m] 24)).alloc (.cells #[.slice none 0 0, .int .i64 0] 24))) := Lib.hid ((((Below.refl _ _).alloc (Nat.le_refl _) _).alloc (by simp) _).alloc (by simp; omega) _)
  have H := Lib.hid h
  have KK := Lib.hid k
  clear h k
  go_enter Try.func19, Try.ntmps19
  go_wp2_with fail
  refine (refValid_any _ A c L n (H.out.under HA.out) hn0 hn1).mono ?_
  rw [HV.out]
  rintro e w1 ⟨rfl, hb⟩
  have r0 : Row w1 w.heap.size 24 #[.slice A L.length c, .int .i64 n] := (Row.alloc (Row.alloc (Row.new _ _ _) _) _).under hb
  have ra : Row w1 (w.heap.size + 1) 24 #[.slice B M.length d, .int .i64 m] := (Row.alloc (Row.newAt (by simp)) _).under hb
  have r1 : Row w1 (w.heap.size + 1 + 1) 24 #[.slice none 0 0, .int .i64 0] := (Row.newAt (by simp)).under hb
  have HB : Hid (Below w.heap.size w w1) := Lib.hid (HA.out.trans (hb.mono HA.out.size))
  have e1 : Hid (w.heap.size ≤ w.heap.size + 1 + 1) := Lib.hid (by omega)
  have e2 : Hid (w.heap.size ≠ w.heap.size + 1 + 1 ∧ w.heap.size + 1 ≠ w.heap.size + 1 + 1) := Lib.hid ⟨by omega, by omega⟩
  have e3 : Hid (w.heap.size ≤ w.heap.size + 1) := Lib.hid (by omega)
  clear hb HA
  generalize w.heap.size + 1 + 1 = g1 at r1 e1 e2 ⊢
  generalize w.heap.size + 1 = ga at ra e2 e3 ⊢
  generalize hG : w.heap.size = g0 at r0 e1 e2 e3 HB ⊢
  have G0 := Lib.hid hG
  clear hG
  obtain ⟨p0, p1⟩ := row2 r0
  obtain ⟨a0, a1⟩ := row2 ra
  obtain ⟨q0, q1⟩ := row2 r1
  have f0 := r1.thaw 0
  have f1 := r1.thaw 1
  have R0 := Lib.hid r0
  have RA := Lib.hid ra
  have R1 := Lib.hid r1
  clear r0 ra r1
  go_wp2
  have zr := set2_row (.slice none 0 0) (.int .i64 0) R1.out
  have zb := set2_below (u0 := .slice none 0 0) (u1 := .int .i64 0) HB.out e1.out
  clear p0 p1 q0 q1 f0 f1 R1 R0 RA HB a0 a1
  generalize (w1.setCell ⟨g1, 0, none⟩ (.slice none 0 0)).setCell ⟨g1, 1, none⟩ (.int .i64 0) = V at zr zb ⊢
  obtain ⟨k0, k1⟩ := row2 zr
  have ZB := Lib.hid zb
  clear zr zb
  exact bodyPost_ret (v := .tuple #[.agg #[.slice none 0 0, .int .i64 0], .int .i64 7]) (by simp [results, Try.results19, go_sem, k0, k1]) rfl (by rw [E.out]; exact ⟨none, 0, rfl, Bys.none _, by rw [G0.out]; exact ZB.out⟩)
set_option maxHeartbeats 1000000 in
theorem refJoin_state2 (w : World) (A B : Option Addr) (c d : Nat) (L M : List Nat) (n m : Int) (h : Bys w A c L) (k : Bys w B d M) (hn0 : -9223372036854775808 ≤ n) (hn1 : n ≤ 9223372036854775807) (hm0 : -9223372036854775808 ≤ m) (hm1 : m ≤ 9223372036854775807) (hv : vb L n = true) (hv2 : vb M m = false) :
    Calls Try.prog 19 #[btV A c L n, btV B d M m] w (Gives (joinA L n M m) w) := by
  have E : Hid (joinA L n M m = noAns 7) := Lib.hid (by unfold joinA; rw [if_neg (by simp [hv]), if_pos hv2])
  have HV := Lib.hid hv
  have HV2 := Lib.hid hv2
  clear hv hv2
  have HA : Hid (Below w.heap.size w (((w.alloc (.cells #[.slice A L.length c, .int .i64 n] 24)).alloc (.cells #[.slice B M.length d, .int .i64 m] 24)).alloc (.cells #[.slice none 0 0, .int .i64 0] 24))) := Lib.hid ((((Below.refl _ _).alloc (Nat.le_refl _) _).alloc (by simp) _).alloc (by simp; omega) _)
  have H := Lib.hid h
  have KK := Lib.hid k
  clear h k
  go_enter Try.func19, Try.ntmps19
  go_wp2_with fail
  refine (refValid_any _ A c L n (H.out.under HA.out) hn0 hn1).mono ?_
  rw [HV.out]
  rintro e w1 ⟨rfl, hb⟩
  have r0 : Row w1 w.heap.size 24 #[.slice A L.length c, .int .i64 n] := (Row.alloc (Row.alloc (Row.new _ _ _) _) _).under hb
  have ra : Row w1 (w.heap.size + 1) 24 #[.slice B M.length d, .int .i64 m] := (Row.alloc (Row.newAt (by simp)) _).under hb
  have r1 : Row w1 (w.heap.size + 1 + 1) 24 #[.slice none 0 0, .int .i64 0] := (Row.newAt (by simp)).under hb
  have HB : Hid (Below w.heap.size w w1) := Lib.hid (HA.out.trans (hb.mono HA.out.size))
  have e1 : Hid (w.heap.size ≤ w.heap.size + 1 + 1) := Lib.hid (by omega)
  have e2 : Hid (w.heap.size ≠ w.heap.size + 1 + 1 ∧ w.heap.size + 1 ≠ w.heap.size + 1 + 1) := Lib.hid ⟨by omega, by omega⟩
  have e3 : Hid (w.heap.size ≤ w.heap.size + 1) := Lib.hid (by omega)
  clear hb HA
  generalize w.heap.size + 1 + 1 = g1 at r1 e1 e2 ⊢
  generalize w.heap.size + 1 = ga at ra e2 e3 ⊢
  generalize hG : w.heap.size = g0 at r0 e1 e2 e3 HB ⊢
  have G0 := Lib.hid hG
  clear hG
  obtain ⟨p0, p1⟩ := row2 r0
  obtain ⟨a0, a1⟩ := row2 ra
  obtain ⟨q0, q1⟩ := row2 r1
  have f0 := r1.thaw 0
  have f1 := r1.thaw 1
  have R0 := Lib.hid r0
  have RA := Lib.hid ra
  have R1 := Lib.hid r1
  clear r0 ra r1
  go_wp2_with fail
  refine (refValid_any _ B d M m (KK.out.under (by rw [G0.out]; exact HB.out)) hm0 hm1).mono ?_
  rw [HV2.out]
  rintro e w2 ⟨rfl, hb⟩
  have r0 := R0.out.under hb
  have ra := RA.out.under hb
  have r1 := R1.out.under hb
  have HB2 : Hid (Below g0 w w2) := Lib.hid (HB.out.trans (hb.mono (by have := HB.out.size; have := G0.out; omega)))
  clear hb p0 p1 a0 a1 q0 q1 f0 f1 R0 RA R1 HB
  have HB := HB2
  clear HB2
  obtain ⟨p0, p1⟩ := row2 r0
  obtain ⟨a0, a1⟩ := row2 ra
  obtain ⟨q0, q1⟩ := row2 r1
  have f0 := r1.thaw 0
  have f1 := r1.thaw 1
  have R0 := Lib.hid r0
  have RA := Lib.hid ra
  have R1 := Lib.hid r1
  clear r0 ra r1
  go_wp2
  have zr := set2_row (.slice none 0 0) (.int .i64 0) R1.out
  have zb := set2_below (u0 := .slice none 0 0) (u1 := .int .i64 0) HB.out e1.out
  clear p0 p1 q0 q1 f0 f1 R1 R0 RA HB a0 a1
  generalize (w2.setCell ⟨g1, 0, none⟩ (.slice none 0 0)).setCell ⟨g1, 1, none⟩ (.int .i64 0) = V at zr zb ⊢
  obtain ⟨k0, k1⟩ := row2 zr
  have ZB := Lib.hid zb
  clear zr zb
  exact bodyPost_ret (v := .tuple #[.agg #[.slice none 0 0, .int .i64 0], .int .i64 7]) (by simp [results, Try.results19, go_sem, k0, k1]) rfl (by rw [E.out]; exact ⟨none, 0, rfl, Bys.none _, by rw [G0.out]; exact ZB.out⟩)
set_option maxHeartbeats 1000000 in
theorem refJoin_limit (w : World) (A B : Option Addr) (c d : Nat) (L M : List Nat) (n m : Int) (h : Bys w A c L) (k : Bys w B d M) (hn0 : -9223372036854775808 ≤ n) (hn1 : n ≤ 9223372036854775807) (hm0 : -9223372036854775808 ≤ m) (hm1 : m ≤ 9223372036854775807) (hv : vb L n = true) (hv2 : vb M m = true) (hl : 40000 < n + m) :
    Calls Try.prog 19 #[btV A c L n, btV B d M m] w (Gives (joinA L n M m) w) := by
  have E : Hid (joinA L n M m = noAns 2) := Lib.hid (by unfold joinA; rw [if_neg (by simp [hv]), if_neg (by simp [hv2]), if_pos hl])
  have HV := Lib.hid hv
  have HV2 := Lib.hid hv2
  obtain ⟨n1, n2, -, -⟩ := vb_is hv
  obtain ⟨m1, m2, -, -⟩ := vb_is hv2
  clear hv hv2
  have HA : Hid (Below w.heap.size w (((w.alloc (.cells #[.slice A L.length c, .int .i64 n] 24)).alloc (.cells #[.slice B M.length d, .int .i64 m] 24)).alloc (.cells #[.slice none 0 0, .int .i64 0] 24))) := Lib.hid ((((Below.refl _ _).alloc (Nat.le_refl _) _).alloc (by simp) _).alloc (by simp; omega) _)
  have H := Lib.hid h
  have KK := Lib.hid k
  clear h k
  go_enter Try.func19, Try.ntmps19
  go_wp2_with fail
  refine (refValid_any _ A c L n (H.out.under HA.out) hn0 hn1).mono ?_
  rw [HV.out]
  rintro e w1 ⟨rfl, hb⟩
  have r0 : Row w1 w.heap.size 24 #[.slice A L.length c, .int .i64 n] := (Row.alloc (Row.alloc (Row.new _ _ _) _) _).under hb
  have ra : Row w1 (w.heap.size + 1) 24 #[.slice B M.length d, .int .i64 m] := (Row.alloc (Row.newAt (by simp)) _).under hb
  have r1 : Row w1 (w.heap.size + 1 + 1) 24 #[.slice none 0 0, .int .i64 0] := (Row.newAt (by simp)).under hb
  have HB : Hid (Below w.heap.size w w1) := Lib.hid (HA.out.trans (hb.mono HA.out.size))
  have e1 : Hid (w.heap.size ≤ w.heap.size + 1 + 1) := Lib.hid (by omega)
  have e2 : Hid (w.heap.size ≠ w.heap.size + 1 + 1 ∧ w.heap.size + 1 ≠ w.heap.size + 1 + 1) := Lib.hid ⟨by omega, by omega⟩
  have e3 : Hid (w.heap.size ≤ w.heap.size + 1) := Lib.hid (by omega)
  clear hb HA
  generalize w.heap.size + 1 + 1 = g1 at r1 e1 e2 ⊢
  generalize w.heap.size + 1 = ga at ra e2 e3 ⊢
  generalize hG : w.heap.size = g0 at r0 e1 e2 e3 HB ⊢
  have G0 := Lib.hid hG
  clear hG
  obtain ⟨p0, p1⟩ := row2 r0
  obtain ⟨a0, a1⟩ := row2 ra
  obtain ⟨q0, q1⟩ := row2 r1
  have f0 := r1.thaw 0
  have f1 := r1.thaw 1
  have R0 := Lib.hid r0
  have RA := Lib.hid ra
  have R1 := Lib.hid r1
  clear r0 ra r1
  go_wp2_with fail
  refine (refValid_any _ B d M m (KK.out.under (by rw [G0.out]; exact HB.out)) hm0 hm1).mono ?_
  rw [HV2.out]
  rintro e w2 ⟨rfl, hb⟩
  have r0 := R0.out.under hb
  have ra := RA.out.under hb
  have r1 := R1.out.under hb
  have HB2 : Hid (Below g0 w w2) := Lib.hid (HB.out.trans (hb.mono (by have := HB.out.size; have := G0.out; omega)))
  clear hb p0 p1 a0 a1 q0 q1 f0 f1 R0 RA R1 HB
  have HB := HB2
  clear HB2
  obtain ⟨p0, p1⟩ := row2 r0
  obtain ⟨a0, a1⟩ := row2 ra
  obtain ⟨q0, q1⟩ := row2 r1
  have f0 := r1.thaw 0
  have f1 := r1.thaw 1
  have R0 := Lib.hid r0
  have RA := Lib.hid ra
  have R1 := Lib.hid r1
  clear r0 ra r1
  go_wp2
  have zr := set2_row (.slice none 0 0) (.int .i64 0) R1.out
  have zb := set2_below (u0 := .slice none 0 0) (u1 := .int .i64 0) HB.out e1.out
  clear p0 p1 q0 q1 f0 f1 R1 R0 RA HB a0 a1
  generalize (w2.setCell ⟨g1, 0, none⟩ (.slice none 0 0)).setCell ⟨g1, 1, none⟩ (.int .i64 0) = V at zr zb ⊢
  obtain ⟨k0, k1⟩ := row2 zr
  have ZB := Lib.hid zb
  clear zr zb
  exact bodyPost_ret (v := .tuple #[.agg #[.slice none 0 0, .int .i64 0], .int .i64 2]) (by simp [results, Try.results19, go_sem, k0, k1]) rfl (by rw [E.out]; exact ⟨none, 0, rfl, Bys.none _, by rw [G0.out]; exact ZB.out⟩)
set_option maxHeartbeats 4000000 in
theorem refJoin_yes (w : World) (A B : Option Addr) (c d : Nat) (L M : List Nat) (n m : Int) (h : Bys w A c L) (k : Bys w B d M) (hn0 : -9223372036854775808 ≤ n) (hn1 : n ≤ 9223372036854775807) (hm0 : -9223372036854775808 ≤ m) (hm1 : m ≤ 9223372036854775807) (hv : vb L n = true) (hv2 : vb M m = true) (hl : ¬ 40000 < n + m) :
    Calls Try.prog 19 #[btV A c L n, btV B d M m] w (Gives (joinA L n M m) w) := by
  have HV := Lib.hid hv
  have HV2 := Lib.hid hv2
  have VD := vb_is hv
  have VD2 := vb_is hv2
  obtain ⟨N, rfl⟩ := Int.eq_ofNat_of_zero_le VD.1
  obtain ⟨K, rfl⟩ := Int.eq_ofNat_of_zero_le VD2.1
  have E : Hid (joinA L N M K = ⟨pack (N + K) (behind L N M), N + K, 0⟩) := Lib.hid (by unfold joinA; rw [if_neg (by simp [hv]), if_neg (by simp [hv2]), if_neg hl]; rfl)
  have hNK : N + K ≤ 40000 := by omega
  have HLn : Hid (L.length = (N + 7) / 8) := Lib.hid (by have := VD.2.2.1; simpa using this)
  have HMn : Hid (M.length = (K + 7) / 8) := Lib.hid (by have := VD2.2.2.1; simpa using this)
  clear hv hv2 VD VD2
  have HA : Hid (Below w.heap.size w (((w.alloc (.cells #[.slice A L.length c, .int .i64 (N : Int)] 24)).alloc (.cells #[.slice B M.length d, .int .i64 (K : Int)] 24)).alloc (.cells #[.slice none 0 0, .int .i64 0] 24))) := Lib.hid ((((Below.refl _ _).alloc (Nat.le_refl _) _).alloc (by simp) _).alloc (by simp; omega) _)
  have H := Lib.hid h
  have KK := Lib.hid k
  clear h k
  go_enter Try.func19, Try.ntmps19
  go_wp2_with fail
  refine (refValid_any _ A c L N (H.out.under HA.out) hn0 hn1).mono ?_
  rw [HV.out]
  rintro e w1 ⟨rfl, hb⟩
  have r0 : Row w1 w.heap.size 24 #[.slice A L.length c, .int .i64 (N : Int)] := (Row.alloc (Row.alloc (Row.new _ _ _) _) _).under hb
  have ra : Row w1 (w.heap.size + 1) 24 #[.slice B M.length d, .int .i64 (K : Int)] := (Row.alloc (Row.newAt (by simp)) _).under hb
  have r1 : Row w1 (w.heap.size + 1 + 1) 24 #[.slice none 0 0, .int .i64 0] := (Row.newAt (by simp)).under hb
  have HB : Hid (Below w.heap.size w w1) := Lib.hid (HA.out.trans (hb.mono HA.out.size))
  have e1 : Hid (w.heap.size ≤ w.heap.size + 1 + 1) := Lib.hid (by omega)
  have e2 : Hid (w.heap.size ≠ w.heap.size + 1 + 1 ∧ w.heap.size + 1 ≠ w.heap.size + 1 + 1) := Lib.hid ⟨by omega, by omega⟩
  have e3 : Hid (w.heap.size ≤ w.heap.size + 1) := Lib.hid (by omega)
  clear hb HA
  generalize w.heap.size + 1 + 1 = g1 at r1 e1 e2 ⊢
  generalize w.heap.size + 1 = ga at ra e2 e3 ⊢
  generalize hG : w.heap.size = g0 at r0 e1 e2 e3 HB ⊢
  have G0 := Lib.hid hG
  clear hG
  obtain ⟨p0, p1⟩ := row2 r0
  obtain ⟨a0, a1⟩ := row2 ra
  obtain ⟨q0, q1⟩ := row2 r1
  have f0 := r1.thaw 0
  have f1 := r1.thaw 1
  have R0 := Lib.hid r0
  have RA := Lib.hid ra
  have R1 := Lib.hid r1
  clear r0 ra r1
  go_wp2_with fail
  refine (refValid_any _ B d M K (KK.out.under (by rw [G0.out]; exact HB.out)) hm0 hm1).mono ?_
  rw [HV2.out]
  rintro e w2 ⟨rfl, hb⟩
  have r0 := R0.out.under hb
  have ra := RA.out.under hb
  have r1 := R1.out.under hb
  have HB2 : Hid (Below g0 w w2) := Lib.hid (HB.out.trans (hb.mono (by have := HB.out.size; have := G0.out; omega)))
  clear hb p0 p1 a0 a1 q0 q1 f0 f1 R0 RA R1 HB
  have HB := HB2
  clear HB2
  obtain ⟨p0, p1⟩ := row2 r0
  obtain ⟨a0, a1⟩ := row2 ra
  obtain ⟨q0, q1⟩ := row2 r1
  have f0 := r1.thaw 0
  have f1 := r1.thaw 1
  have R0 := Lib.hid r0
  have RA := Lib.hid ra
  have R1 := Lib.hid r1
  clear r0 ra r1
  have HX : Hid (Bys w2 A c L) := Lib.hid (H.out.under (by rw [G0.out]; exact HB.out))
  have HY : Hid (Bys w2 B d M) := Lib.hid (KK.out.under (by rw [G0.out]; exact HB.out))
  go_upto_region 5 with fail
  refine wp_region_held_drew (S := fun Y : World => (Y.cell? ⟨g0, 0, none⟩ = some (.slice A L.length c) ∧ Y.cell? ⟨g0, 1, none⟩ = some (.int .i64 (N : Int))) ∧ (Y.cell? ⟨ga, 0, none⟩ = some (.slice B M.length d) ∧ Y.cell? ⟨ga, 1, none⟩ = some (.int .i64 (K : Int)))) (by kernel_rfl) ⟨⟨p0, p1⟩, ⟨a0, a1⟩⟩ (fun hHeld => ?_)
  clear p0 p1 a0 a1 q0 q1 f0 f1
  refine wpAnyH_take (i := 0) (oi := ⟨some 22, _, _, _, _, none⟩) (v := ?_) rfl (by kernel_rfl) (by kernel_rfl) (by kernel_rfl) (fun _ _ _ h => h) (Or.inl ⟨by rfl, ?_⟩) (by assumption) ?_
  case refine_2 => (intro wx hSx; (try dsimp only at hSx); go_simp; first | done | with_reducible rfl)
  try simp only [Act.put, List.setIfInBounds_toArray, List.set_cons_zero, List.set_cons_succ]
  refine wpAnyH_take (i := 2) (oi := ⟨some 24, _, _, _, _, none⟩) (v := ?_) rfl (by kernel_rfl) (by kernel_rfl) (by kernel_rfl) (fun _ _ _ h => h) (Or.inl ⟨by rfl, ?_⟩) (by assumption) ?_
  case refine_2 => (intro wx hSx; (try dsimp only at hSx); go_simp; first | done | with_reducible rfl)
  try simp only [Act.put, List.setIfInBounds_toArray, List.set_cons_zero, List.set_cons_succ]
  refine wpAnyH_ready (rs := [1]) (by kernel_rfl) (by simp) ?_
  refine AllReadyH.cons (o := ⟨some 23, _, _, _, _, none⟩) rfl (fun Kx hK => ?_) AllReadyH.nil
  go_simp
  refine (refAll_any w2.drew A c L N HX.out HLn.out (by omega)).mono ?_
  rintro e w3 ⟨v1, rfl, hO1, hb3⟩
  have B3 : Hid (Below w2.heap.size w2 w3) := Lib.hid (undrew hb3)
  have O1 := Lib.hid hO1
  clear hO1 hb3 hHeld
  go_wp2_with fail
  refine hK.out _ _ ⟨row2 (R0.out.under B3.out), row2 (RA.out.under B3.out)⟩ (fun hHeld => ?_)
  clear hK Kx
  try simp only [Act.put, List.setIfInBounds_toArray, List.set_cons_zero, List.set_cons_succ]
  refine wpAnyH_ready (rs := [3]) (by kernel_rfl) (by simp) ?_
  refine AllReadyH.cons (o := ⟨some 25, _, _, _, _, none⟩) rfl (fun Kx hK => ?_) AllReadyH.nil
  go_simp
  refine (refAll_any w3 B d M K (HY.out.under B3.out) HMn.out (by omega)).mono ?_
  rintro e w4 ⟨v2, rfl, hO2, hb4⟩
  have B4 : Hid (Below w2.heap.size w2 w4) := Lib.hid (B3.out.trans (hb4.mono B3.out.size))
  have O14 : Hid (OwnI w4 w2.heap.size v1 (bl (bt L) N)) := Lib.hid (own_under O1.out hb4)
  obtain ⟨A2, c2, e2, HI⟩ := OwnI.ins hO2
  obtain ⟨v3, w5, kc, hO3, hg5⟩ := append_list w4 w2.heap.size v1 (bl (bt L) N) A2 c2 (bl (bt M) K) 25 O14.out HI B4.out.size (by rw [bl_len, bl_len]; omega)
  have HL2 := bl_len (bt M) K
  rw [bl_behind] at hO3
  rw [HL2] at kc e2
  clear HL2
  subst e2
  have B5 : Hid (Below w2.heap.size w2 w5) := Lib.hid (below_own B4.out B4.out.size (Nat.le_refl _) O14.out hg5)
  obtain ⟨A3, c3, e3', HI3⟩ := OwnI.ins hO3
  rw [bl_len] at e3'
  subst e3'
  have HI5 := Lib.hid HI3
  clear hO2 hb4 hHeld HI hO3 hg5 O1 O14 HI3 B3
  go_wp2_with fail
  refine hK.out _ _ ⟨row2 (R0.out.under B4.out), row2 (RA.out.under B4.out)⟩ (fun hHeld => ?_)
  clear hK Kx
  try simp only [Act.put, List.setIfInBounds_toArray, List.set_cons_zero, List.set_cons_succ]
  refine wpAnyH_ready (rs := [4]) (by kernel_rfl) (by simp) ?_
  refine AllReadyH.cons (o := ⟨some 26, _, _, _, _, none⟩) rfl (fun Kx hK => ?_) AllReadyH.nil
  refine step_append_run rfl (.tmp 23) (.tmp 25) 25 rfl _ _ rfl rfl kc ?_
  clear kc
  have Q0 := Lib.hid (show Row w5 g0 24 _ ∧ Row w5 ga 24 _ ∧ Row w5 g1 24 _ from ⟨R0.out.under B5.out, RA.out.under B5.out, R1.out.under B5.out⟩)
  refine hK.out _ _ ⟨row2 Q0.out.1, row2 Q0.out.2.1⟩ (fun hHeld => ?_)
  clear hK Kx
  try simp only [Act.put, List.setIfInBounds_toArray, List.set_cons_zero, List.set_cons_succ]
  refine wpAnyH_ready (rs := [5]) (by kernel_rfl) (by simp) ?_
  refine AllReadyH.cons (o := ⟨some 27, _, _, _, _, none⟩) rfl (fun Kx hK => ?_) AllReadyH.nil
  go_simp
  refine (refOf_bl w5 A3 c3 _ _ HI5.out hNK).mono ?_
  rintro e w6 ⟨A4, c4, rfl, HP6, hb6⟩
  have HP := Lib.hid HP6
  have HB6 := Lib.hid (HB.out.trans ((B5.out.trans (hb6.mono B5.out.size)).mono (by have := HB.out.size; have := G0.out; omega)))
  have Q6 := Lib.hid (show Row w6 g0 24 _ ∧ Row w6 ga 24 _ ∧ Row w6 g1 24 _ from ⟨Q0.out.1.under hb6, Q0.out.2.1.under hb6, Q0.out.2.2.under hb6⟩)
  clear hb6 HP6 hHeld HB Q0 R0 RA R1 HI5 B4 B5
  go_wp2_with fail
  refine hK.out _ _ ⟨row2 Q6.out.1, row2 Q6.out.2.1⟩ (fun hHeld => ?_)
  clear hK Kx
  try simp only [Act.put, List.setIfInBounds_toArray, List.set_cons_zero, List.set_cons_succ]
  obtain ⟨q0, q1⟩ := row2 Q6.out.2.2
  have f0 := Q6.out.2.2.thaw 0
  have f1 := Q6.out.2.2.thaw 1
  refine wpAnyH_ready (rs := [6]) (by kernel_rfl) (by simp) ?_
  refine AllReadyH.cons rfl (fun Kx hK => ?_) AllReadyH.nil
  go_simp
  have zr := set2_row (.slice A4 (pack (N + K) (behind L N M)).length c4) (.int .i64 ((N : Int) + K)) Q6.out.2.2
  have zb := set2_below (u0 := .slice A4 (pack (N + K) (behind L N M)).length c4) (u1 := .int .i64 ((N : Int) + K)) HB6.out e1.out
  have zp : Bys ((w6.setCell ⟨g1, 0, none⟩ (.slice A4 (pack (N + K) (behind L N M)).length c4)).setCell ⟨g1, 1, none⟩ (.int .i64 ((N : Int) + K))) A4 c4 (pack (N + K) (behind L N M)) := Bys.far (j := 1) (Bys.far (j := 0) HP.out Q6.out.2.2) (Row.put Q6.out.2.2 0 _ : Row _ _ _ #[.slice A4 (pack (N + K) (behind L N M)).length c4, .int .i64 0])
  have za : Row ((w6.setCell ⟨g1, 0, none⟩ (.slice A4 (pack (N + K) (behind L N M)).length c4)).setCell ⟨g1, 1, none⟩ (.int .i64 ((N : Int) + K))) g0 24 _ := Row.far (p := ⟨g1, 1, none⟩) (Row.far (p := ⟨g1, 0, none⟩) Q6.out.1 (fun e => e2.out.1 e.symm) _) (fun e => e2.out.1 e.symm) _
  have zc : Row ((w6.setCell ⟨g1, 0, none⟩ (.slice A4 (pack (N + K) (behind L N M)).length c4)).setCell ⟨g1, 1, none⟩ (.int .i64 ((N : Int) + K))) ga 24 _ := Row.far (p := ⟨g1, 1, none⟩) (Row.far (p := ⟨g1, 0, none⟩) Q6.out.2.1 (fun e => e2.out.2 e.symm) _) (fun e => e2.out.2 e.symm) _
  clear q0 q1 f0 f1 hHeld Q6 HP HB6
  generalize (w6.setCell ⟨g1, 0, none⟩ (.slice A4 (pack (N + K) (behind L N M)).length c4)).setCell ⟨g1, 1, none⟩ (.int .i64 ((N : Int) + K)) = V9 at zr zb zp za zc ⊢
  have ZR := Lib.hid zr
  have ZB := Lib.hid zb
  have ZP := Lib.hid zp
  refine hK.out _ _ ⟨row2 za, row2 zc⟩ (fun hHeld => ?_)
  clear hK Kx zr zb zp za zc
  try simp only [Act.put, List.setIfInBounds_toArray, List.set_cons_zero, List.set_cons_succ]
  refine wpAnyH_take (i := 7) (oi := ⟨some 5, _, _, _, _, none⟩) (v := ?_) rfl (by kernel_rfl) (by kernel_rfl) (by kernel_rfl) (fun _ _ _ h => h) (Or.inl ⟨by rfl, ?_⟩) (by assumption) ?_
  case refine_2 => (intro wx hSx; (try dsimp only at hSx); go_simp; first | done | with_reducible rfl)
  try simp only [Act.put, List.setIfInBounds_toArray, List.set_cons_zero, List.set_cons_succ]
  refine wpAnyH_done (by kernel_rfl) ?_ _
  clear hHeld
  go_wp2_with fail
  obtain ⟨k7, k8⟩ := row2 ZR.out
  exact bodyPost_ret (v := .tuple #[.agg #[.slice A4 (pack (N + K) (behind L N M)).length c4, .int .i64 ((N : Int) + K)], .int .i64 0]) (by simp [results, Try.results19, go_sem, k7, k8]) rfl (by rw [E.out]; exact ⟨A4, c4, rfl, ZP.out, by rw [G0.out]; exact ZB.out⟩)
theorem refJoin_any (w : World) (A B : Option Addr) (c d : Nat) (L M : List Nat) (n m : Int) (h : Bys w A c L) (k : Bys w B d M) (hn0 : -9223372036854775808 ≤ n) (hn1 : n ≤ 9223372036854775807) (hm0 : -9223372036854775808 ≤ m) (hm1 : m ≤ 9223372036854775807) :
    Calls Try.prog 19 #[btV A c L n, btV B d M m] w (Gives (joinA L n M m) w) := by
  by_cases hv : vb L n = true
  · by_cases hf : vb M m = true
    · by_cases hl : 40000 < n + m
      · exact refJoin_limit w A B c d L M n m h k hn0 hn1 hm0 hm1 hv hf hl
      · exact refJoin_yes w A B c d L M n m h k hn0 hn1 hm0 hm1 hv hf hl
    · exact refJoin_state2 w A B c d L M n m h k hn0 hn1 hm0 hm1 hv (by simpa using hf)
  · exact refJoin_state1 w A B c d L M n m h k hn0 hn1 hm0 hm1 (by simpa using hv)
end Go.Proofs.Ytjabnicflpeopaa
