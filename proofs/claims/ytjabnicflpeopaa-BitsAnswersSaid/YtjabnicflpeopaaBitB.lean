/- The contract of the program's extended. -/
import Derived.Test.YtjabnicflpeopaaBitA
import Derived.Laws.CopyOwn
namespace Go.Proofs.Ytjabnicflpeopaa
open Go.RowKit

/-- Bits 0 behind the others. -/
theorem Pk.more {L : List Nat} {n N : Nat} {f : Nat → Bool} (h : Pk L n f) (hN : n ≤ N) : Pk (L ++ List.replicate ((N + 7) / 8 - L.length) 0) N (fun i => decide (i < n) && f i) := by
  have hl := h.len
  refine ⟨by rw [List.length_append, List.length_replicate]; omega, fun x hx => ?_, fun i => ?_⟩
  · rcases List.mem_append.1 hx with h1 | h1
    · exact h.byte x h1
    · rw [(List.mem_replicate.1 h1).2]; decide
  · have hb := h.bit i
    unfold bt at hb ⊢
    rw [List.getD_eq_getElem?_getD] at hb ⊢
    by_cases hi : i / 8 < L.length
    · rw [List.getElem?_append_left hi, hb]
      by_cases hn : i < n
      · simp [hn, show i < N by omega]
      · simp [hn]
    · rw [List.getElem?_append_right (by omega), List.getElem?_replicate]
      have hn : ¬ i < n := by omega
      simp only [hn, decide_false, Bool.false_and, Bool.and_false]
      split <;> simp
/-- Bytes copied into a new block. -/
theorem copy_bytes (Y : World) (g k : Nat) (A : Option Addr) (c : Nat) (L : List Nat) (h : Bys Y A c L) (hg : Own Y g (List.replicate k 0)) (hl : L.length ≤ k) (ty : TypeId) :
    ∃ Y', (Builtin.copy_ #[22, 22] ty #[.slice (some ⟨g, 0, none⟩) k k, .slice A L.length c]).run Try.prog Y = .ok (goInt L.length) Y' ∧ Own Y' g (L ++ List.replicate (k - L.length) 0) ∧ Y.grownBy Y' (some g) := by
  by_cases h0 : L.length = 0
  · obtain rfl : L = [] := List.eq_nil_of_length_eq_zero h0
    exact ⟨Y, run_copy_none Y _ _ ty 5 _ _ _ _ _ _ Try.underlying22 (by kernel_rfl) (by simp), by simpa using hg, grown_refl _ _⟩
  · obtain ⟨bk, off, rfl, hlt, hc⟩ := h.addr (by omega)
    have hr := run_copy_row (P := Try.prog) Y 22 22 ty 5 g 0 k k ⟨bk, off, none⟩ L.length c _ _ (byc L) Try.underlying22 (by kernel_rfl) hg (by rw [byc_len]; exact (Nat.min_eq_left hl).symm)
      (fun j v hj => by
        rw [Addr.add_lit]
        have hjl : j < L.length := by rw [← byc_len L]; exact (List.getElem?_eq_some_iff.1 hj).1
        rw [byc_at hjl] at hj
        injection hj with hj
        rw [← hj, ← hc j hjl])
      (by simp [byc]; omega) (byc_one L)
    rw [byc_len] at hr
    refine ⟨_, hr, ?_, ⟨rfl, rfl, rfl, by simp, fun i _ hi => setRow_other Y g i _ (fun e => hi (by rw [e]))⟩⟩
    have := setRow_heap Y g _ (((byc (List.replicate k 0)).toArray).toList.take 0 ++ byc L ++ ((byc (List.replicate k 0)).toArray).toList.drop (0 + L.length)).toArray _ _ hg
    refine this.trans ?_
    simp [byc]
set_option maxHeartbeats 1000000 in
theorem extended_any (w : World) (A : Option Addr) (c : Nat) (L : List Nat) (n m k : Nat) (h : Bys w A c L) (hL : L.length = (n + 7) / 8) (hm : n + m ≤ 40000) (hk : k = (n + m + 7) / 8) :
    Calls Try.prog 30 #[.agg #[.slice A L.length c, .int .i64 n], .int .i64 m] w fun e w' => ∃ g, e = .returned (.agg #[.slice (some ⟨g, 0, none⟩) k k, .int .i64 (n + m : Nat)]) ∧ w.heap.size ≤ g ∧ Own w' g (L ++ List.replicate (k - L.length) 0) ∧ Below w.heap.size w w' := by
  have n2 : n ≤ 40000 := by omega
  have m2 : m ≤ 40000 := by omega
  have H := Lib.hid h
  have HL := Lib.hid hL
  have HM := Lib.hid hm
  have HK := Lib.hid hk
  have s1 : (0 : Int) ≤ ((n : Int) + m + 7) / 8 := by omega
  have s2 : ((n : Int) + m + 7) / 8 ≤ 5000 := by omega
  have c2 := h.2.1
  have mk := mk_bytes (((n : Int) + m + 7) / 8) k (by omega) (by omega)
  have HB := Lib.hid h.2.2.2.1
  have hlk : L.length ≤ k := by omega
  have hk2 : k ≤ 5000 := by omega
  clear h hL hm hk
  go_enter Try.func30, Try.ntmps30
  go_upto_region 3 with ((go_at_call 35; refine (bytesFor_any _ _ (by omega) (by have := HM.out; omega)).mono ?_; rintro e w1 ⟨rfl, rfl⟩))
  refine forget (fun Y => Row Y w.heap.size 24 #[.slice A L.length c, .int .i64 n] ∧ Row Y (w.heap.size + 1) 24 #[.slice none 0 0, .int .i64 0] ∧ Own Y (w.heap.size + 1 + 1) (List.replicate k 0) ∧ Row Y (w.heap.size + 1 + 1 + 1) 24 #[.slice (some ⟨w.heap.size + 1 + 1, 0, none⟩) k k, .int .i64 ((n : Int) + m)] ∧ Below w.heap.size w Y ∧ w.heap.size + 1 + 1 + 1 < Y.heap.size)
    ⟨(((Row.new _ _ _).alloc _).alloc _).alloc _, ((Row.newAt (by simp)).alloc _).alloc _, (Row.newAt (by simp)).alloc _, Row.newAt (by simp), (((((Below.refl _ _).alloc (Nat.le_refl _) _).alloc (by simp) _).alloc (by simp; omega) _).alloc (by simp; omega) _), by simp⟩ ?_
  clear mk s1 s2
  have e1 := Lib.hid (Nat.le_refl w.heap.size)
  have e2 : Hid (w.heap.size ≤ w.heap.size + 1 + 1) := Lib.hid (by omega)
  have e3 : Hid (w.heap.size ≤ w.heap.size + 1) := Lib.hid (by omega)
  have e4 : Hid (w.heap.size + 1 ≠ w.heap.size + 1 + 1) := Lib.hid (by omega)
  have e5 : Hid (w.heap.size + 1 + 1 + 1 ≠ w.heap.size + 1 + 1) := Lib.hid (by omega)
  have e6 : Hid (w.heap.size + 1 + 1 + 1 ≠ w.heap.size + 1) := Lib.hid (by omega)
  generalize w.heap.size + 1 + 1 + 1 = g3 at e5 e6 ⊢
  generalize w.heap.size + 1 + 1 = g2 at e2 e4 e5 ⊢
  generalize w.heap.size + 1 = g1 at e3 e4 e6 ⊢
  generalize hB : w.heap.size = g0 at e1 e2 e3 ⊢
  have HBs := Lib.hid hB
  clear hB
  rintro Y ⟨r0, r1, r2, r3, hb, hlt⟩
  obtain ⟨p0, p1⟩ := row2 r0
  obtain ⟨q0, q1⟩ := row2 r3
  have R2 := Lib.hid r2
  have R1 := Lib.hid r1
  have R3 := Lib.hid r3
  have BB := Lib.hid hb
  clear r0 r1 r2 r3 hb
  obtain ⟨Y2, kc, C2, G2⟩ := copy_bytes Y g2 k A c L (H.out.under (by rw [HBs.out]; exact BB.out)) R2.out hlk 3
  have C2 := Lib.hid C2
  have G2 := Lib.hid G2
  go_upto_region 4 with fail
  have hn1 : g3 ≠ g2 := e5.out
  refine forget (fun Z => Hid (Own Z g2 (L ++ List.replicate (k - L.length) 0)) ∧ Row Z g1 24 #[.slice none 0 0, .int .i64 0] ∧ Row Z g3 24 #[.slice (some ⟨g2, 0, none⟩) k k, .int .i64 ((n : Int) + m)] ∧ Hid (Below g0 w Z))
    ⟨C2, R1.out.grown G2.out (fun e => e4.out (by injection e)), R3.out.grown G2.out (fun e => e5.out (by injection e)), Lib.hid (below_grown BB.out G2.out e2.out (by have := BB.out.size; have := HBs.out; omega))⟩ ?_
  clear kc C2 G2 R1 R2 R3 BB hlt p0 p1 q0 q1
  rintro Z ⟨ZO, z1, z3, ZB⟩
  obtain ⟨p0, p1⟩ := row2 z1
  obtain ⟨q0, q1⟩ := row2 z3
  have f0 := z1.thaw 0
  have f1 := z1.thaw 1
  have Z1 := Lib.hid z1
  clear z1 z3
  go_wp2
  have zr := set2_row (.slice (some ⟨g2, 0, none⟩) k k) (.int .i64 ((n : Int) + m)) Z1.out
  have zo : Own ((Z.setCell ⟨g1, 0, none⟩ (.slice (some ⟨g2, 0, none⟩) k k)).setCell ⟨g1, 1, none⟩ (.int .i64 ((n : Int) + m))) g2 (L ++ List.replicate (k - L.length) 0) :=
    Row.far (p := ⟨g1, 1, none⟩) (Row.far (p := ⟨g1, 0, none⟩) ZO.out e4.out _) e4.out _
  have zb := set2_below (u0 := .slice (some ⟨g2, 0, none⟩) k k) (u1 := .int .i64 ((n : Int) + m)) ZB.out e3.out
  clear p0 p1 q0 q1 f0 f1 Z1 ZO ZB
  generalize (Z.setCell ⟨g1, 0, none⟩ (.slice (some ⟨g2, 0, none⟩) k k)).setCell ⟨g1, 1, none⟩ (.int .i64 ((n : Int) + m)) = V at zr zo zb ⊢
  obtain ⟨k0, k1⟩ := row2 zr
  have ZO := Lib.hid zo
  have ZB := Lib.hid zb
  clear zr zo zb
  exact bodyPost_ret (v := .agg #[.slice (some ⟨g2, 0, none⟩) k k, .int .i64 ((n : Int) + m)]) (by simp [results, Try.results30, go_sem, k0, k1]) rfl ⟨g2, rfl, by rw [HBs.out]; exact e2.out, ZO.out, by rw [HBs.out]; exact ZB.out⟩
end Go.Proofs.Ytjabnicflpeopaa
