/- The program's Parse of bulletins where there is nothing to read. The reference's Parse of bulletins where there is nothing to read; both sides' Parse at any text. Both sides' Parse of bulletins answer the same, at any text and minute. -/
import Derived.Test.YtfnlgfacadmjpaaGreatDoorBPs
import Derived.Test.YtfnlgfacadmjpaaGreatDoorBRf
import Derived.Test.YtfnlgfacadmjpaaGreatDoorBFt
import Derived.Test.YtfnlgfacadmjpaaGreatDoorBAk
namespace Go.Proofs.YtfnlgfacadmjpaaGreatDoor.Bu
open Go.RowKit
attribute [local go_sem] Oper.semAt_some

theorem idx_free : ∀ {a : List UInt8}, (∀ c ∈ a, c ≠ 10) → Lib.index a [10] = -1
  | [], _ => by simp [Lib.index]
  | c :: r, h => by
    have hc : ((10 : UInt8) == c) = false := by simpa using Ne.symm (h c (by simp))
    have ih := idx_free (a := r) (fun x hx => h x (by simp [hx]))
    simp only [Lib.index, List.isPrefixOf, hc, Bool.false_and, Bool.false_eq_true, if_false, ih]
    simp
theorem cut_free {a : List UInt8} (h : ∀ c ∈ a, c ≠ 10) : Lib.cut a [10] = (a, [], false) := by
  unfold Lib.cut
  rw [idx_free h, if_neg (by omega)]
/-- What Parse leaves with an error. -/
def BuE (k : Int) (w : World) (e : Ending) (w' : World) : Prop := e = .returned (.tuple #[zBul, .slice none 0 0, .int .i64 k]) ∧ Below w.heap.size w w'
abbrev w3 (w : World) : World := ((w.alloc (.cells #[.string ⟨#[]⟩, .int .i64 0, .int .i64 0, .int .i64 0, .slice none 0 0] 24)).alloc (.cells #[.slice none 0 0] 25)).alloc (.cells #[.int .i64 0] 33)
set_option maxRecDepth 100000 in
set_option maxHeartbeats 4000000 in
theorem parse_range (s : ByteArray) (near : Int) (w : World) (hn : ¬ (0 ≤ near ∧ near ≤ 52595999)) :
    Calls Tryz.prog 22 #[.string s, .int .i64 near] w (BuE 1 w) := by
  have hk : decide (0 ≤ near ∧ near ≤ 52595999) = false := decide_eq_false hn
  have HW := Lib.hid (fun w => within_any near 52595999 w)
  rw [hk] at HW
  clear hk hn
  have HA := Lib.hid (Rs3.start w)
  refine (callsIn_wide (n := 3)).1 ?_
  refine callsIn_of_wp_marks Tryz.func22 rfl trivial ?_ rfl
  simp only [Tryz.ntmps22, List.size_toArray, List.length_cons, List.length_nil, Nat.reduceAdd, Nat.reduceSub, Array.replicate_succ, Array.replicate_zero, List.push_toArray, List.append_toArray, List.nil_append, List.cons_append]
  gi_wp2_with (refine ⟨trivial, ?_⟩; gi_at_call 42; refine (callsIn_wide.2 (HW.out _)).mono ?_; rintro e w' ⟨rfl, rfl⟩; generalize (((w.alloc (.cells #[.string ⟨#[]⟩, .int .i64 0, .int .i64 0, .int .i64 0, .slice none 0 0] 24)).alloc (.cells #[.slice none 0 0] 25)).alloc (.cells #[.int .i64 0] 33)) = W1 at *; have f0 := HA.out.r4.thaw 0; have f1 := HA.out.r4.thaw 1; have f2 := HA.out.r4.thaw 2; have f3 := HA.out.r4.thaw 3; have f4 := HA.out.r4.thaw 4; have f5 := HA.out.r5.thaw 0; have f6 := HA.out.r6.thaw 0; obtain ⟨q0, q1, q2, q3, q4⟩ := row5 HA.out.r4; have q5 := (HA.out.r5.cell 0).trans rfl; have q6 := (HA.out.r6.cell 0).trans rfl; have HR := Lib.hid (HA.out.fin (.string ⟨#[]⟩) (.int .i64 0) (.int .i64 0) (.int .i64 0) (.slice none 0 0) (.slice none 0 0) (.int .i64 1)))
  clear f0 f1 f2 f3 f4 f5 f6 q0 q1 q2 q3 q4 q5 q6
  refine ⟨.tuple #[zBul, .slice none 0 0, .int .i64 1], ?_, rfl, HR.out.2.2.2⟩
  obtain ⟨z0, z1, z2, z3, z4⟩ := row5 HR.out.1
  have z5 := (HR.out.2.1.cell 0).trans rfl
  have z6 := (HR.out.2.2.1.cell 0).trans rfl
  simp [results, Tryz.results22, z0, z1, z2, z3, z4, z5, z6, go_sem]
set_option maxRecDepth 100000 in
set_option maxHeartbeats 4000000 in
theorem parse_long (s : ByteArray) (near : Int) (w : World) (hn : 0 ≤ near ∧ near ≤ 52595999) (hs : 4000 < s.size) :
    Calls Tryz.prog 22 #[.string s, .int .i64 near] w (BuE 2 w) := by
  have hk : decide (0 ≤ near ∧ near ≤ 52595999) = true := decide_eq_true hn
  have HW := Lib.hid (fun w => within_any near 52595999 w)
  rw [hk] at HW
  have h4 : (4000 : Int) < (s.size : Int) := by omega
  clear hk hn hs
  have HA := Lib.hid (Rs3.start w)
  refine (callsIn_wide (n := 3)).1 ?_
  refine callsIn_of_wp_marks Tryz.func22 rfl trivial ?_ rfl
  simp only [Tryz.ntmps22, List.size_toArray, List.length_cons, List.length_nil, Nat.reduceAdd, Nat.reduceSub, Array.replicate_succ, Array.replicate_zero, List.push_toArray, List.append_toArray, List.nil_append, List.cons_append]
  gi_wp2_with (refine ⟨trivial, ?_⟩; gi_at_call 42; refine (callsIn_wide.2 (HW.out _)).mono ?_; rintro e w' ⟨rfl, rfl⟩; generalize (((w.alloc (.cells #[.string ⟨#[]⟩, .int .i64 0, .int .i64 0, .int .i64 0, .slice none 0 0] 24)).alloc (.cells #[.slice none 0 0] 25)).alloc (.cells #[.int .i64 0] 33)) = W1 at *; have f0 := HA.out.r4.thaw 0; have f1 := HA.out.r4.thaw 1; have f2 := HA.out.r4.thaw 2; have f3 := HA.out.r4.thaw 3; have f4 := HA.out.r4.thaw 4; have f5 := HA.out.r5.thaw 0; have f6 := HA.out.r6.thaw 0; obtain ⟨q0, q1, q2, q3, q4⟩ := row5 HA.out.r4; have q5 := (HA.out.r5.cell 0).trans rfl; have q6 := (HA.out.r6.cell 0).trans rfl; have HR := Lib.hid (HA.out.fin (.string ⟨#[]⟩) (.int .i64 0) (.int .i64 0) (.int .i64 0) (.slice none 0 0) (.slice none 0 0) (.int .i64 2)))
  clear f0 f1 f2 f3 f4 f5 f6 q0 q1 q2 q3 q4 q5 q6
  refine ⟨.tuple #[zBul, .slice none 0 0, .int .i64 2], ?_, rfl, HR.out.2.2.2⟩
  obtain ⟨z0, z1, z2, z3, z4⟩ := row5 HR.out.1
  have z5 := (HR.out.2.1.cell 0).trans rfl
  have z6 := (HR.out.2.2.1.cell 0).trans rfl
  simp [results, Tryz.results22, z0, z1, z2, z3, z4, z5, z6, go_sem]
set_option maxRecDepth 100000 in
set_option maxHeartbeats 4000000 in
theorem parse_free (s : List UInt8) (near : Int) (w : World) (hE : Env w) (hn : 0 ≤ near ∧ near ≤ 52595999) (hs : s.length ≤ 4000) (hf : ∀ c ∈ s, c ≠ 10) :
    Calls Tryz.prog 22 #[.string (S s), .int .i64 near] w (BuE 3 w) := by
  have hk : decide (0 ≤ near ∧ near ≤ 52595999) = true := decide_eq_true hn
  have HW := Lib.hid (fun w => within_any near 52595999 w)
  rw [hk] at HW
  obtain ⟨m, hm⟩ := hE.ml
  have hcut := fun (w : World) hm => Tryz.strings_Cut (S s) ⟨#[10]⟩ m w (by rw [S_size]; omega) hm
  have hsz : (S s).size = s.length := S_size s
  simp only [S_list] at hcut
  simp only [cut_free hf] at hcut
  have h4 : ¬ (4000 : Int) < ((S s).size : Int) := by omega
  have hs6 := Rs3.start w
  have hm6 := (hs6.below.cell (p := ⟨3, 0, none⟩) (World.block_lt_of_cell? w _ hm)).trans hm
  have HC := Lib.hid (hcut _ hm6)
  have HA := Lib.hid hs6
  clear hk hn hs hsz hcut hm6 hs6 hE hm hf
  generalize S s = sv at *
  refine (callsIn_wide (n := 3)).1 ?_
  refine callsIn_of_wp_marks Tryz.func22 rfl trivial ?_ rfl
  simp only [Tryz.ntmps22, List.size_toArray, List.length_cons, List.length_nil, Nat.reduceAdd, Nat.reduceSub, Array.replicate_succ, Array.replicate_zero, List.push_toArray, List.append_toArray, List.nil_append, List.cons_append]
  gi_wp2_with (first
    | (refine ⟨trivial, ?_⟩; gi_at_call 42; refine (callsIn_wide.2 (HW.out _)).mono ?_; rintro e w' ⟨rfl, rfl⟩)
    | (refine ⟨trivial, ?_⟩; gi_at_call 51; refine (callsIn_wide.2 HC.out).mono ?_; rintro e w' ⟨rfl, kk, rfl⟩; have HA := Lib.hid (HA.out.under ⟨rfl, rfl, rfl, Nat.le_refl _, fun _ _ => rfl⟩ : Rs3 w (World.drewN (((w.alloc (.cells #[.string ⟨#[]⟩, .int .i64 0, .int .i64 0, .int .i64 0, .slice none 0 0] 24)).alloc (.cells #[.slice none 0 0] 25)).alloc (.cells #[.int .i64 0] 33)) kk)); clear HC; generalize World.drewN (((w.alloc (.cells #[.string ⟨#[]⟩, .int .i64 0, .int .i64 0, .int .i64 0, .slice none 0 0] 24)).alloc (.cells #[.slice none 0 0] 25)).alloc (.cells #[.int .i64 0] 33)) kk = W1 at *; have f0 := HA.out.r4.thaw 0; have f1 := HA.out.r4.thaw 1; have f2 := HA.out.r4.thaw 2; have f3 := HA.out.r4.thaw 3; have f4 := HA.out.r4.thaw 4; have f5 := HA.out.r5.thaw 0; have f6 := HA.out.r6.thaw 0; obtain ⟨q0, q1, q2, q3, q4⟩ := row5 HA.out.r4; have q5 := (HA.out.r5.cell 0).trans rfl; have q6 := (HA.out.r6.cell 0).trans rfl; have HR := Lib.hid (HA.out.fin (.string ⟨#[]⟩) (.int .i64 0) (.int .i64 0) (.int .i64 0) (.slice none 0 0) (.slice none 0 0) (.int .i64 3))))
  clear f0 f1 f2 f3 f4 f5 f6 q0 q1 q2 q3 q4 q5 q6
  refine ⟨.tuple #[zBul, .slice none 0 0, .int .i64 3], ?_, rfl, HR.out.2.2.2⟩
  obtain ⟨z0, z1, z2, z3, z4⟩ := row5 HR.out.1
  have z5 := (HR.out.2.1.cell 0).trans rfl
  have z6 := (HR.out.2.2.1.cell 0).trans rfl
  simp [results, Tryz.results22, z0, z1, z2, z3, z4, z5, z6, go_sem]
end Go.Proofs.YtfnlgfacadmjpaaGreatDoor.Bu
namespace Go.Proofs.YtfnlgfacadmjpaaGreatDoor.Bu
open Go.RowKit

set_option maxRecDepth 100000 in
set_option maxHeartbeats 4000000 in
theorem refParse6_range (s : ByteArray) (near : Int) (w : World) (hn : ¬ (0 ≤ near ∧ near ≤ 52595999)) :
    Calls Tryz.prog 23 #[.string s, .int .i64 near] w (BuE 1 w) := by
  have hrn : Ck.Cal.rng near = false := Ck.Cal.rng_no (by omega)
  have HIN := Lib.hid (fun W => Ck.refIn_any near W)
  rw [hrn] at HIN
  clear hrn hn
  go_enter Tryz.func23, Tryz.ntmps23
  go_wp2_with fail
  have hb0 := (Below.refl w.heap.size w).alloc (Nat.le_refl _) (.cells #[.string ⟨#[]⟩, .int .i64 0, .int .i64 0, .int .i64 0, .slice none 0 0] 24)
  have hr0 := Row.new w #[.string ⟨#[]⟩, .int .i64 0, .int .i64 0, .int .i64 0, .slice none 0 0] 24
  generalize w.alloc (.cells #[.string ⟨#[]⟩, .int .i64 0, .int .i64 0, .int .i64 0, .slice none 0 0] 24) = W0 at *
  refine (HIN.out _).mono ?_
  rintro e w' ⟨rfl, rfl⟩
  have f0 := hr0.thaw 0
  have f1 := hr0.thaw 1
  have f2 := hr0.thaw 2
  have f3 := hr0.thaw 3
  have f4 := hr0.thaw 4
  obtain ⟨q0, q1, q2, q3, q4⟩ := row5 hr0
  have HM := Lib.hid (And.intro hb0 hr0); clear hb0 hr0
  go_wp2_with fail
  clear f0 f1 f2 f3 f4 q0 q1 q2 q3 q4
  have HZ5 := Lib.hid (set5_row (.string ⟨#[]⟩) (.int .i64 0) (.int .i64 0) (.int .i64 0) (.slice none 0 0) HM.out.2)
  have HF := Lib.hid (set5_below (u0 := .string ⟨#[]⟩) (u1 := .int .i64 0) (u2 := .int .i64 0) (u3 := .int .i64 0) (u4 := .slice none 0 0) HM.out.1 (Nat.le_refl _))
  exact bodyPost_ret (v := .tuple #[zBul, .slice none 0 0, .int .i64 1]) (by obtain ⟨z0, z1, z2, z3, z4⟩ := row5 HZ5.out; simp [results, Tryz.results23, z0, z1, z2, z3, z4, go_sem]) rfl ⟨rfl, HF.out⟩
set_option maxRecDepth 100000 in
set_option maxHeartbeats 4000000 in
theorem refParse6_long (s : ByteArray) (near : Int) (w : World) (hn : 0 ≤ near ∧ near ≤ 52595999) (hs : 4000 < s.size) :
    Calls Tryz.prog 23 #[.string s, .int .i64 near] w (BuE 2 w) := by
  have hrn : Ck.Cal.rng near = true := Ck.Cal.rng_yes hn.1 hn.2
  have HIN := Lib.hid (fun W => Ck.refIn_any near W)
  rw [hrn] at HIN
  have h4 : (4000 : Int) < (s.size : Int) := by omega
  clear hrn hn hs
  go_enter Tryz.func23, Tryz.ntmps23
  go_wp2_with fail
  have hb0 := (Below.refl w.heap.size w).alloc (Nat.le_refl _) (.cells #[.string ⟨#[]⟩, .int .i64 0, .int .i64 0, .int .i64 0, .slice none 0 0] 24)
  have hr0 := Row.new w #[.string ⟨#[]⟩, .int .i64 0, .int .i64 0, .int .i64 0, .slice none 0 0] 24
  generalize w.alloc (.cells #[.string ⟨#[]⟩, .int .i64 0, .int .i64 0, .int .i64 0, .slice none 0 0] 24) = W0 at *
  refine (HIN.out _).mono ?_
  rintro e w' ⟨rfl, rfl⟩
  have f0 := hr0.thaw 0
  have f1 := hr0.thaw 1
  have f2 := hr0.thaw 2
  have f3 := hr0.thaw 3
  have f4 := hr0.thaw 4
  obtain ⟨q0, q1, q2, q3, q4⟩ := row5 hr0
  have HM := Lib.hid (And.intro hb0 hr0); clear hb0 hr0
  go_wp2_with fail
  clear f0 f1 f2 f3 f4 q0 q1 q2 q3 q4
  have HZ5 := Lib.hid (set5_row (.string ⟨#[]⟩) (.int .i64 0) (.int .i64 0) (.int .i64 0) (.slice none 0 0) HM.out.2)
  have HF := Lib.hid (set5_below (u0 := .string ⟨#[]⟩) (u1 := .int .i64 0) (u2 := .int .i64 0) (u3 := .int .i64 0) (u4 := .slice none 0 0) HM.out.1 (Nat.le_refl _))
  exact bodyPost_ret (v := .tuple #[zBul, .slice none 0 0, .int .i64 2]) (by obtain ⟨z0, z1, z2, z3, z4⟩ := row5 HZ5.out; simp [results, Tryz.results23, z0, z1, z2, z3, z4, go_sem]) rfl ⟨rfl, HF.out⟩
set_option maxRecDepth 100000 in
set_option maxHeartbeats 4000000 in
theorem refParse6_free (s : List UInt8) (near : Int) (w : World) (hn : 0 ≤ near ∧ near ≤ 52595999) (hs : s.length ≤ 4000) (hf : ∀ c ∈ s, c ≠ 10) :
    Calls Tryz.prog 23 #[.string (S s), .int .i64 near] w (BuE 3 w) := by
  have hrn : Ck.Cal.rng near = true := Ck.Cal.rng_yes hn.1 hn.2
  have HIN := Lib.hid (fun W => Ck.refIn_any near W)
  rw [hrn] at HIN
  have hsz : ¬ (4000 : Int) < ((S s).size : Int) := by rw [S_size]; omega
  have HLI := Lib.hid (fun W => refLines_any s W hs)
  rw [pcs_free hf] at HLI
  have HRE := Lib.hid (fun W => refRead_any s near W hs)
  clear hrn hn hs hf
  obtain ⟨t0, ht0⟩ : ∃ t0, S s = t0 := ⟨_, rfl⟩
  rw [ht0] at hsz ⊢
  have HT0 := Lib.hid ht0; clear ht0
  go_enter Tryz.func23, Tryz.ntmps23
  go_wp2_with fail
  have hb0 := (Below.refl w.heap.size w).alloc (Nat.le_refl _) (.cells #[.string ⟨#[]⟩, .int .i64 0, .int .i64 0, .int .i64 0, .slice none 0 0] 24)
  have hr0 := Row.new w #[.string ⟨#[]⟩, .int .i64 0, .int .i64 0, .int .i64 0, .slice none 0 0] 24
  generalize w.alloc (.cells #[.string ⟨#[]⟩, .int .i64 0, .int .i64 0, .int .i64 0, .slice none 0 0] 24) = W0 at *
  refine (HIN.out _).mono ?_
  rintro e w' ⟨rfl, rfl⟩
  go_wp2_with fail
  rw [← HT0.out]
  refine (HLI.out _).mono ?_
  rintro e w1 ⟨vl, rfl, hown, hb1⟩
  have HQ := Lib.hid (⟨hb0.trans (hb1.mono hb0.size), hr0.under hb1, Below.refl _ _⟩ : Q4 w w1 w1)
  obtain ⟨gl, cap, rfl, h1, h2, -, hgl, hcs⟩ := str_cells hown (by simp)
  have c0 : w1.cell? ⟨gl, 0, none⟩ = some (.string (S s)) := hcs 0 (by simp)
  simp only [List.length_singleton] at h1 ⊢
  clear hown hb1 hb0 hr0 HLI HIN hcs hgl
  go_wp2_with fail
  refine (HRE.out _).mono ?_
  rintro e w2 (⟨c, t, cor, del, -, rfl, b2⟩ | ⟨-, ⟨c', t', x', y', rfl⟩, b2⟩)
  all_goals
    go_upto_region 7 with fail
    refine forget (fun Y => Q4 w w1 Y) ((HQ.out.under b2).under ((Below.refl _ _).alloc (Nat.le_refl _) _)) ?_
    clear HQ b2 c0
    rintro Y M
    have f0 := M.r4.thaw 0
    have f1 := M.r4.thaw 1
    have f2 := M.r4.thaw 2
    have f3 := M.r4.thaw 3
    have f4 := M.r4.thaw 4
    obtain ⟨q0, q1, q2, q3, q4⟩ := row5 M.r4
    have HM := Lib.hid M; clear M
    go_wp2_with fail
    clear f0 f1 f2 f3 f4 q0 q1 q2 q3 q4
    have HZ5 := Lib.hid (set5_row (.string ⟨#[]⟩) (.int .i64 0) (.int .i64 0) (.int .i64 0) (.slice none 0 0) HM.out.r4)
    have HF := Lib.hid (set5_below (u0 := .string ⟨#[]⟩) (u1 := .int .i64 0) (u2 := .int .i64 0) (u3 := .int .i64 0) (u4 := .slice none 0 0) HM.out.below (Nat.le_refl _))
    exact bodyPost_ret (v := .tuple #[zBul, .slice none 0 0, .int .i64 3]) (by obtain ⟨z0, z1, z2, z3, z4⟩ := row5 HZ5.out; simp [results, Tryz.results23, z0, z1, z2, z3, z4, go_sem]) rfl ⟨rfl, HF.out⟩
/-- What both sides' Parse leaves, in one path: the bulletin's parts, the damaged lines, the error. -/
structure Rd6 (w : World) (c : ByteArray) (t cor del er : Int) (Q : List Qr) (D : List Int) (e : Ending) (w' : World) : Prop where
  below : Below w.heap.size w w'
  ex : ∃ (R : List Rp) (vr vd : Value), R.map Rp.key = Q ∧ e = .returned (.tuple #[bulV c t cor del vr, vd, .int .i64 er]) ∧ RpsIn w' vr R ∧ NumsIn w' vd D
theorem rd6_err {k : Int} {w w' : World} {e : Ending} (h : BuE k w e w') : Rd6 w ⟨#[]⟩ 0 0 0 k [] [] e w' := by
  obtain ⟨rfl, hb⟩ := h
  exact ⟨hb, [], _, _, rfl, rfl, ⟨none, 0, rfl, Nat.le_refl _, by omega, fun i h => absurd h (Nat.not_lt_zero _)⟩, ⟨none, 0, rfl, Nat.le_refl _, by omega, fun i h => absurd h (Nat.not_lt_zero _)⟩⟩
end Go.Proofs.YtfnlgfacadmjpaaGreatDoor.Bu
namespace Go.Proofs.YtfnlgfacadmjpaaGreatDoor.Bu
open Go.RowKit

theorem first_feed : ∀ (s : List UInt8), (∀ c ∈ s, c ≠ 10) ∨ ∃ hd body, s = hd ++ 10 :: body ∧ ∀ c ∈ hd, c ≠ 10
  | [] => .inl (fun c h => absurd h List.not_mem_nil)
  | x :: r => by
    by_cases hx : x = 10
    · exact .inr ⟨[], r, by rw [hx]; rfl, fun c h => absurd h List.not_mem_nil⟩
    · rcases first_feed r with h | ⟨hd, body, rfl, h⟩
      · exact .inl (fun c hc => by
          rcases List.mem_cons.1 hc with rfl | hc
          · exact hx
          · exact h c hc)
      · exact .inr ⟨x :: hd, body, rfl, fun c hc => by
          rcases List.mem_cons.1 hc with rfl | hc
          · exact hx
          · exact h c hc⟩
theorem rd6_text {hd body : List UInt8} {near : Int} {w w' : World} {e : Ending} (h : BuO2 hd body near w e w') :
    (∀ c t cor del, Hdr (hws hd) near c t cor del → (lns body).length ≤ 60 → Rd6 w (S c) t cor del 0 (goods t (nums 1 (lns body))) (bads t (nums 1 (lns body))) e w') ∧
    (∀ c t cor del, Hdr (hws hd) near c t cor del → 60 < (lns body).length → Rd6 w ⟨#[]⟩ 0 0 0 2 [] [] e w') ∧
    ((∀ c t cor del, ¬ Hdr (hws hd) near c t cor del) → Rd6 w ⟨#[]⟩ 0 0 0 3 [] [] e w') := by
  rcases h with ⟨hl, c', t', cor', del', R, vr, vd, hh, hk, rfl, o1, o2, hr, hb⟩ | ⟨hno, rfl, hb⟩ | ⟨hl, ⟨c', t', cor', del', hh⟩, rfl, hb⟩
  · refine ⟨fun c t cor del hH _ => ?_, fun c t cor del _ h6 => absurd hl (Nat.not_le_of_lt h6), fun hno => absurd hh (hno _ _ _ _)⟩
    obtain ⟨rfl, rfl, rfl, rfl⟩ := hH.one hh
    exact ⟨hb, R, vr, vd, hk, rfl, RpsIn.own o1 (fun r hr' => (hr r hr').1), NumsIn.own o2⟩
  · exact ⟨fun c t cor del hH _ => absurd hH (hno _ _ _ _), fun c t cor del hH _ => absurd hH (hno _ _ _ _), fun _ => rd6_err ⟨rfl, hb⟩⟩
  · exact ⟨fun c t cor del _ h6 => absurd h6 (Nat.not_le_of_lt hl), fun c t cor del _ _ => rd6_err ⟨rfl, hb⟩, fun hno => absurd hh (hno _ _ _ _)⟩
theorem both_parse6 (s : List UInt8) (near : Int) : ∃ (c : ByteArray) (t cor del er : Int) (Q : List Qr) (D : List Int), D.length ≤ 60 ∧
    (∀ w, Env w → Calls Tryz.prog 22 #[.string (S s), .int .i64 near] w (Rd6 w c t cor del er Q D)) ∧
    ∀ w, Calls Tryz.prog 23 #[.string (S s), .int .i64 near] w (Rd6 w c t cor del er Q D) := by
  by_cases hn : 0 ≤ near ∧ near ≤ 52595999
  · by_cases hs : s.length ≤ 4000
    · rcases first_feed s with hf | ⟨hd, body, rfl, hf⟩
      · exact ⟨⟨#[]⟩, 0, 0, 0, 3, [], [], by simp, fun w hE => (parse_free s near w hE hn hs hf).mono fun e w' h => rd6_err h, fun w => (refParse6_free s near w hn hs hf).mono fun e w' h => rd6_err h⟩
      · have hs9 : hd.length + body.length ≤ 3999 := by simp at hs; omega
        by_cases hH : ∃ c t cor del, Hdr (hws hd) near c t cor del
        · obtain ⟨c, t, cor, del, hH⟩ := hH
          by_cases h6 : (lns body).length ≤ 60
          · refine ⟨S c, t, cor, del, 0, goods t (nums 1 (lns body)), bads t (nums 1 (lns body)), ?_, fun w hE => (parse_text2 hd body near w hE hn hf hs9).mono fun e w' h => (rd6_text h).1 c t cor del hH h6, fun w => (refParse6_text hd body near w hn hf hs9).mono fun e w' h => (rd6_text h).1 c t cor del hH h6⟩
            have := List.length_filterMap_le (fun x : Nat × List UInt8 => match rdl t x.2 with | none => some (x.1 : Int) | some _ => none) (nums 1 (lns body))
            rw [nums_len] at this
            exact Nat.le_trans this h6
          · have h7 : 60 < (lns body).length := by omega
            exact ⟨⟨#[]⟩, 0, 0, 0, 2, [], [], by simp, fun w hE => (parse_text2 hd body near w hE hn hf hs9).mono fun e w' h => (rd6_text h).2.1 c t cor del hH h7, fun w => (refParse6_text hd body near w hn hf hs9).mono fun e w' h => (rd6_text h).2.1 c t cor del hH h7⟩
        · have hno : ∀ c t cor del, ¬ Hdr (hws hd) near c t cor del := fun c t cor del h => hH ⟨c, t, cor, del, h⟩
          exact ⟨⟨#[]⟩, 0, 0, 0, 3, [], [], by simp, fun w hE => (parse_text2 hd body near w hE hn hf hs9).mono fun e w' h => (rd6_text h).2.2 hno, fun w => (refParse6_text hd body near w hn hf hs9).mono fun e w' h => (rd6_text h).2.2 hno⟩
    · have h4 : 4000 < (S s).size := by rw [S_size]; omega
      exact ⟨⟨#[]⟩, 0, 0, 0, 2, [], [], by simp, fun w _ => (parse_long (S s) near w hn h4).mono fun e w' h => rd6_err h, fun w => (refParse6_long (S s) near w hn h4).mono fun e w' h => rd6_err h⟩
  · exact ⟨⟨#[]⟩, 0, 0, 0, 1, [], [], by simp, fun w _ => (parse_range (S s) near w hn).mono fun e w' h => rd6_err h, fun w => (refParse6_range (S s) near w hn).mono fun e w' h => rd6_err h⟩
end Go.Proofs.YtfnlgfacadmjpaaGreatDoor.Bu
