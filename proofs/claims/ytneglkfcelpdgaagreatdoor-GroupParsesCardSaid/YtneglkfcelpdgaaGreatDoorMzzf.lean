/- What both sides' Parse answers, for every text and every minute near it. -/
import Derived.Test.YtneglkfcelpdgaaGreatDoorMzze
namespace Go.Proofs.YtneglkfcelpdgaaGreatDoor
open Go.RowKit

/-- The answer to a text near a minute. -/
def Tag (s : List UInt8) (near : Int) (k : Int) (nm : List UInt8) (t F A B C : Int) (L : List El.Elt.R) (er : Int) : Prop :=
  ((0 ≤ near ∧ near ≤ 52595999) ∧ Psd s near k nm t F A B C L ∧ er = 0) ∨
  ((0 ≤ near ∧ near ≤ 52595999) ∧ (∀ k nm t F A B C L, ¬ Psd s near k nm t F A B C L) ∧ er = 3 ∧ (k = 0 ∧ nm = [] ∧ t = 0 ∧ F = 0 ∧ A = 0 ∧ B = 0 ∧ C = 0 ∧ L = [])) ∨
  (¬ (0 ≤ near ∧ near ≤ 52595999) ∧ er = 1 ∧ (k = 0 ∧ nm = [] ∧ t = 0 ∧ F = 0 ∧ A = 0 ∧ B = 0 ∧ C = 0 ∧ L = []))
theorem Tag.one {s nm nm' : List UInt8} {near k t F A B C er k' t' F' A' B' C' er' : Int} {L L' : List El.Elt.R} (h : Tag s near k nm t F A B C L er) (h' : Tag s near k' nm' t' F' A' B' C' L' er') :
    k = k' ∧ nm = nm' ∧ t = t' ∧ F = F' ∧ A = A' ∧ B = B' ∧ C = C' ∧ L = L' ∧ er = er' := by
  rcases h with ⟨hn, h, rfl⟩ | ⟨hn, h, rfl, rfl, rfl, rfl, rfl, rfl, rfl, rfl, rfl⟩ | ⟨hn, rfl, rfl, rfl, rfl, rfl, rfl, rfl, rfl, rfl⟩
  · rcases h' with ⟨-, h', rfl⟩ | ⟨-, h', -⟩ | ⟨hm, -⟩
    · obtain ⟨rfl, rfl, rfl, rfl, rfl, rfl, rfl, rfl⟩ := h.1.one h'.1
      exact ⟨rfl, rfl, rfl, rfl, rfl, rfl, rfl, rfl, rfl⟩
    · exact absurd h (h' _ _ _ _ _ _ _ _)
    · exact absurd hn hm
  · rcases h' with ⟨-, h', -⟩ | ⟨-, -, rfl, rfl, rfl, rfl, rfl, rfl, rfl, rfl, rfl⟩ | ⟨hm, -⟩
    · exact absurd h' (h _ _ _ _ _ _ _ _)
    · exact ⟨rfl, rfl, rfl, rfl, rfl, rfl, rfl, rfl, rfl⟩
    · exact absurd hn hm
  · rcases h' with ⟨hm, -⟩ | ⟨hm, -⟩ | ⟨-, rfl, rfl, rfl, rfl, rfl, rfl, rfl, rfl, rfl⟩
    · exact absurd hm hn
    · exact absurd hm hn
    · exact ⟨rfl, rfl, rfl, rfl, rfl, rfl, rfl, rfl, rfl⟩
/-- What a call of Parse leaves. -/
def Ans (s : List UInt8) (near : Int) (w : World) (e : Ending) (w' : World) : Prop :=
  ∃ (k : Int) (nm : List UInt8) (t F A B C : Int) (L : List El.Elt.R) (u : Value) (er : Int), Tag s near k nm t F A B C L er ∧ e = .returned (.tuple #[repV k (S nm) t F A B C u, .int .i64 er]) ∧ El.RdIn w' u L ∧ Below w.heap.size w w'
theorem rdIn_none (w : World) : El.RdIn w (.slice none 0 0) [] := ⟨none, 0, rfl, Nat.le_refl _, by omega, fun i h => absurd h (Nat.not_lt_zero _)⟩
theorem tag_none {s : List UInt8} {near er : Int} {w w' : World} {e : Ending} (h : Tag s near 0 [] 0 0 0 0 0 [] er) (he : e = .returned (.tuple #[repV 0 ⟨#[]⟩ 0 0 0 0 0 (.slice none 0 0), .int .i64 er])) (hb : Below w.heap.size w w') : Ans s near w e w' :=
  ⟨0, [], 0, 0, 0, 0, 0, [], .slice none 0 0, er, h, he, rdIn_none w', hb⟩
set_option maxRecDepth 100000 in
set_option maxHeartbeats 4000000 in
theorem parse_out (sv : ByteArray) (near : Int) (w : World) (hn : ¬ (0 ≤ near ∧ near ≤ 52595999)) :
    Calls Tryz.prog 23 #[.string sv, .int .i64 near] w fun e w' => e = .returned (.tuple #[repV 0 ⟨#[]⟩ 0 0 0 0 0 (.slice none 0 0), .int .i64 1]) ∧ Below w.heap.size w w' := by
  have b4 := (Below.refl w.heap.size w).alloc (Nat.le_refl _) (.cells (repC 0 ⟨#[]⟩ 0 0 0 0 0 (.slice none 0 0)) 26)
  have r4 := Row.new w (repC 0 ⟨#[]⟩ 0 0 0 0 0 (.slice none 0 0)) 26
  rcases (show near < 0 ∨ (¬ near < 0 ∧ 52595999 < near) by omega) with h1 | ⟨h1, h2⟩
  all_goals
    clear hn
    go_enter Tryz.func23, Tryz.ntmps23
    go_upto_region 1 with fail
    generalize w.alloc (.cells (repC 0 ⟨#[]⟩ 0 0 0 0 0 (.slice none 0 0)) 26) = W0 at *
    have f0 := r4.thaw 0
    have f1 := r4.thaw 1
    have f2 := r4.thaw 2
    have f3 := r4.thaw 3
    have f4 := r4.thaw 4
    have f5 := r4.thaw 5
    have f6 := r4.thaw 6
    have f7 := r4.thaw 7
    obtain ⟨q0, q1, q2, q3, q4, q5, q6, q7⟩ := row8 r4
    have HZ := Lib.hid (set8_row (.int .i64 0) (.string ⟨#[]⟩) (.int .i64 0) (.int .i64 0) (.int .i64 0) (.int .i64 0) (.int .i64 0) (.slice none 0 0) r4)
    have HF := Lib.hid (set8_below (u0 := .int .i64 0) (u1 := .string ⟨#[]⟩) (u2 := .int .i64 0) (u3 := .int .i64 0) (u4 := .int .i64 0) (u5 := .int .i64 0) (u6 := .int .i64 0) (u7 := .slice none 0 0) b4 (Nat.le_refl _))
    clear b4 r4
    go_wp2_with fail
    clear f0 f1 f2 f3 f4 f5 f6 f7 q0 q1 q2 q3 q4 q5 q6 q7
    exact bodyPost_ret (v := .tuple #[repV 0 ⟨#[]⟩ 0 0 0 0 0 (.slice none 0 0), .int .i64 1]) (by obtain ⟨z0, z1, z2, z3, z4, z5, z6, z7⟩ := row8 HZ.out; simp [results, Tryz.results23, z0, z1, z2, z3, z4, z5, z6, z7, go_sem]) rfl ⟨rfl, HF.out⟩
set_option maxRecDepth 100000 in
set_option maxHeartbeats 4000000 in
theorem refParse_out (sv : ByteArray) (near : Int) (w : World) (hn : ¬ (0 ≤ near ∧ near ≤ 52595999)) :
    Calls Tryz.prog 24 #[.string sv, .int .i64 near] w fun e w' => e = .returned (.tuple #[repV 0 ⟨#[]⟩ 0 0 0 0 0 (.slice none 0 0), .int .i64 1]) ∧ Below w.heap.size w w' := by
  have HIN := Lib.hid (fun W => Ck.refIn_any near W)
  have hrn : Ck.Cal.rng near = false := by
    cases h : Ck.Cal.rng near
    · rfl
    · unfold Ck.Cal.rng at h; simp at h; omega
  rw [hrn] at HIN
  clear hrn hn
  have b4 := (Below.refl w.heap.size w).alloc (Nat.le_refl _) (.cells (repC 0 ⟨#[]⟩ 0 0 0 0 0 (.slice none 0 0)) 26)
  have r4 := Row.new w (repC 0 ⟨#[]⟩ 0 0 0 0 0 (.slice none 0 0)) 26
  go_enter Tryz.func24, Tryz.ntmps24
  go_wp2_with fail
  generalize w.alloc (.cells (repC 0 ⟨#[]⟩ 0 0 0 0 0 (.slice none 0 0)) 26) = W0 at *
  refine (HIN.out _).mono ?_
  rintro e w1 ⟨rfl, rfl⟩
  have f0 := r4.thaw 0
  have f1 := r4.thaw 1
  have f2 := r4.thaw 2
  have f3 := r4.thaw 3
  have f4 := r4.thaw 4
  have f5 := r4.thaw 5
  have f6 := r4.thaw 6
  have f7 := r4.thaw 7
  obtain ⟨q0, q1, q2, q3, q4, q5, q6, q7⟩ := row8 r4
  have HZ := Lib.hid (set8_row (.int .i64 0) (.string ⟨#[]⟩) (.int .i64 0) (.int .i64 0) (.int .i64 0) (.int .i64 0) (.int .i64 0) (.slice none 0 0) r4)
  have HF := Lib.hid (set8_below (u0 := .int .i64 0) (u1 := .string ⟨#[]⟩) (u2 := .int .i64 0) (u3 := .int .i64 0) (u4 := .int .i64 0) (u5 := .int .i64 0) (u6 := .int .i64 0) (u7 := .slice none 0 0) b4 (Nat.le_refl _))
  clear b4 r4
  go_wp2_with fail
  clear f0 f1 f2 f3 f4 f5 f6 f7 q0 q1 q2 q3 q4 q5 q6 q7
  exact bodyPost_ret (v := .tuple #[repV 0 ⟨#[]⟩ 0 0 0 0 0 (.slice none 0 0), .int .i64 1]) (by obtain ⟨z0, z1, z2, z3, z4, z5, z6, z7⟩ := row8 HZ.out; simp [results, Tryz.results24, z0, z1, z2, z3, z4, z5, z6, z7, go_sem]) rfl ⟨rfl, HF.out⟩
theorem parse_ans (s : List UInt8) (near : Int) (w0 w : World) (hE : Env w0) (hb : Below w0.heap.size w0 w) (hs : s.length ≤ 100000) :
    Calls Tryz.prog 23 #[.string (S s), .int .i64 near] w (Ans s near w) := by
  by_cases hn : 0 ≤ near ∧ near ≤ 52595999
  · refine (parse_any s near w (hE.under hb) hn hs).mono ?_
    rintro e w' (⟨k, nm, t, F, A, B, C, L, u, h, he, hr, hg⟩ | ⟨h, he, hg⟩)
    · exact ⟨k, nm, t, F, A, B, C, L, u, 0, .inl ⟨hn, h, rfl⟩, he, hr, hg⟩
    · exact tag_none (.inr (.inl ⟨hn, h, rfl, rfl, rfl, rfl, rfl, rfl, rfl, rfl, rfl⟩)) he hg
  · exact (parse_out (S s) near w hn).mono fun e w' ⟨he, hg⟩ => tag_none (.inr (.inr ⟨hn, rfl, rfl, rfl, rfl, rfl, rfl, rfl, rfl, rfl⟩)) he hg
theorem refParse_ans (s : List UInt8) (near : Int) (w : World) (hs : s.length ≤ 100000) :
    Calls Tryz.prog 24 #[.string (S s), .int .i64 near] w (Ans s near w) := by
  by_cases hn : 0 ≤ near ∧ near ≤ 52595999
  · refine (refParse_any s near w hn hs).mono ?_
    rintro e w' (⟨k, nm, t, F, A, B, C, L, u, h, he, hr, hg⟩ | ⟨h, he, hg⟩)
    · exact ⟨k, nm, t, F, A, B, C, L, u, 0, .inl ⟨hn, (psf_iff s near k nm t F A B C L).1 h, rfl⟩, he, hr, hg⟩
    · exact tag_none (.inr (.inl ⟨hn, fun k nm t F A B C L h' => h k nm t F A B C L ((psf_iff s near k nm t F A B C L).2 h'), rfl, rfl, rfl, rfl, rfl, rfl, rfl, rfl, rfl⟩)) he hg
  · exact (refParse_out (S s) near w hn).mono fun e w' ⟨he, hg⟩ => tag_none (.inr (.inr ⟨hn, rfl, rfl, rfl, rfl, rfl, rfl, rfl, rfl, rfl⟩)) he hg
end Go.Proofs.YtneglkfcelpdgaaGreatDoor
