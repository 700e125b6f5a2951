/- Contract of Format of the program. -/
import Derived.Test.YthlcpmkjemdhkaaDoorText
namespace Go.Proofs.YthlcpmkjemdhkaaDoor
open Go.RowKit

set_option maxHeartbeats 400000 in
theorem format_no (c v : Int) (w : World) (hT : Tab w) (h : Elt.chk c v ≠ 0) :
    Calls Tryd.prog 26 #[rdV c v] w fun e w' => e = .returned (.tuple #[.string ⟨#[]⟩, .int .i64 (Elt.chk c v)]) ∧ Below w.heap.size w w' := by
  have b0 : Below w.heap.size w (w.alloc (.cells #[.int .i64 c, .int .i64 v] 47)) := (Below.refl _ _).alloc (Nat.le_refl _) _
  have hT0 := hT.under b0
  have q : (Elt.chk c v != 0) = true := by rw [bne_iff_ne]; exact h
  generalize hk : Elt.chk c v = ck at *
  have HK := Lib.hid hk; clear hk h
  go_enter Tryd.func26, Tryd.ntmps26
  go_wp2_with fail
  refine (check_any c v _ hT0).mono ?_
  rintro e w1 ⟨rfl, g1⟩
  rw [HK.out]
  go_wp2_with fail
  go_ret2
  exact ⟨rfl, b0.trans (g1.mono (by simp))⟩
attribute [local go_sem] S_add S_size
set_option maxHeartbeats 1000000 in
theorem format_yes (c v : Int) (w : World) (hE : Env w) (h : Elt.Val c v) :
    Calls Tryd.prog 26 #[rdV c v] w fun e w' => e = .returned (.tuple #[.string (S (Elt.txt c v)), .int .i64 0]) ∧ Below w.heap.size w w' := by
  have b0 : Below w.heap.size w (w.alloc (.cells #[.int .i64 c, .int .i64 v] 47)) := (Below.refl _ _).alloc (Nat.le_refl _) _
  have r0 := Row.new w #[.int .i64 c, .int .i64 v] 47
  have hE0 := hE.under b0
  have hk := Elt.chk_ok h
  obtain ⟨d1, d2, d3, d4⟩ := Elt.val_bd h
  obtain ⟨-, f6, f7, -⟩ := Elt.facts h.1
  have H := Lib.hid h; clear h
  go_enter Tryd.func26, Tryd.ntmps26
  go_wp2_with fail
  refine (check_any c v _ hE0.tab).mono ?_
  rintro e w1 ⟨rfl, g1⟩
  rw [hk]
  clear hk
  have r1 := r0.under g1
  have b1 := b0.trans (g1.mono (by simp))
  have hE1 := hE0.under g1
  clear g1 b0 r0 hE0
  obtain ⟨p0, p1⟩ := row2 r1
  go_wp2_with fail
  refine (describe_yes c _ H.out.1 hE1.tab).mono ?_
  rintro e w2 ⟨rfl, g2⟩
  have hdn : (2 : Nat) ≤ 5 := by omega
  have HD : Hid (v.natAbs < 10 ^ Elt.dg c) := Lib.hid d1
  clear d1
  have hsg : Hid (Elt.txt c v = [Elt.lt c] ++ Elt.sg v ++ Elt.ddn v.natAbs (Elt.dg c)) := Lib.hid (by simp [Elt.txt, Elt.tail])
  go_upto_region 5 with fail
  refine forget (fun Y => Below w.heap.size w Y ∧ Env Y ∧ Row Y w.heap.size 47 #[.int .i64 c, .int .i64 v] ∧ Row Y w2.heap.size 30 #[.string (S [Elt.lt c]), .int .i64 (Elt.lo c), .int .i64 (Elt.hi c), .int .i64 (Elt.dg c)]) ⟨(b1.trans (g2.mono b1.size)).alloc (Nat.le_trans b1.size g2.size) _, (hE1.under g2).alloc _, (r1.under g2).alloc _, Row.new _ _ _⟩ ?_
  clear g2 b1 r1 hE1 p0 p1 hE
  rintro Y ⟨bY, hEY, r2, r4⟩
  obtain ⟨p0, p1⟩ := row2 r2
  obtain ⟨q0, q1, q2, q3⟩ := row4 r4
  have BY := Lib.hid bY; clear bY r2 r4
  obtain ⟨k, hk⟩ : ∃ k, Elt.dg c = k := ⟨_, rfl⟩
  have hk4 : 4 ≤ k := by omega
  have hk5 : k ≤ 5 := by omega
  rw [hk] at hsg HD q3
  clear d4 f6 f7 hk
  by_cases hv : v < 0
  · have e1 : max v (-v) = ((v.natAbs : Nat) : Int) := by omega
    have s1 := Lib.hid (show Elt.sg v = [45] from if_pos hv)
    go_wp2_with fail
    refine (digits_any v.natAbs k _ hEY HD.out hk4 hk5).mono ?_
    rintro e w3 ⟨rfl, g3⟩
    have hl := Elt.ddn_len v.natAbs k
    generalize hx : Elt.ddn v.natAbs k = dl at *
    have B3 := Lib.hid (BY.out.trans (g3.mono BY.out.size)); clear g3
    go_wp2_with fail
    go_ret2
    exact ⟨ret_str2 (by rw [hsg.out, s1.out]; rw [show (⟨#[45]⟩ : ByteArray) = S [45] from rfl, S_add, S_add]), B3.out⟩
  · have e1 : max v (-v) = ((v.natAbs : Nat) : Int) := by omega
    have s1 := Lib.hid (show Elt.sg v = [] from if_neg hv)
    go_wp2_with fail
    refine (digits_any v.natAbs k _ hEY HD.out hk4 hk5).mono ?_
    rintro e w3 ⟨rfl, g3⟩
    have hl := Elt.ddn_len v.natAbs k
    generalize hx : Elt.ddn v.natAbs k = dl at *
    have B3 := Lib.hid (BY.out.trans (g3.mono BY.out.size)); clear g3
    go_wp2_with fail
    go_ret2
    exact ⟨ret_str2 (by rw [hsg.out, s1.out, List.append_nil]; rfl), B3.out⟩
end Go.Proofs.YthlcpmkjemdhkaaDoor
