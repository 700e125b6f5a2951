/- Contracts of digits and Format of the program. Contract of Format of the program. Contract of Parse of the program: the reading whose text it is, or ErrSyntax. The sanity check of every statement of the layer. Contracts of the reference's Describe at single codes. Contracts of the reference's Describe at single codes. -/
import Derived.Test.YtfnlgfacadmjpaaGreatDoorEChk
import Derived.Test.YtfnlgfacadmjpaaGreatDoorShelf
import Derived.Lib.SmallJoins
import Derived.Lib.AppendIntMem
namespace Go.Proofs.YtfnlgfacadmjpaaGreatDoor.El
open Go.RowKit

/-- What the package-level variables hold: the rows, the powers of ten, the two errors. -/
structure Env (w : World) : Prop where
  tab : Tab w
  pow : Lib.TabIs Tryz.prog w "internal/strconv.uint64pow10" .u64 Lib.pow10Tab
  syn : ∃ te pe, w.cell? ⟨7, 0, none⟩ = some (.iface te pe)
  rng : ∃ te pe, w.cell? ⟨8, 0, none⟩ = some (.iface te pe)
theorem pow_at : Tryz.prog.globalNamed "internal/strconv.uint64pow10" = some 6 := by kernel_rfl
theorem Env.under {w w' : World} (h : Env w) (hb : Below w.heap.size w w') : Env w' := by
  obtain ⟨t, p, ⟨a, b, s⟩, c, d, r⟩ := h
  exact ⟨t.under hb, Joins.tab_stays pow_at p hb (Nat.le_refl _), ⟨a, b, (hb.cell (p := ⟨7, 0, none⟩) (World.block_lt_of_cell? w _ s)).trans s⟩, ⟨c, d, (hb.cell (p := ⟨8, 0, none⟩) (World.block_lt_of_cell? w _ r)).trans r⟩⟩
theorem Env.alloc {w : World} (h : Env w) (o : Obj) : Env (w.alloc o) := h.under ((Below.refl _ _).alloc (Nat.le_refl _) o)
theorem Env.drew {w : World} (h : Env w) : Env w.drew := ⟨h.tab, h.pow, h.syn, h.rng⟩
theorem Env.drewN {w : World} (h : Env w) (n : Nat) : Env (w.drewN n) := ⟨h.tab, h.pow, h.syn, h.rng⟩
theorem itoa_any (n : Nat) (w : World) (hE : Env w) (h2 : n ≤ 99999) :
    Calls Tryz.prog 150 #[.int .i64 n] w fun e w' => e = .returned (.string (S (Lib.decDigits n))) ∧ Below w.heap.size w w' := by
  by_cases c1 : n < 100
  · exact (Tryz.strconv_Itoa_small n c1 w).mono fun e w' ⟨he, hw⟩ => ⟨he, hw ▸ Below.refl _ _⟩
  · refine (Tryz.strconv_Itoa (n : Int) (by omega) (by omega) w hE.pow).mono fun e w' ⟨he, q, os, hw⟩ => ⟨?_, ?_⟩
    · rw [he, Lib.itoa_nonneg]; rfl
    · rw [hw]; exact Lib.below_grow _ _ (Nat.le_refl _) _ _
theorem repeat_any (c : Nat) (w : World) (h2 : c ≤ 9) :
    Calls Tryz.prog 151 #[.string ⟨#[48]⟩, .int .i64 c] w fun e w' => e = .returned (.string (S (List.replicate c 48))) ∧ Below w.heap.size w w' := by
  rcases (by omega : c = 0 ∨ c = 1 ∨ c = 2 ∨ c = 3 ∨ c = 4 ∨ c = 5 ∨ c = 6 ∨ c = 7 ∨ c = 8 ∨ c = 9) with rfl | rfl | rfl | rfl | rfl | rfl | rfl | rfl | rfl | rfl
  · exact (Tryz.strings_Repeat_zero _ w).mono fun e w' ⟨he, hw⟩ => ⟨he, hw ▸ Below.refl _ _⟩
  · exact (Tryz.strings_Repeat_one _ w).mono fun e w' ⟨he, hw⟩ => ⟨he, hw ▸ Below.refl _ _⟩
  all_goals exact (Tryz.strings_Repeat_main ⟨#[48]⟩ _ w (by omega) (by omega) (by decide) (by decide)).mono fun e w' ⟨he, hw⟩ => ⟨he, hw⟩
attribute [local go_sem] S_add S_size
set_option maxHeartbeats 400000 in
theorem digits_any (n k : Nat) (w : World) (hE : Env w) (h1 : n < 10 ^ k) (h2 : 4 ≤ k) (h3 : k ≤ 5) :
    Calls Tryz.prog 111 #[.int .i64 n, .int .i64 k] w fun e w' => e = .returned (.string (S (Elt.ddn n k))) ∧ Below w.heap.size w w' := by
  have h10 : n ≤ 99999 := by have : 10 ^ k ≤ 10 ^ 5 := Nat.pow_le_pow_right (by omega) h3; omega
  obtain ⟨m, rfl⟩ : ∃ m, k = m + 1 := ⟨k - 1, by omega⟩
  obtain ⟨p1, p2⟩ := Elt.pad m n h1
  have P2 := Lib.hid p2; clear p2 h1
  have hc : ((m + 1 : Nat) : Int) - ((Lib.decDigits n).length : Int) = ((m + 1 - (Lib.decDigits n).length : Nat) : Int) := by omega
  generalize hl : (Lib.decDigits n).length = len at *
  generalize hz : m + 1 - len = z at *
  have hz9 : z ≤ 9 := by omega
  have HL := Lib.hid hl
  have x1 : IntKind.i64.wrap (((m + 1 : Nat) : Int) - (len : Int)) = (z : Int) := by rw [hc]; exact IntWalk.i64_in _ (by omega)
  generalize ((m + 1 : Nat) : Int) = mi at *
  have hl3 : (List.replicate z (48 : UInt8)).length ≤ 9 := by rw [List.length_replicate]; omega
  go_enter Tryz.func111, Tryz.ntmps111
  go_wp2_with fail
  refine (itoa_any n _ hE h10).mono ?_
  rintro e w1 ⟨rfl, g1⟩
  go_upto_region 2 with fail
  go_wp2_with fail
  refine (repeat_any z _ hz9).mono ?_
  rintro e w2 ⟨rfl, g2⟩
  go_wp2_with fail
  go_ret
  exact ⟨ret_str (by rw [P2.out]), g1.trans (g2.mono g1.size)⟩
end Go.Proofs.YtfnlgfacadmjpaaGreatDoor.El
namespace Go.Proofs.YtfnlgfacadmjpaaGreatDoor.El
open Go.RowKit

set_option maxHeartbeats 400000 in
theorem format_no (c v : Int) (w : World) (hT : Tab w) (h : Elt.chk c v ≠ 0) :
    Calls Tryz.prog 68 #[rdV c v] w fun e w' => e = .returned (.tuple #[.string ⟨#[]⟩, .int .i64 (Elt.chk c v)]) ∧ Below w.heap.size w w' := by
  have b0 : Below w.heap.size w (w.alloc (.cells #[.int .i64 c, .int .i64 v] 99)) := (Below.refl _ _).alloc (Nat.le_refl _) _
  have hT0 := hT.under b0
  have q : (Elt.chk c v != 0) = true := by rw [bne_iff_ne]; exact h
  generalize hk : Elt.chk c v = ck at *
  have HK := Lib.hid hk; clear hk h
  go_enter Tryz.func68, Tryz.ntmps68
  go_wp2_with fail
  refine (check_any c v _ hT0).mono ?_
  rintro e w1 ⟨rfl, g1⟩
  rw [HK.out]
  go_wp2_with fail
  go_ret2
  exact ⟨rfl, b0.trans (g1.mono (by simp))⟩
attribute [local go_sem] S_add S_size
set_option maxHeartbeats 1000000 in
theorem format_yes (c v : Int) (w : World) (hE : Env w) (h : Elt.Val c v) :
    Calls Tryz.prog 68 #[rdV c v] w fun e w' => e = .returned (.tuple #[.string (S (Elt.txt c v)), .int .i64 0]) ∧ Below w.heap.size w w' := by
  have b0 : Below w.heap.size w (w.alloc (.cells #[.int .i64 c, .int .i64 v] 99)) := (Below.refl _ _).alloc (Nat.le_refl _) _
  have r0 := Row.new w #[.int .i64 c, .int .i64 v] 99
  have hE0 := hE.under b0
  have hk := Elt.chk_ok h
  obtain ⟨d1, d2, d3, d4⟩ := Elt.val_bd h
  obtain ⟨-, f6, f7, -⟩ := Elt.facts h.1
  have H := Lib.hid h; clear h
  go_enter Tryz.func68, Tryz.ntmps68
  go_wp2_with fail
  refine (check_any c v _ hE0.tab).mono ?_
  rintro e w1 ⟨rfl, g1⟩
  rw [hk]
  clear hk
  have r1 := r0.under g1
  have b1 := b0.trans (g1.mono (by simp))
  have hE1 := hE0.under g1
  clear g1 b0 r0 hE0
  obtain ⟨p0, p1⟩ := row2 r1
  go_wp2_with fail
  refine (describe_yes c _ H.out.1 hE1.tab).mono ?_
  rintro e w2 ⟨rfl, g2⟩
  have hdn : (2 : Nat) ≤ 5 := by omega
  have HD : Hid (v.natAbs < 10 ^ Elt.dg c) := Lib.hid d1
  clear d1
  have hsg : Hid (Elt.txt c v = [Elt.lt c] ++ Elt.sg v ++ Elt.ddn v.natAbs (Elt.dg c)) := Lib.hid (by simp [Elt.txt, Elt.tail])
  go_upto_region 5 with fail
  refine forget (fun Y => Below w.heap.size w Y ∧ Env Y ∧ Row Y w.heap.size 99 #[.int .i64 c, .int .i64 v] ∧ Row Y w2.heap.size 139 #[.string (S [Elt.lt c]), .int .i64 (Elt.lo c), .int .i64 (Elt.hi c), .int .i64 (Elt.dg c)]) ⟨(b1.trans (g2.mono b1.size)).alloc (Nat.le_trans b1.size g2.size) _, (hE1.under g2).alloc _, (r1.under g2).alloc _, Row.new _ _ _⟩ ?_
  clear g2 b1 r1 hE1 p0 p1 hE
  rintro Y ⟨bY, hEY, r2, r4⟩
  obtain ⟨p0, p1⟩ := row2 r2
  obtain ⟨q0, q1, q2, q3⟩ := row4 r4
  have BY := Lib.hid bY; clear bY r2 r4
  obtain ⟨k, hk⟩ : ∃ k, Elt.dg c = k := ⟨_, rfl⟩
  have hk4 : 4 ≤ k := by omega
  have hk5 : k ≤ 5 := by omega
  rw [hk] at hsg HD q3
  clear d4 f6 f7 hk
  by_cases hv : v < 0
  · have e1 : max v (-v) = ((v.natAbs : Nat) : Int) := by omega
    have s1 := Lib.hid (show Elt.sg v = [45] from if_pos hv)
    go_wp2_with fail
    refine (digits_any v.natAbs k _ hEY HD.out hk4 hk5).mono ?_
    rintro e w3 ⟨rfl, g3⟩
    have hl := Elt.ddn_len v.natAbs k
    generalize hx : Elt.ddn v.natAbs k = dl at *
    have B3 := Lib.hid (BY.out.trans (g3.mono BY.out.size)); clear g3
    go_wp2_with fail
    go_ret2
    exact ⟨ret_str2 (by rw [hsg.out, s1.out]; rw [show (⟨#[45]⟩ : ByteArray) = S [45] from rfl, S_add, S_add]), B3.out⟩
  · have e1 : max v (-v) = ((v.natAbs : Nat) : Int) := by omega
    have s1 := Lib.hid (show Elt.sg v = [] from if_neg hv)
    go_wp2_with fail
    refine (digits_any v.natAbs k _ hEY HD.out hk4 hk5).mono ?_
    rintro e w3 ⟨rfl, g3⟩
    have hl := Elt.ddn_len v.natAbs k
    generalize hx : Elt.ddn v.natAbs k = dl at *
    have B3 := Lib.hid (BY.out.trans (g3.mono BY.out.size)); clear g3
    go_wp2_with fail
    go_ret2
    exact ⟨ret_str2 (by rw [hsg.out, s1.out, List.append_nil]; rfl), B3.out⟩
end Go.Proofs.YtfnlgfacadmjpaaGreatDoor.El
namespace Go.Proofs.YtfnlgfacadmjpaaGreatDoor.El
open Go.RowKit

/-- What Atoi answers, whatever the text: a number and no error, or some error. -/
theorem atoi_any (s : ByteArray) (w : World) (hE : Env w) (hs : s.size ≤ 100000) :
    Calls Tryz.prog 199 #[.string s] w fun e w' => (∃ v er, e = .returned (.tuple #[.int .i64 v, er]) ∧ ((Lib.atoiAll s.data.toList = .ok v ∧ er = .nilIface) ∨ ((∀ v, Lib.atoiAll s.data.toList ≠ .ok v) ∧ ∃ te pe, er = .iface te pe))) ∧ Below w.heap.size w w' := by
  rcases h : Lib.atoiAll s.data.toList with v | _ | _
  · exact (Tryz.strconv_Atoi_ok s (by omega) v h w).mono fun e w' ⟨he, hw⟩ => ⟨⟨v, _, he, .inl ⟨rfl, rfl⟩⟩, by
      rcases hw with rfl | ⟨t, rfl⟩
      · exact Below.refl _ _
      · exact Lib.bytesWorld_below _ _ _⟩
  · obtain ⟨te, pe, hc⟩ := hE.syn
    exact (Any.strconv_Atoi_syntax Tryz.laysC172 s (by omega) h _ w hc (.inr ⟨te, pe, rfl⟩)).mono fun e w' ⟨N, he, _, _, hb⟩ => ⟨⟨_, _, he, .inr ⟨fun v => (by intro h; cases h), _, _, rfl⟩⟩, hb⟩
  · obtain ⟨te, pe, hc⟩ := hE.rng
    exact (Any.strconv_Atoi_range Tryz.laysC172 s (by omega) h _ w hc (.inr ⟨te, pe, rfl⟩)).mono fun e w' ⟨N, he, _, _, hb⟩ => ⟨⟨_, _, he, .inr ⟨fun v => (by intro h; cases h), _, _, rfl⟩⟩, hb⟩
theorem ext_head (a : UInt8) (l : List UInt8) : (S (a :: l)).extract 0 1 = S [a] := by
  apply ByteArray.ext; rw [ByteArray.data_extract]; simp [S]
theorem ext_tail (a : UInt8) (l : List UInt8) : (S (a :: l)).extract 1 (S (a :: l)).size = S l := by
  apply ByteArray.ext; rw [ByteArray.data_extract]; simp [S, ByteArray.size]
theorem nil_iface_ne (te : TypeId) (pe : Value) (w : World) : (Op.equalIn 10000 132 (.iface te pe) .nilIface).run Tryz.prog w = .ok false w := by kernel_rfl
set_option maxRecDepth 100000 in
set_option maxHeartbeats 1000000 in
theorem parse_yes (c v : Int) (w : World) (hE : Env w) (h : Elt.Val c v) :
    Calls Tryz.prog 190 #[.string (S (Elt.txt c v))] w fun e w' => e = .returned (.tuple #[rdV c v, .int .i64 0]) ∧ Below w.heap.size w w' := by
  have b0 : Below w.heap.size w (w.alloc (.cells #[.int .i64 0, .int .i64 0] 99)) := (Below.refl _ _).alloc (Nat.le_refl _) _
  have r0 := Row.new w #[.int .i64 0, .int .i64 0] 99
  have hE0 := hE.under b0
  have x1 : (S (Elt.txt c v)).extract 0 1 = S [Elt.lt c] := ext_head _ _
  have x2 : (S (Elt.txt c v)).extract 1 (S (Elt.txt c v)).size = S (Elt.tail c v) := ext_tail _ _
  have x3 : Lib.atoiAll (S (Elt.tail c v)).data.toList = .ok v := by rw [S_list]; exact Elt.tail_num h
  obtain ⟨l1, l2⟩ := Elt.tail_len h
  have x4 : (S (Elt.txt c v)).size = 1 + (Elt.tail c v).length := by rw [S_size]; unfold Elt.txt; rw [List.length_cons]; omega
  have x5 : (S (Elt.tail c v)).size ≤ 100000 := by rw [S_size]; omega
  have x6 : ((S (Elt.txt c v)).toList == []) = false := by
    rw [ByteArray.toList_eq, S_list]; rfl
  have x7 : ((S (Elt.txt c v)).toList == (S (Elt.txt c v)).toList) = true := beq_self_eq_true _
  have HV := Lib.hid h; clear h
  have HF := Lib.hid (fun W (hW : Env W) => format_yes c v W hW HV.out)
  have HA := Lib.hid (fun W (hW : Env W) => atoi_any (S (Elt.tail c v)) W hW x5)
  generalize S (Elt.tail c v) = st at *
  generalize (Elt.tail c v).length = tl at *
  generalize S (Elt.txt c v) = s at *
  rw [x4] at x2
  clear hE x5
  go_enter Tryz.func190, Tryz.ntmps190
  go_wp2_with fail
  generalize w.alloc (.cells #[.int .i64 0, .int .i64 0] 99) = W0 at *
  refine (byLetter_yes c _ HV.out.1).mono ?_
  rintro e w1 ⟨rfl, rfl⟩
  go_wp2_with fail
  refine (HA.out _ hE0).mono ?_
  rintro e w2 ⟨⟨v', er, rfl, hv⟩, g2⟩
  rw [x3] at hv
  rcases hv with ⟨hv, rfl⟩ | ⟨hv, -⟩
  · obtain rfl : v = v' := by injection hv
    have b2 := b0.trans (g2.mono b0.size)
    have r2 := r0.under g2
    have hE2 := hE0.under g2
    clear g2 b0 r0 hE0 hv x3
    go_upto_region 8 with fail
    have rR := Row.new w2 #[.int .i64 c, .int .i64 v] 99
    refine forget (fun Y => Below w.heap.size w Y ∧ Env Y ∧ Row Y w.heap.size 99 #[.int .i64 0, .int .i64 0] ∧ Row Y w2.heap.size 99 #[.int .i64 c, .int .i64 v]) ⟨b2.alloc b2.size _, hE2.alloc _, r2.alloc _, rR⟩ ?_
    clear rR b2 r2 hE2
    rintro Y ⟨bY, eY, rY, pY⟩
    obtain ⟨p0, p1⟩ := row2 pY
    go_wp2_with fail
    refine (HF.out _ eY).mono ?_
    rintro e w3 ⟨rfl, g3⟩
    have b3 := bY.trans (g3.mono bY.size)
    have r3 := rY.under g3
    obtain ⟨p0', p1'⟩ := row2 (pY.under g3)
    have f0 := r3.thaw 0
    have f1 := r3.thaw 1
    obtain ⟨q0, q1⟩ := row2 r3
    have R3 := Lib.hid r3
    have B3 := Lib.hid b3
    clear g3 b3 r3 bY rY pY p0 p1
    have HZ := Lib.hid (set2_row (.int .i64 c) (.int .i64 v) R3.out)
    go_wp2_with fail
    exact bodyPost_ret (v := .tuple #[rdV c v, .int .i64 0]) (by obtain ⟨z0, z1⟩ := row2 HZ.out; simp [results, Tryz.results190, z0, z1, go_sem]) rfl ⟨rfl, set2_below B3.out (Nat.le_refl _)⟩
  · exact absurd rfl (hv v)
/-- No reading has this text. -/
def NoTxt (s : ByteArray) : Prop := ∀ c v, Elt.Val c v → s ≠ S (Elt.txt c v)
set_option maxRecDepth 100000 in
set_option maxHeartbeats 1000000 in
theorem parse_no (s : ByteArray) (w : World) (hE : Env w) (hs : s.size ≤ 100000) (h : NoTxt s) :
    Calls Tryz.prog 190 #[.string s] w fun e w' => e = .returned (.tuple #[rdV 0 0, .int .i64 3]) ∧ Below w.heap.size w w' := by
  have b0 : Below w.heap.size w (w.alloc (.cells #[.int .i64 0, .int .i64 0] 99)) := (Below.refl _ _).alloc (Nat.le_refl _) _
  have r0 := Row.new w #[.int .i64 0, .int .i64 0] 99
  have hE0 := hE.under b0
  have HN := Lib.hid h; clear h hE
  by_cases hz : s.size = 0
  · have x6 : (s.toList == []) = true := by
      rw [ByteArray.toList_eq, beq_iff_eq]
      exact List.eq_nil_of_length_eq_zero (by rw [Array.length_toList]; exact hz)
    clear hE0
    go_enter Tryz.func190, Tryz.ntmps190
    go_wp2_with fail
    exact bodyPost_ret (v := .tuple #[rdV 0 0, .int .i64 3]) (by simp [results, Tryz.results190, go_sem]) rfl ⟨rfl, b0⟩
  · have x6 : (s.toList == []) = false := by
      rw [ByteArray.toList_eq, beq_eq_false_iff_ne]
      intro e
      exact hz (by have := congrArg List.length e; rw [Array.length_toList] at this; exact this)
    have hz1 : 1 ≤ s.size := by omega
    have HA := Lib.hid (fun W (hW : Env W) => atoi_any (s.extract 1 s.size) W hW (by rw [ByteArray.size_extract]; omega))
    generalize hst : s.extract 1 s.size = st at *
    generalize hs1 : s.extract 0 1 = s1 at *
    have HS := Lib.hid hst; clear hs
    by_cases hl : ∃ c, Elt.Ex c ∧ s1 = S [Elt.lt c]
    · obtain ⟨c, hc, rfl⟩ := hl
      have HC := Lib.hid hc; clear hc
      go_enter Tryz.func190, Tryz.ntmps190
      go_wp2_with fail
      generalize w.alloc (.cells #[.int .i64 0, .int .i64 0] 99) = W0 at *
      refine (byLetter_yes c _ HC.out).mono ?_
      rintro e w1 ⟨rfl, rfl⟩
      go_wp2_with fail
      refine (HA.out _ hE0).mono ?_
      rintro e w2 ⟨⟨v, er, rfl, hv⟩, g2⟩
      have b2 := b0.trans (g2.mono b0.size)
      have r2 := r0.under g2
      have hE2 := hE0.under g2
      clear g2 b0 r0 hE0 HA
      rcases hv with ⟨-, rfl⟩ | ⟨-, te, pe, rfl⟩
      · go_upto_region 8 with fail
        have rR := Row.new w2 #[.int .i64 c, .int .i64 v] 99
        refine forget (fun Y => Below w.heap.size w Y ∧ Env Y ∧ Row Y w.heap.size 99 #[.int .i64 0, .int .i64 0] ∧ Row Y w2.heap.size 99 #[.int .i64 c, .int .i64 v]) ⟨b2.alloc b2.size _, hE2.alloc _, r2.alloc _, rR⟩ ?_
        clear rR b2 r2 hE2
        rintro Y ⟨bY, eY, rY, pY⟩
        obtain ⟨p0, p1⟩ := row2 pY
        by_cases hval : Elt.Val c v
        · have x8 : ((S (Elt.txt c v)).toList == s.toList) = false := toList_ne (fun e => HN.out c v hval e.symm)
          have HF := Lib.hid (fun W (hW : Env W) => format_yes c v W hW hval)
          generalize S (Elt.txt c v) = tx at *
          go_wp2_with fail
          refine (HF.out _ eY).mono ?_
          rintro e w3 ⟨rfl, g3⟩
          have b3 := bY.trans (g3.mono bY.size)
          have r3 := rY.under g3
          have f0 := r3.thaw 0
          have f1 := r3.thaw 1
          obtain ⟨q0, q1⟩ := row2 r3
          have R3 := Lib.hid r3
          have B3 := Lib.hid b3
          clear g3 b3 r3 bY rY pY p0 p1
          have HZ := Lib.hid (set2_row (.int .i64 0) (.int .i64 0) R3.out)
          have x9 : (!(tx.toList == s.toList)) = true := by rw [x8]; rfl
          have x10 : (tx.toList != s.toList) = true := x9
          go_wp2_with fail
          exact bodyPost_ret (v := .tuple #[rdV 0 0, .int .i64 3]) (by obtain ⟨z0, z1⟩ := row2 HZ.out; simp [results, Tryz.results190, z0, z1, go_sem]) rfl ⟨rfl, set2_below B3.out (Nat.le_refl _)⟩
        · have hck : Elt.chk c v ≠ 0 := fun e => hval (Elt.val_of e)
          have HF := Lib.hid (fun W (hW : Env W) => format_no c v W hW.tab hck)
          have x8 : (Elt.chk c v != 0) = true := by rw [bne_iff_ne]; exact hck
          have x9 : (Elt.chk c v == 0) = false := beq_eq_false_iff_ne.2 hck
          clear hck
          generalize Elt.chk c v = ck at *
          go_wp2_with fail
          refine (HF.out _ eY).mono ?_
          rintro e w3 ⟨rfl, g3⟩
          have b3 := bY.trans (g3.mono bY.size)
          have r3 := rY.under g3
          have f0 := r3.thaw 0
          have f1 := r3.thaw 1
          obtain ⟨q0, q1⟩ := row2 r3
          have R3 := Lib.hid r3
          have B3 := Lib.hid b3
          clear g3 b3 r3 bY rY pY p0 p1
          have HZ := Lib.hid (set2_row (.int .i64 0) (.int .i64 0) R3.out)
          go_wp2_with fail
          exact bodyPost_ret (v := .tuple #[rdV 0 0, .int .i64 3]) (by obtain ⟨z0, z1⟩ := row2 HZ.out; simp [results, Tryz.results190, z0, z1, go_sem]) rfl ⟨rfl, set2_below B3.out (Nat.le_refl _)⟩
      · have f0 := r2.thaw 0
        have f1 := r2.thaw 1
        obtain ⟨q0, q1⟩ := row2 r2
        have R3 := Lib.hid r2
        have B3 := Lib.hid b2
        clear b2 r2 hE2
        have HZ := Lib.hid (set2_row (.int .i64 0) (.int .i64 0) R3.out)
        go_wp2_with fail
        exact bodyPost_ret (v := .tuple #[rdV 0 0, .int .i64 3]) (by obtain ⟨z0, z1⟩ := row2 HZ.out; simp [results, Tryz.results190, z0, z1, go_sem]) rfl ⟨rfl, set2_below B3.out (Nat.le_refl _)⟩
    · have HL := Lib.hid (show ∀ c, Elt.Ex c → s1 ≠ S [Elt.lt c] from fun c hc e => hl ⟨c, hc, e⟩)
      clear hl
      go_enter Tryz.func190, Tryz.ntmps190
      go_wp2_with fail
      generalize w.alloc (.cells #[.int .i64 0, .int .i64 0] 99) = W0 at *
      refine (byLetter_no s1 _ HL.out).mono ?_
      rintro e w1 ⟨rfl, rfl⟩
      go_wp2_with fail
      refine (HA.out _ hE0).mono ?_
      rintro e w2 ⟨⟨v, er, rfl, hv⟩, g2⟩
      have b2 := b0.trans (g2.mono b0.size)
      have r2 := r0.under g2
      clear g2 b0 r0 hE0 HA hv
      have f0 := r2.thaw 0
      have f1 := r2.thaw 1
      obtain ⟨q0, q1⟩ := row2 r2
      have R3 := Lib.hid r2
      have B3 := Lib.hid b2
      clear b2 r2
      have HZ := Lib.hid (set2_row (.int .i64 0) (.int .i64 0) R3.out)
      go_wp2_with fail
      exact bodyPost_ret (v := .tuple #[rdV 0 0, .int .i64 3]) (by obtain ⟨z0, z1⟩ := row2 HZ.out; simp [results, Tryz.results190, z0, z1, go_sem]) rfl ⟨rfl, set2_below B3.out (Nat.le_refl _)⟩
end Go.Proofs.YtfnlgfacadmjpaaGreatDoor.El
namespace Go.Proofs.YtfnlgfacadmjpaaGreatDoor.El
open Go.RowKit

def tP : ByteArray := S [80, 49, 48, 49, 51, 50]
def tE : ByteArray := S [69, 45, 48, 48, 53, 55]
theorem tP_is : S (Elt.txt 1 10132) = tP := by decide +kernel
theorem tE_is : S (Elt.txt 4 (-57)) = tE := by decide +kernel
theorem tP_same : (tP.toList == [80, 49, 48, 49, 51, 50]) = true := by rw [ByteArray.toList_eq]; rfl
theorem form_a (w : World) (hE : Env w) : Calls Tryz.prog 68 #[.agg #[.int .i64 1, .int .i64 10132]] w fun e w' => e = .returned (.tuple #[.string tP, .int .i64 0]) ∧ Below w.heap.size w w' := by
  have h := format_yes 1 10132 w hE (by decide +kernel)
  rw [tP_is] at h
  exact h
theorem form_b (w : World) (hE : Env w) : Calls Tryz.prog 68 #[.agg #[.int .i64 4, .int .i64 (-57)]] w fun e w' => e = .returned (.tuple #[.string tE, .int .i64 0]) ∧ Below w.heap.size w w' := by
  have h := format_yes 4 (-57) w hE (by decide +kernel)
  rw [tE_is] at h
  exact h
theorem parse_b (w : World) (hE : Env w) : Calls Tryz.prog 190 #[.string tE] w fun e w' => e = .returned (.tuple #[rdV 4 (-57), .int .i64 0]) ∧ Below w.heap.size w w' := by
  have h := parse_yes 4 (-57) w hE (by decide +kernel)
  rw [tE_is] at h
  exact h
theorem tE_same : (tE.toList == [69, 45, 48, 48, 53, 55]) = true := by rw [ByteArray.toList_eq]; rfl
theorem eq_reading (a b a' b' : Int) (w : World) :
    (Op.equalIn 10000 99 (.agg #[.int .i64 a, .int .i64 b]) (.agg #[.int .i64 a', .int .i64 b'])).run Tryz.prog w = .ok (a == a' && b == b') w := by
  have u3 := Tryz.underlying3
  have a3 := Tryz.isAgg3
  have z3 := Tryz.sizeOf3
  have hS : Tryz.prog.underlying 99 = some (.struct (Tryz.prog.fieldsOf 99)) := by kernel_rfl
  rw [show (10000 : Nat) = 9999 + 1 from rfl, run_equalIn_agg w 9999 99 _ _ hS (by kernel_rfl)]
  simp only [Program.fieldsOf, Tryz.underlying99]
  go_simp
  by_cases h1 : a = a' <;> by_cases h2 : b = b' <;> simp [h1, h2]
attribute [local go_sem] eq_reading
end Go.Proofs.YtfnlgfacadmjpaaGreatDoor.El
namespace Go.Proofs.YtfnlgfacadmjpaaGreatDoor.El
open Go.RowKit

theorem refInfo1 : Ending.returned (.tuple #[.agg #[.string ⟨#[80]⟩, .int .i64 8000, .int .i64 11000, .int .i64 5], .int .i64 0]) = .returned (.tuple #[infoV 1, .int .i64 0]) := by kernel_rfl
set_option maxHeartbeats 1000000 in
theorem refDescribe1 (w : World) :
    Calls Tryz.prog 116 #[.int .i64 1] w fun e w' => e = .returned (.tuple #[infoV 1, .int .i64 0]) ∧ Below w.heap.size w w' := by
  rw [← refInfo1]
  go_enter Tryz.func116, Tryz.ntmps116
  go_wp2_with fail
  exact bodyPost_ret (v := .tuple #[.agg #[.string ⟨#[80]⟩, .int .i64 8000, .int .i64 11000, .int .i64 5], .int .i64 0]) (by simp [results, Tryz.results116, go_sem]) rfl ⟨rfl, ((Below.refl _ _).alloc (Nat.le_refl _) _).alloc (by simp) _⟩
theorem refInfo2 : Ending.returned (.tuple #[.agg #[.string ⟨#[84]⟩, .int .i64 1800, .int .i64 3300, .int .i64 4], .int .i64 0]) = .returned (.tuple #[infoV 2, .int .i64 0]) := by kernel_rfl
set_option maxHeartbeats 1000000 in
theorem refDescribe2 (w : World) :
    Calls Tryz.prog 116 #[.int .i64 2] w fun e w' => e = .returned (.tuple #[infoV 2, .int .i64 0]) ∧ Below w.heap.size w w' := by
  rw [← refInfo2]
  go_enter Tryz.func116, Tryz.ntmps116
  go_wp2_with fail
  exact bodyPost_ret (v := .tuple #[.agg #[.string ⟨#[84]⟩, .int .i64 1800, .int .i64 3300, .int .i64 4], .int .i64 0]) (by simp [results, Tryz.results116, go_sem]) rfl ⟨rfl, ((Below.refl _ _).alloc (Nat.le_refl _) _).alloc (by simp) _⟩
theorem refInfo3 : Ending.returned (.tuple #[.agg #[.string ⟨#[68]⟩, .int .i64 1800, .int .i64 3300, .int .i64 4], .int .i64 0]) = .returned (.tuple #[infoV 3, .int .i64 0]) := by kernel_rfl
set_option maxHeartbeats 1000000 in
theorem refDescribe3 (w : World) :
    Calls Tryz.prog 116 #[.int .i64 3] w fun e w' => e = .returned (.tuple #[infoV 3, .int .i64 0]) ∧ Below w.heap.size w w' := by
  rw [← refInfo3]
  go_enter Tryz.func116, Tryz.ntmps116
  go_wp2_with fail
  exact bodyPost_ret (v := .tuple #[.agg #[.string ⟨#[68]⟩, .int .i64 1800, .int .i64 3300, .int .i64 4], .int .i64 0]) (by simp [results, Tryz.results116, go_sem]) rfl ⟨rfl, ((Below.refl _ _).alloc (Nat.le_refl _) _).alloc (by simp) _⟩
end Go.Proofs.YtfnlgfacadmjpaaGreatDoor.El
namespace Go.Proofs.YtfnlgfacadmjpaaGreatDoor.El
open Go.RowKit

theorem refInfo10 : Ending.returned (.tuple #[.agg #[.string ⟨#[74]⟩, .int .i64 4400, .int .i64 6200, .int .i64 4], .int .i64 0]) = .returned (.tuple #[infoV 10, .int .i64 0]) := by kernel_rfl
set_option maxHeartbeats 1000000 in
theorem refDescribe10 (w : World) :
    Calls Tryz.prog 116 #[.int .i64 10] w fun e w' => e = .returned (.tuple #[infoV 10, .int .i64 0]) ∧ Below w.heap.size w w' := by
  rw [← refInfo10]
  go_enter Tryz.func116, Tryz.ntmps116
  go_wp2_with fail
  exact bodyPost_ret (v := .tuple #[.agg #[.string ⟨#[74]⟩, .int .i64 4400, .int .i64 6200, .int .i64 4], .int .i64 0]) (by simp [results, Tryz.results116, go_sem]) rfl ⟨rfl, ((Below.refl _ _).alloc (Nat.le_refl _) _).alloc (by simp) _⟩
theorem refInfo11 : Ending.returned (.tuple #[.agg #[.string ⟨#[75]⟩, .int .i64 2000, .int .i64 2900, .int .i64 4], .int .i64 0]) = .returned (.tuple #[infoV 11, .int .i64 0]) := by kernel_rfl
set_option maxHeartbeats 1000000 in
theorem refDescribe11 (w : World) :
    Calls Tryz.prog 116 #[.int .i64 11] w fun e w' => e = .returned (.tuple #[infoV 11, .int .i64 0]) ∧ Below w.heap.size w w' := by
  rw [← refInfo11]
  go_enter Tryz.func116, Tryz.ntmps116
  go_wp2_with fail
  exact bodyPost_ret (v := .tuple #[.agg #[.string ⟨#[75]⟩, .int .i64 2000, .int .i64 2900, .int .i64 4], .int .i64 0]) (by simp [results, Tryz.results116, go_sem]) rfl ⟨rfl, ((Below.refl _ _).alloc (Nat.le_refl _) _).alloc (by simp) _⟩
end Go.Proofs.YtfnlgfacadmjpaaGreatDoor.El
