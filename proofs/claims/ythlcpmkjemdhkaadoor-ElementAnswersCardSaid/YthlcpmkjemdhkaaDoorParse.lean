/- Contract of Parse of the program: the reading whose text it is, or ErrSyntax. -/
import Derived.Test.YthlcpmkjemdhkaaDoorForm
namespace Go.Proofs.YthlcpmkjemdhkaaDoor
open Go.RowKit

/-- What Atoi answers, whatever the text: a number and no error, or some error. -/
theorem atoi_any (s : ByteArray) (w : World) (hE : Env w) (hs : s.size ≤ 100000) :
    Calls Tryd.prog 44 #[.string s] w fun e w' => (∃ v er, e = .returned (.tuple #[.int .i64 v, er]) ∧ ((Lib.atoiAll s.data.toList = .ok v ∧ er = .nilIface) ∨ ((∀ v, Lib.atoiAll s.data.toList ≠ .ok v) ∧ ∃ te pe, er = .iface te pe))) ∧ Below w.heap.size w w' := by
  rcases h : Lib.atoiAll s.data.toList with v | _ | _
  · exact (Tryd.strconv_Atoi_ok s (by omega) v h w).mono fun e w' ⟨he, hw⟩ => ⟨⟨v, _, he, .inl ⟨rfl, rfl⟩⟩, by
      rcases hw with rfl | ⟨t, rfl⟩
      · exact Below.refl _ _
      · exact Lib.bytesWorld_below _ _ _⟩
  · obtain ⟨te, pe, hc⟩ := hE.syn
    exact (Any.strconv_Atoi_syntax Tryd.laysC172 s (by omega) h _ w hc (.inr ⟨te, pe, rfl⟩)).mono fun e w' ⟨N, he, _, _, hb⟩ => ⟨⟨_, _, he, .inr ⟨fun v => (by intro h; cases h), _, _, rfl⟩⟩, hb⟩
  · obtain ⟨te, pe, hc⟩ := hE.rng
    exact (Any.strconv_Atoi_range Tryd.laysC172 s (by omega) h _ w hc (.inr ⟨te, pe, rfl⟩)).mono fun e w' ⟨N, he, _, _, hb⟩ => ⟨⟨_, _, he, .inr ⟨fun v => (by intro h; cases h), _, _, rfl⟩⟩, hb⟩
theorem ext_head (a : UInt8) (l : List UInt8) : (S (a :: l)).extract 0 1 = S [a] := by
  apply ByteArray.ext; rw [ByteArray.data_extract]; simp [S]
theorem ext_tail (a : UInt8) (l : List UInt8) : (S (a :: l)).extract 1 (S (a :: l)).size = S l := by
  apply ByteArray.ext; rw [ByteArray.data_extract]; simp [S, ByteArray.size]
theorem nil_iface_ne (te : TypeId) (pe : Value) (w : World) : (Op.equalIn 10000 75 (.iface te pe) .nilIface).run Tryd.prog w = .ok false w := by kernel_rfl
set_option maxRecDepth 100000 in
set_option maxHeartbeats 1000000 in
theorem parse_yes (c v : Int) (w : World) (hE : Env w) (h : Elt.Val c v) :
    Calls Tryd.prog 28 #[.string (S (Elt.txt c v))] w fun e w' => e = .returned (.tuple #[rdV c v, .int .i64 0]) ∧ Below w.heap.size w w' := by
  have b0 : Below w.heap.size w (w.alloc (.cells #[.int .i64 0, .int .i64 0] 47)) := (Below.refl _ _).alloc (Nat.le_refl _) _
  have r0 := Row.new w #[.int .i64 0, .int .i64 0] 47
  have hE0 := hE.under b0
  have x1 : (S (Elt.txt c v)).extract 0 1 = S [Elt.lt c] := ext_head _ _
  have x2 : (S (Elt.txt c v)).extract 1 (S (Elt.txt c v)).size = S (Elt.tail c v) := ext_tail _ _
  have x3 : Lib.atoiAll (S (Elt.tail c v)).data.toList = .ok v := by rw [S_list]; exact Elt.tail_num h
  obtain ⟨l1, l2⟩ := Elt.tail_len h
  have x4 : (S (Elt.txt c v)).size = 1 + (Elt.tail c v).length := by rw [S_size]; unfold Elt.txt; rw [List.length_cons]; omega
  have x5 : (S (Elt.tail c v)).size ≤ 100000 := by rw [S_size]; omega
  have x6 : ((S (Elt.txt c v)).toList == []) = false := by
    rw [ByteArray.toList_eq, S_list]; rfl
  have x7 : ((S (Elt.txt c v)).toList == (S (Elt.txt c v)).toList) = true := beq_self_eq_true _
  have HV := Lib.hid h; clear h
  have HF := Lib.hid (fun W (hW : Env W) => format_yes c v W hW HV.out)
  have HA := Lib.hid (fun W (hW : Env W) => atoi_any (S (Elt.tail c v)) W hW x5)
  generalize S (Elt.tail c v) = st at *
  generalize (Elt.tail c v).length = tl at *
  generalize S (Elt.txt c v) = s at *
  rw [x4] at x2
  clear hE x5
  go_enter Tryd.func28, Tryd.ntmps28
  go_wp2_with fail
  generalize w.alloc (.cells #[.int .i64 0, .int .i64 0] 47) = W0 at *
  refine (byLetter_yes c _ HV.out.1).mono ?_
  rintro e w1 ⟨rfl, rfl⟩
  go_wp2_with fail
  refine (HA.out _ hE0).mono ?_
  rintro e w2 ⟨⟨v', er, rfl, hv⟩, g2⟩
  rw [x3] at hv
  rcases hv with ⟨hv, rfl⟩ | ⟨hv, -⟩
  · obtain rfl : v = v' := by injection hv
    have b2 := b0.trans (g2.mono b0.size)
    have r2 := r0.under g2
    have hE2 := hE0.under g2
    clear g2 b0 r0 hE0 hv x3
    go_upto_region 8 with fail
    have rR := Row.new w2 #[.int .i64 c, .int .i64 v] 47
    refine forget (fun Y => Below w.heap.size w Y ∧ Env Y ∧ Row Y w.heap.size 47 #[.int .i64 0, .int .i64 0] ∧ Row Y w2.heap.size 47 #[.int .i64 c, .int .i64 v]) ⟨b2.alloc b2.size _, hE2.alloc _, r2.alloc _, rR⟩ ?_
    clear rR b2 r2 hE2
    rintro Y ⟨bY, eY, rY, pY⟩
    obtain ⟨p0, p1⟩ := row2 pY
    go_wp2_with fail
    refine (HF.out _ eY).mono ?_
    rintro e w3 ⟨rfl, g3⟩
    have b3 := bY.trans (g3.mono bY.size)
    have r3 := rY.under g3
    obtain ⟨p0', p1'⟩ := row2 (pY.under g3)
    have f0 := r3.thaw 0
    have f1 := r3.thaw 1
    obtain ⟨q0, q1⟩ := row2 r3
    have R3 := Lib.hid r3
    have B3 := Lib.hid b3
    clear g3 b3 r3 bY rY pY p0 p1
    have HZ := Lib.hid (set2_row (.int .i64 c) (.int .i64 v) R3.out)
    go_wp2_with fail
    exact bodyPost_ret (v := .tuple #[rdV c v, .int .i64 0]) (by obtain ⟨z0, z1⟩ := row2 HZ.out; simp [results, Tryd.results28, z0, z1, go_sem]) rfl ⟨rfl, set2_below B3.out (Nat.le_refl _)⟩
  · exact absurd rfl (hv v)
/-- No reading has this text. -/
def NoTxt (s : ByteArray) : Prop := ∀ c v, Elt.Val c v → s ≠ S (Elt.txt c v)
set_option maxRecDepth 100000 in
set_option maxHeartbeats 1000000 in
theorem parse_no (s : ByteArray) (w : World) (hE : Env w) (hs : s.size ≤ 100000) (h : NoTxt s) :
    Calls Tryd.prog 28 #[.string s] w fun e w' => e = .returned (.tuple #[rdV 0 0, .int .i64 3]) ∧ Below w.heap.size w w' := by
  have b0 : Below w.heap.size w (w.alloc (.cells #[.int .i64 0, .int .i64 0] 47)) := (Below.refl _ _).alloc (Nat.le_refl _) _
  have r0 := Row.new w #[.int .i64 0, .int .i64 0] 47
  have hE0 := hE.under b0
  have HN := Lib.hid h; clear h hE
  by_cases hz : s.size = 0
  · have x6 : (s.toList == []) = true := by
      rw [ByteArray.toList_eq, beq_iff_eq]
      exact List.eq_nil_of_length_eq_zero (by rw [Array.length_toList]; exact hz)
    clear hE0
    go_enter Tryd.func28, Tryd.ntmps28
    go_wp2_with fail
    exact bodyPost_ret (v := .tuple #[rdV 0 0, .int .i64 3]) (by simp [results, Tryd.results28, go_sem]) rfl ⟨rfl, b0⟩
  · have x6 : (s.toList == []) = false := by
      rw [ByteArray.toList_eq, beq_eq_false_iff_ne]
      intro e
      exact hz (by have := congrArg List.length e; rw [Array.length_toList] at this; exact this)
    have hz1 : 1 ≤ s.size := by omega
    have HA := Lib.hid (fun W (hW : Env W) => atoi_any (s.extract 1 s.size) W hW (by rw [ByteArray.size_extract]; omega))
    generalize hst : s.extract 1 s.size = st at *
    generalize hs1 : s.extract 0 1 = s1 at *
    have HS := Lib.hid hst; clear hs
    by_cases hl : ∃ c, Elt.Ex c ∧ s1 = S [Elt.lt c]
    · obtain ⟨c, hc, rfl⟩ := hl
      have HC := Lib.hid hc; clear hc
      go_enter Tryd.func28, Tryd.ntmps28
      go_wp2_with fail
      generalize w.alloc (.cells #[.int .i64 0, .int .i64 0] 47) = W0 at *
      refine (byLetter_yes c _ HC.out).mono ?_
      rintro e w1 ⟨rfl, rfl⟩
      go_wp2_with fail
      refine (HA.out _ hE0).mono ?_
      rintro e w2 ⟨⟨v, er, rfl, hv⟩, g2⟩
      have b2 := b0.trans (g2.mono b0.size)
      have r2 := r0.under g2
      have hE2 := hE0.under g2
      clear g2 b0 r0 hE0 HA
      rcases hv with ⟨-, rfl⟩ | ⟨-, te, pe, rfl⟩
      · go_upto_region 8 with fail
        have rR := Row.new w2 #[.int .i64 c, .int .i64 v] 47
        refine forget (fun Y => Below w.heap.size w Y ∧ Env Y ∧ Row Y w.heap.size 47 #[.int .i64 0, .int .i64 0] ∧ Row Y w2.heap.size 47 #[.int .i64 c, .int .i64 v]) ⟨b2.alloc b2.size _, hE2.alloc _, r2.alloc _, rR⟩ ?_
        clear rR b2 r2 hE2
        rintro Y ⟨bY, eY, rY, pY⟩
        obtain ⟨p0, p1⟩ := row2 pY
        by_cases hval : Elt.Val c v
        · have x8 : ((S (Elt.txt c v)).toList == s.toList) = false := toList_ne (fun e => HN.out c v hval e.symm)
          have HF := Lib.hid (fun W (hW : Env W) => format_yes c v W hW hval)
          generalize S (Elt.txt c v) = tx at *
          go_wp2_with fail
          refine (HF.out _ eY).mono ?_
          rintro e w3 ⟨rfl, g3⟩
          have b3 := bY.trans (g3.mono bY.size)
          have r3 := rY.under g3
          have f0 := r3.thaw 0
          have f1 := r3.thaw 1
          obtain ⟨q0, q1⟩ := row2 r3
          have R3 := Lib.hid r3
          have B3 := Lib.hid b3
          clear g3 b3 r3 bY rY pY p0 p1
          have HZ := Lib.hid (set2_row (.int .i64 0) (.int .i64 0) R3.out)
          have x9 : (!(tx.toList == s.toList)) = true := by rw [x8]; rfl
          have x10 : (tx.toList != s.toList) = true := x9
          go_wp2_with fail
          exact bodyPost_ret (v := .tuple #[rdV 0 0, .int .i64 3]) (by obtain ⟨z0, z1⟩ := row2 HZ.out; simp [results, Tryd.results28, z0, z1, go_sem]) rfl ⟨rfl, set2_below B3.out (Nat.le_refl _)⟩
        · have hck : Elt.chk c v ≠ 0 := fun e => hval (Elt.val_of e)
          have HF := Lib.hid (fun W (hW : Env W) => format_no c v W hW.tab hck)
          have x8 : (Elt.chk c v != 0) = true := by rw [bne_iff_ne]; exact hck
          have x9 : (Elt.chk c v == 0) = false := beq_eq_false_iff_ne.2 hck
          clear hck
          generalize Elt.chk c v = ck at *
          go_wp2_with fail
          refine (HF.out _ eY).mono ?_
          rintro e w3 ⟨rfl, g3⟩
          have b3 := bY.trans (g3.mono bY.size)
          have r3 := rY.under g3
          have f0 := r3.thaw 0
          have f1 := r3.thaw 1
          obtain ⟨q0, q1⟩ := row2 r3
          have R3 := Lib.hid r3
          have B3 := Lib.hid b3
          clear g3 b3 r3 bY rY pY p0 p1
          have HZ := Lib.hid (set2_row (.int .i64 0) (.int .i64 0) R3.out)
          go_wp2_with fail
          exact bodyPost_ret (v := .tuple #[rdV 0 0, .int .i64 3]) (by obtain ⟨z0, z1⟩ := row2 HZ.out; simp [results, Tryd.results28, z0, z1, go_sem]) rfl ⟨rfl, set2_below B3.out (Nat.le_refl _)⟩
      · have f0 := r2.thaw 0
        have f1 := r2.thaw 1
        obtain ⟨q0, q1⟩ := row2 r2
        have R3 := Lib.hid r2
        have B3 := Lib.hid b2
        clear b2 r2 hE2
        have HZ := Lib.hid (set2_row (.int .i64 0) (.int .i64 0) R3.out)
        go_wp2_with fail
        exact bodyPost_ret (v := .tuple #[rdV 0 0, .int .i64 3]) (by obtain ⟨z0, z1⟩ := row2 HZ.out; simp [results, Tryd.results28, z0, z1, go_sem]) rfl ⟨rfl, set2_below B3.out (Nat.le_refl _)⟩
    · have HL := Lib.hid (show ∀ c, Elt.Ex c → s1 ≠ S [Elt.lt c] from fun c hc e => hl ⟨c, hc, e⟩)
      clear hl
      go_enter Tryd.func28, Tryd.ntmps28
      go_wp2_with fail
      generalize w.alloc (.cells #[.int .i64 0, .int .i64 0] 47) = W0 at *
      refine (byLetter_no s1 _ HL.out).mono ?_
      rintro e w1 ⟨rfl, rfl⟩
      go_wp2_with fail
      refine (HA.out _ hE0).mono ?_
      rintro e w2 ⟨⟨v, er, rfl, hv⟩, g2⟩
      have b2 := b0.trans (g2.mono b0.size)
      have r2 := r0.under g2
      clear g2 b0 r0 hE0 HA hv
      have f0 := r2.thaw 0
      have f1 := r2.thaw 1
      obtain ⟨q0, q1⟩ := row2 r2
      have R3 := Lib.hid r2
      have B3 := Lib.hid b2
      clear b2 r2
      have HZ := Lib.hid (set2_row (.int .i64 0) (.int .i64 0) R3.out)
      go_wp2_with fail
      exact bodyPost_ret (v := .tuple #[rdV 0 0, .int .i64 3]) (by obtain ⟨z0, z1⟩ := row2 HZ.out; simp [results, Tryd.results28, z0, z1, go_sem]) rfl ⟨rfl, set2_below B3.out (Nat.le_refl _)⟩
end Go.Proofs.YthlcpmkjemdhkaaDoor
