/- The contract of the reference's Parse; whatever the text, both functions answer the same. -/
import Derived.Test.YtfnlgfacadmjpaaGreatDoorERFmt
namespace Go.Proofs.YtfnlgfacadmjpaaGreatDoor.El
open Go.RowKit

/-- The value of digits; none if another byte is among them. -/
def dec (l : List UInt8) : Option Nat := Lib.decFrom 0 l
theorem decFrom_snoc (c : UInt8) : ∀ (l : List UInt8) (a : Nat), Lib.decFrom a (l ++ [c]) = (Lib.decFrom a l).bind fun n => (Lib.digitVal c).map fun d => n * 10 + d
  | [], a => by simp only [List.nil_append, Lib.decFrom]; cases Lib.digitVal c <;> rfl
  | b :: r, a => by
    simp only [List.cons_append, Lib.decFrom]
    cases Lib.digitVal b with
    | none => rfl
    | some d => exact decFrom_snoc c r _
theorem take_snoc (s : ByteArray) (k : Nat) (h : k < s.size) : s.data.toList.take (k + 1) = s.data.toList.take k ++ [s[k]] := by
  rw [List.take_succ_eq_append_getElem (by simpa using h)]; rfl
theorem digit_yes {c : UInt8} (h1 : 48 ≤ c.toNat) (h2 : c.toNat ≤ 57) : Lib.digitVal c = some (c.toNat - 48) := by unfold Lib.digitVal; rw [if_pos ⟨h1, h2⟩]
theorem digit_no {c : UInt8} (h : ¬ (48 ≤ c.toNat ∧ c.toNat ≤ 57)) : Lib.digitVal c = none := by unfold Lib.digitVal; rw [if_neg h]
theorem dec_none {s : ByteArray} {k : Nat} (h : k < s.size) (hd : ¬ (48 ≤ s[k].toNat ∧ s[k].toNat ≤ 57)) : dec s.data.toList = none := by
  have key : ∀ (l : List UInt8) (a : Nat) (j : Nat) (hj : j < l.length), Lib.digitVal l[j] = none → Lib.decFrom a l = none := by
    intro l
    induction l with
    | nil => intro a j hj; simp at hj
    | cons b r ih =>
      intro a j hj hn
      simp only [Lib.decFrom]
      cases j with
      | zero => simp only [List.getElem_cons_zero] at hn; rw [hn]
      | succ j =>
        cases Lib.digitVal b with
        | none => rfl
        | some d => exact ih _ j (by simpa using hj) (by simpa using hn)
  exact key _ _ k (by simpa using h) (digit_no hd)
/-- What stands behind the letter; a sign in front of it; what stands behind the sign. -/
def stOf (s : ByteArray) : ByteArray := s.extract 1 s.size
def neg (s : ByteArray) : Bool := (stOf s).data.toList.head? == some 45
def restOf (s : ByteArray) : ByteArray := if neg s then (stOf s).extract 1 (stOf s).size else stOf s
def signOf (s : ByteArray) : Int := if neg s then -1 else 1
/-- What Parse answers behind the letter c. -/
def pout (s : ByteArray) (c : Int) : Int × Int × Int := match dec (restOf s).data.toList with
  | none => (0, 0, 3)
  | some n => if Elt.Val c (signOf s * n) ∧ S (Elt.txt c (signOf s * n)) = s then (c, signOf s * n, 0) else (0, 0, 3)
set_option maxRecDepth 100000 in
set_option maxHeartbeats 4000000 in
theorem refParse_letter (s : ByteArray) (c : Int) (w : World) (hx : Elt.Ex c) (h2 : 2 ≤ s.size) (h8 : s.size ≤ 8) (h1 : s.extract 0 1 = S [Elt.lt c]) :
    Calls Tryz.prog 96 #[.string s] w fun e w' => e = .returned (.tuple #[rdV (pout s c).1 (pout s c).2.1, .int .i64 (pout s c).2.2]) ∧ Below w.heap.size w w' := by
  have b0 : Below w.heap.size w (w.alloc (.cells #[.int .i64 0, .int .i64 0] 99)) := (Below.refl _ _).alloc (Nat.le_refl _) _
  have r0 := Row.new w #[.int .i64 0, .int .i64 0] 99
  have HL := Lib.hid (fun W => refByLetter_yes c W hx)
  have c1 := hx.1
  have c2 := hx.2
  have hsz : (stOf s).size + 1 = s.size := by unfold stOf; rw [ByteArray.size_extract]; omega
  have hst : s.extract 1 s.size = stOf s := rfl
  have HS : Hid (restOf s = (if neg s then (stOf s).extract 1 (stOf s).size else stOf s) ∧ signOf s = (if neg s then -1 else 1)) := Lib.hid ⟨rfl, rfl⟩
  have hneg : ∀ h : 0 < (stOf s).size, neg s = decide ((stOf s)[0]'h = 45) := by
    intro h
    unfold neg
    have hl : 0 < (stOf s).data.toList.length := by rw [Array.length_toList]; show 0 < (stOf s).size; omega
    rw [List.head?_eq_getElem?, List.getElem?_eq_getElem hl, Bool.eq_iff_iff, beq_iff_eq, decide_eq_true_iff, Option.some.injEq]
    rfl
  have HN := Lib.hid hneg; clear hneg
  generalize stOf s = st at *
  generalize hS1 : S [Elt.lt c] = sc at *
  clear hx hS1
  have hp0 : 0 < st.size := by omega
  have HN := Lib.hid (HN.out hp0)
  by_cases hm : st[0]'hp0 = 45
  · have hu : ∃ u, st.extract 1 st.size = u := ⟨_, rfl⟩
    obtain ⟨u, hu⟩ := hu
    have husz : u.size + 1 = st.size := by rw [← hu, ByteArray.size_extract]; omega
    have HU : Hid (restOf s = u ∧ signOf s = -1) := Lib.hid (by rw [HS.out.1, HS.out.2, HN.out, decide_eq_true hm]; exact ⟨hu, rfl⟩)
    clear HS HN
    have m1 : (((st[0]'hp0).toNat : Int) == 45) = true := by rw [hm]; rfl
    have hub : u.size ≤ 6 := by omega
    clear hm
    go_enter Tryz.func96, Tryz.ntmps96
    go_wp2_with fail
    generalize w.alloc (.cells #[.int .i64 0, .int .i64 0] 99) = W00 at *
    refine (HL.out _).mono ?_
    rintro e W0 ⟨rfl, g0⟩
    have B0 := Lib.hid (b0.trans (g0.mono b0.size))
    have R0 := Lib.hid (r0.under g0)
    clear b0 r0 g0
    go_upto_region 9 with fail
    go_wp2_with fail
    go_loop [8, 9] (fun n i => ∃ k m : Nat, k ≤ u.size ∧ i = .int .i64 k ∧ n = .int .i64 m ∧ Hid (dec (u.data.toList.take k) = some m ∧ m < 10 ^ k)) (fun _ i => u.size - (intOf i).toNat)
    case atStart => exact ⟨0, 0, by omega, rfl, rfl, Lib.hid ⟨by simp [dec, Lib.decFrom], by simp⟩⟩
    case round =>
      obtain ⟨k, m, hk, rfl, rfl, hm⟩ := hrel
      by_cases hlt : k < u.size
      · have hmb : m < 10000000 := by
          have h1 := hm.out.2
          have h2 : 10 ^ k ≤ 10 ^ 7 := Nat.pow_le_pow_right (by omega) (by omega)
          omega
        have hc := u[k].toNat_lt
        by_cases c1 : 48 ≤ u[k].toNat
        · have c3 : (48 : Int) ≤ (u[k].toNat : Int) := by omega
          by_cases c2 : u[k].toNat ≤ 57
          · have c4 : (u[k].toNat : Int) ≤ 57 := by omega
            have G : Hid (dec (u.data.toList.take (k + 1)) = some (m * 10 + (u[k].toNat - 48)) ∧ m * 10 + (u[k].toNat - 48) < 10 ^ (k + 1)) := Lib.hid (by
              have h1 := hm.out.1
              have h2 := hm.out.2
              refine ⟨?_, by rw [Nat.pow_succ]; omega⟩
              unfold dec at h1 ⊢
              rw [take_snoc u k hlt, decFrom_snoc, h1, digit_yes c1 c2]
              rfl)
            have e9 : (m : Int) * 10 + ((u[k].toNat : Int) - 48) = ((m * 10 + (u[k].toNat - 48) : Nat) : Int) := by omega
            have E9 := Lib.hid e9; clear e9
            go_wp2_with fail
            go_round
            case rel => exact ⟨k + 1, m * 10 + (u[k].toNat - 48), by omega, by go_num, by rw [← E9.out], G⟩
            case measure => simp [intOf]; omega
          · have c4 : ¬ (u[k].toNat : Int) ≤ 57 := by omega
            have ED : Hid (pout s c = (0, 0, 3)) := Lib.hid (by unfold pout; rw [HU.out.1, dec_none hlt (fun h => c2 h.2)])
            have f0 := R0.out.thaw 0
            have f1 := R0.out.thaw 1
            obtain ⟨q0, q1⟩ := row2 R0.out
            have HZ := Lib.hid (set2_row (.int .i64 0) (.int .i64 0) R0.out)
            go_wp2_with fail
            exact bodyPost_ret (v := .tuple #[rdV 0 0, .int .i64 3]) (by obtain ⟨z0, z1⟩ := row2 HZ.out; simp [results, Tryz.results96, z0, z1, go_sem]) rfl ⟨by rw [ED.out], set2_below B0.out (Nat.le_refl _)⟩
        · have c3 : ¬ (48 : Int) ≤ (u[k].toNat : Int) := by omega
          have ED : Hid (pout s c = (0, 0, 3)) := Lib.hid (by unfold pout; rw [HU.out.1, dec_none hlt (fun h => c1 h.1)])
          have f0 := R0.out.thaw 0
          have f1 := R0.out.thaw 1
          obtain ⟨q0, q1⟩ := row2 R0.out
          have HZ := Lib.hid (set2_row (.int .i64 0) (.int .i64 0) R0.out)
          go_wp2_with fail
          exact bodyPost_ret (v := .tuple #[rdV 0 0, .int .i64 3]) (by obtain ⟨z0, z1⟩ := row2 HZ.out; simp [results, Tryz.results96, z0, z1, go_sem]) rfl ⟨by rw [ED.out], set2_below B0.out (Nat.le_refl _)⟩
      · have hke : k = u.size := by omega
        have hmb : m < 10000000 := by
          have h1 := hm.out.2
          have h2 : 10 ^ k ≤ 10 ^ 7 := Nat.pow_le_pow_right (by omega) (by omega)
          omega
        have DU : Hid (dec u.data.toList = some m) := Lib.hid (by
          have := hm.out.1
          rw [List.take_of_length_le (by rw [Array.length_toList, hke]; exact Nat.le_refl _)] at this
          exact this)
        clear hke hm
        obtain ⟨x, hx⟩ : ∃ x : Int, (-1) * (m : Int) = x := ⟨_, rfl⟩
        have hxb : -10000000 < x ∧ x < 10000000 := by omega
        obtain ⟨hx1, hx2⟩ := hxb
        have PO : Hid (pout s c = if Elt.Val c x ∧ S (Elt.txt c x) = s then (c, x, 0) else (0, 0, 3)) := Lib.hid (by
          unfold pout; rw [HU.out.1, DU.out, HU.out.2]; simp only; rw [hx])
        go_upto_region 17 with fail
        have rR := Row.new W0 #[.int .i64 c, .int .i64 x] 99
        refine forget (fun Y => Below w.heap.size w Y ∧ Row Y w.heap.size 99 #[.int .i64 0, .int .i64 0] ∧ Row Y W0.heap.size 99 #[.int .i64 c, .int .i64 x]) ⟨B0.out.alloc B0.out.size _, R0.out.alloc _, rR⟩ ?_
        clear rR
        rintro Y ⟨bY, rY, pY⟩
        obtain ⟨p0, p1⟩ := row2 pY
        clear hx
        by_cases hval : Elt.Val c x
        · have HF := Lib.hid (fun W => refFormat_yes c x W hval)
          by_cases htx : S (Elt.txt c x) = s
          · have P1 : Hid (pout s c = (c, x, 0)) := Lib.hid (by rw [PO.out, if_pos ⟨hval, htx⟩])
            rw [htx] at HF
            clear htx hval
            have x8 : (s.toList == s.toList) = true := beq_self_eq_true _
            go_wp2_with fail
            refine (HF.out _).mono ?_
            rintro e w3 ⟨rfl, g3⟩
            have b3 := bY.trans (g3.mono bY.size)
            have r3 := rY.under g3
            obtain ⟨p0', p1'⟩ := row2 (pY.under g3)
            have f0 := r3.thaw 0
            have f1 := r3.thaw 1
            obtain ⟨q0, q1⟩ := row2 r3
            have R3 := Lib.hid r3
            have B3 := Lib.hid b3
            clear g3 b3 r3 bY rY pY p0 p1
            have HZ := Lib.hid (set2_row (.int .i64 c) (.int .i64 x) R3.out)
            go_wp2_with fail
            exact bodyPost_ret (v := .tuple #[rdV c x, .int .i64 0]) (by obtain ⟨z0, z1⟩ := row2 HZ.out; simp [results, Tryz.results96, z0, z1, go_sem]) rfl ⟨by rw [P1.out], set2_below B3.out (Nat.le_refl _)⟩
          · have P1 : Hid (pout s c = (0, 0, 3)) := Lib.hid (by rw [PO.out, if_neg (fun h => htx h.2)])
            have x8 : ((S (Elt.txt c x)).toList == s.toList) = false := toList_ne htx
            have x10 : ((S (Elt.txt c x)).toList != s.toList) = true := by show (!_) = true; rw [x8]; rfl
            clear htx hval
            generalize S (Elt.txt c x) = tx at *
            go_wp2_with fail
            refine (HF.out _).mono ?_
            rintro e w3 ⟨rfl, g3⟩
            have b3 := bY.trans (g3.mono bY.size)
            have r3 := rY.under g3
            have f0 := r3.thaw 0
            have f1 := r3.thaw 1
            obtain ⟨q0, q1⟩ := row2 r3
            have R3 := Lib.hid r3
            have B3 := Lib.hid b3
            clear g3 b3 r3 bY rY pY p0 p1
            have HZ := Lib.hid (set2_row (.int .i64 0) (.int .i64 0) R3.out)
            go_wp2_with fail
            exact bodyPost_ret (v := .tuple #[rdV 0 0, .int .i64 3]) (by obtain ⟨z0, z1⟩ := row2 HZ.out; simp [results, Tryz.results96, z0, z1, go_sem]) rfl ⟨by rw [P1.out], set2_below B3.out (Nat.le_refl _)⟩
        · have P1 : Hid (pout s c = (0, 0, 3)) := Lib.hid (by rw [PO.out, if_neg (fun h => hval h.1)])
          have hck : Elt.chk c x ≠ 0 := fun e => hval (Elt.val_of e)
          have HF := Lib.hid (fun W => refFormat_no c x W hck)
          have x8 : (Elt.chk c x != 0) = true := by rw [bne_iff_ne]; exact hck
          have x9 : (Elt.chk c x == 0) = false := beq_eq_false_iff_ne.2 hck
          clear hck hval
          generalize Elt.chk c x = ck at *
          go_wp2_with fail
          refine (HF.out _).mono ?_
          rintro e w3 ⟨rfl, g3⟩
          have b3 := bY.trans (g3.mono bY.size)
          have r3 := rY.under g3
          have f0 := r3.thaw 0
          have f1 := r3.thaw 1
          obtain ⟨q0, q1⟩ := row2 r3
          have R3 := Lib.hid r3
          have B3 := Lib.hid b3
          clear g3 b3 r3 bY rY pY p0 p1
          have HZ := Lib.hid (set2_row (.int .i64 0) (.int .i64 0) R3.out)
          go_wp2_with fail
          exact bodyPost_ret (v := .tuple #[rdV 0 0, .int .i64 3]) (by obtain ⟨z0, z1⟩ := row2 HZ.out; simp [results, Tryz.results96, z0, z1, go_sem]) rfl ⟨by rw [P1.out], set2_below B3.out (Nat.le_refl _)⟩
  · have HU : Hid (restOf s = st ∧ signOf s = 1) := Lib.hid (by rw [HS.out.1, HS.out.2, HN.out, decide_eq_false hm]; exact ⟨rfl, rfl⟩)
    clear HS HN
    have m0 : (st[0]'hp0).toNat ≠ 45 := fun e => hm (UInt8.toNat_inj.1 (by rw [e]; rfl))
    have m1 : (((st[0]'hp0).toNat : Int) == 45) = false := beq_eq_false_iff_ne.2 (by omega)
    clear m0
    clear hm
    obtain ⟨u, hu⟩ : ∃ u, u = st := ⟨_, rfl⟩
    subst hu
    have hub : u.size ≤ 7 := by omega
    go_enter Tryz.func96, Tryz.ntmps96
    go_wp2_with fail
    generalize w.alloc (.cells #[.int .i64 0, .int .i64 0] 99) = W00 at *
    refine (HL.out _).mono ?_
    rintro e W0 ⟨rfl, g0⟩
    have B0 := Lib.hid (b0.trans (g0.mono b0.size))
    have R0 := Lib.hid (r0.under g0)
    clear b0 r0 g0
    go_upto_region 9 with fail
    go_wp2_with fail
    go_loop [8, 9] (fun n i => ∃ k m : Nat, k ≤ u.size ∧ i = .int .i64 k ∧ n = .int .i64 m ∧ Hid (dec (u.data.toList.take k) = some m ∧ m < 10 ^ k)) (fun _ i => u.size - (intOf i).toNat)
    case atStart => exact ⟨0, 0, by omega, rfl, rfl, Lib.hid ⟨by simp [dec, Lib.decFrom], by simp⟩⟩
    case round =>
      obtain ⟨k, m, hk, rfl, rfl, hm⟩ := hrel
      by_cases hlt : k < u.size
      · have hmb : m < 10000000 := by
          have h1 := hm.out.2
          have h2 : 10 ^ k ≤ 10 ^ 7 := Nat.pow_le_pow_right (by omega) (by omega)
          omega
        have hc := u[k].toNat_lt
        by_cases c1 : 48 ≤ u[k].toNat
        · have c3 : (48 : Int) ≤ (u[k].toNat : Int) := by omega
          by_cases c2 : u[k].toNat ≤ 57
          · have c4 : (u[k].toNat : Int) ≤ 57 := by omega
            have G : Hid (dec (u.data.toList.take (k + 1)) = some (m * 10 + (u[k].toNat - 48)) ∧ m * 10 + (u[k].toNat - 48) < 10 ^ (k + 1)) := Lib.hid (by
              have h1 := hm.out.1
              have h2 := hm.out.2
              refine ⟨?_, by rw [Nat.pow_succ]; omega⟩
              unfold dec at h1 ⊢
              rw [take_snoc u k hlt, decFrom_snoc, h1, digit_yes c1 c2]
              rfl)
            have e9 : (m : Int) * 10 + ((u[k].toNat : Int) - 48) = ((m * 10 + (u[k].toNat - 48) : Nat) : Int) := by omega
            have E9 := Lib.hid e9; clear e9
            go_wp2_with fail
            go_round
            case rel => exact ⟨k + 1, m * 10 + (u[k].toNat - 48), by omega, by go_num, by rw [← E9.out], G⟩
            case measure => simp [intOf]; omega
          · have c4 : ¬ (u[k].toNat : Int) ≤ 57 := by omega
            have ED : Hid (pout s c = (0, 0, 3)) := Lib.hid (by unfold pout; rw [HU.out.1, dec_none hlt (fun h => c2 h.2)])
            have f0 := R0.out.thaw 0
            have f1 := R0.out.thaw 1
            obtain ⟨q0, q1⟩ := row2 R0.out
            have HZ := Lib.hid (set2_row (.int .i64 0) (.int .i64 0) R0.out)
            go_wp2_with fail
            exact bodyPost_ret (v := .tuple #[rdV 0 0, .int .i64 3]) (by obtain ⟨z0, z1⟩ := row2 HZ.out; simp [results, Tryz.results96, z0, z1, go_sem]) rfl ⟨by rw [ED.out], set2_below B0.out (Nat.le_refl _)⟩
        · have c3 : ¬ (48 : Int) ≤ (u[k].toNat : Int) := by omega
          have ED : Hid (pout s c = (0, 0, 3)) := Lib.hid (by unfold pout; rw [HU.out.1, dec_none hlt (fun h => c1 h.1)])
          have f0 := R0.out.thaw 0
          have f1 := R0.out.thaw 1
          obtain ⟨q0, q1⟩ := row2 R0.out
          have HZ := Lib.hid (set2_row (.int .i64 0) (.int .i64 0) R0.out)
          go_wp2_with fail
          exact bodyPost_ret (v := .tuple #[rdV 0 0, .int .i64 3]) (by obtain ⟨z0, z1⟩ := row2 HZ.out; simp [results, Tryz.results96, z0, z1, go_sem]) rfl ⟨by rw [ED.out], set2_below B0.out (Nat.le_refl _)⟩
      · have hke : k = u.size := by omega
        have hmb : m < 10000000 := by
          have h1 := hm.out.2
          have h2 : 10 ^ k ≤ 10 ^ 7 := Nat.pow_le_pow_right (by omega) (by omega)
          omega
        have DU : Hid (dec u.data.toList = some m) := Lib.hid (by
          have := hm.out.1
          rw [List.take_of_length_le (by rw [Array.length_toList, hke]; exact Nat.le_refl _)] at this
          exact this)
        clear hke hm
        obtain ⟨x, hx⟩ : ∃ x : Int, 1 * (m : Int) = x := ⟨_, rfl⟩
        have hxb : -10000000 < x ∧ x < 10000000 := by omega
        obtain ⟨hx1, hx2⟩ := hxb
        have PO : Hid (pout s c = if Elt.Val c x ∧ S (Elt.txt c x) = s then (c, x, 0) else (0, 0, 3)) := Lib.hid (by
          unfold pout; rw [HU.out.1, DU.out, HU.out.2]; simp only; rw [hx])
        go_upto_region 17 with fail
        have rR := Row.new W0 #[.int .i64 c, .int .i64 x] 99
        refine forget (fun Y => Below w.heap.size w Y ∧ Row Y w.heap.size 99 #[.int .i64 0, .int .i64 0] ∧ Row Y W0.heap.size 99 #[.int .i64 c, .int .i64 x]) ⟨B0.out.alloc B0.out.size _, R0.out.alloc _, rR⟩ ?_
        clear rR
        rintro Y ⟨bY, rY, pY⟩
        obtain ⟨p0, p1⟩ := row2 pY
        clear hx
        by_cases hval : Elt.Val c x
        · have HF := Lib.hid (fun W => refFormat_yes c x W hval)
          by_cases htx : S (Elt.txt c x) = s
          · have P1 : Hid (pout s c = (c, x, 0)) := Lib.hid (by rw [PO.out, if_pos ⟨hval, htx⟩])
            rw [htx] at HF
            clear htx hval
            have x8 : (s.toList == s.toList) = true := beq_self_eq_true _
            go_wp2_with fail
            refine (HF.out _).mono ?_
            rintro e w3 ⟨rfl, g3⟩
            have b3 := bY.trans (g3.mono bY.size)
            have r3 := rY.under g3
            obtain ⟨p0', p1'⟩ := row2 (pY.under g3)
            have f0 := r3.thaw 0
            have f1 := r3.thaw 1
            obtain ⟨q0, q1⟩ := row2 r3
            have R3 := Lib.hid r3
            have B3 := Lib.hid b3
            clear g3 b3 r3 bY rY pY p0 p1
            have HZ := Lib.hid (set2_row (.int .i64 c) (.int .i64 x) R3.out)
            go_wp2_with fail
            exact bodyPost_ret (v := .tuple #[rdV c x, .int .i64 0]) (by obtain ⟨z0, z1⟩ := row2 HZ.out; simp [results, Tryz.results96, z0, z1, go_sem]) rfl ⟨by rw [P1.out], set2_below B3.out (Nat.le_refl _)⟩
          · have P1 : Hid (pout s c = (0, 0, 3)) := Lib.hid (by rw [PO.out, if_neg (fun h => htx h.2)])
            have x8 : ((S (Elt.txt c x)).toList == s.toList) = false := toList_ne htx
            have x10 : ((S (Elt.txt c x)).toList != s.toList) = true := by show (!_) = true; rw [x8]; rfl
            clear htx hval
            generalize S (Elt.txt c x) = tx at *
            go_wp2_with fail
            refine (HF.out _).mono ?_
            rintro e w3 ⟨rfl, g3⟩
            have b3 := bY.trans (g3.mono bY.size)
            have r3 := rY.under g3
            have f0 := r3.thaw 0
            have f1 := r3.thaw 1
            obtain ⟨q0, q1⟩ := row2 r3
            have R3 := Lib.hid r3
            have B3 := Lib.hid b3
            clear g3 b3 r3 bY rY pY p0 p1
            have HZ := Lib.hid (set2_row (.int .i64 0) (.int .i64 0) R3.out)
            go_wp2_with fail
            exact bodyPost_ret (v := .tuple #[rdV 0 0, .int .i64 3]) (by obtain ⟨z0, z1⟩ := row2 HZ.out; simp [results, Tryz.results96, z0, z1, go_sem]) rfl ⟨by rw [P1.out], set2_below B3.out (Nat.le_refl _)⟩
        · have P1 : Hid (pout s c = (0, 0, 3)) := Lib.hid (by rw [PO.out, if_neg (fun h => hval h.1)])
          have hck : Elt.chk c x ≠ 0 := fun e => hval (Elt.val_of e)
          have HF := Lib.hid (fun W => refFormat_no c x W hck)
          have x8 : (Elt.chk c x != 0) = true := by rw [bne_iff_ne]; exact hck
          have x9 : (Elt.chk c x == 0) = false := beq_eq_false_iff_ne.2 hck
          clear hck hval
          generalize Elt.chk c x = ck at *
          go_wp2_with fail
          refine (HF.out _).mono ?_
          rintro e w3 ⟨rfl, g3⟩
          have b3 := bY.trans (g3.mono bY.size)
          have r3 := rY.under g3
          have f0 := r3.thaw 0
          have f1 := r3.thaw 1
          obtain ⟨q0, q1⟩ := row2 r3
          have R3 := Lib.hid r3
          have B3 := Lib.hid b3
          clear g3 b3 r3 bY rY pY p0 p1
          have HZ := Lib.hid (set2_row (.int .i64 0) (.int .i64 0) R3.out)
          go_wp2_with fail
          exact bodyPost_ret (v := .tuple #[rdV 0 0, .int .i64 3]) (by obtain ⟨z0, z1⟩ := row2 HZ.out; simp [results, Tryz.results96, z0, z1, go_sem]) rfl ⟨by rw [P1.out], set2_below B3.out (Nat.le_refl _)⟩
end Go.Proofs.YtfnlgfacadmjpaaGreatDoor.El
