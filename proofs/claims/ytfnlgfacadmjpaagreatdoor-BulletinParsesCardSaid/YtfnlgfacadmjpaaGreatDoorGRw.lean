/- The reference's contracts of kinds and names. The reference's contracts of normal places and of Validate for reports. The reference's contract of Group. The reference's contract of Readable. The reference's contracts of word and of Format of a report that is not valid. -/
import Derived.Test.YtfnlgfacadmjpaaGreatDoorGVali
import Derived.Test.YtfnlgfacadmjpaaGreatDoorEWith
import Derived.Test.YtfnlgfacadmjpaaGreatDoorPRefD
import Derived.Test.YtfnlgfacadmjpaaGreatDoorERVal
import Derived.Test.YtfnlgfacadmjpaaGreatDoorCBox
import Derived.Test.YtfnlgfacadmjpaaGreatDoorERFmt
import Derived.Test.YtfnlgfacadmjpaaGreatDoorGRr
namespace Go.Proofs.YtfnlgfacadmjpaaGreatDoor
open Go.RowKit

theorem refKind_any (k : Int) (w : World) :
    Calls Tryz.prog 80 #[.int .i64 k] w fun e w' => e = .returned (.bool (decide (1 ≤ k) && decide (k ≤ 3))) ∧ w = w' := by
  go_enter Tryz.func80, Tryz.ntmps80
  by_cases h1 : 1 ≤ k
  · by_cases h2 : k ≤ 3
    · have H := Lib.hid (show (decide (1 ≤ k) && decide (k ≤ 3)) = true by rw [decide_eq_true h1, decide_eq_true h2]; rfl)
      go_wp2_with fail
      go_ret
      exact ⟨ret_bool (by rw [H.out]), rfl⟩
    · have H := Lib.hid (show (decide (1 ≤ k) && decide (k ≤ 3)) = false by rw [decide_eq_false h2, Bool.and_false])
      go_wp2_with fail
      go_ret
      exact ⟨ret_bool (by first | rw [H.out] | (simp; omega)), rfl⟩
  · have H := Lib.hid (show (decide (1 ≤ k) && decide (k ≤ 3)) = false by rw [decide_eq_false h1, Bool.false_and])
    go_wp2_with fail
    go_ret
    exact ⟨ret_bool (by rw [H.out]), rfl⟩
theorem all_snoc (s : ByteArray) (k : Nat) (h : k < s.size) : (s.data.toList.take (k + 1)).all isCh = ((s.data.toList.take k).all isCh && isCh s[k]) := by
  rw [Pl.take_snoc s k h, List.all_append]
  simp
theorem name_no (s : ByteArray) (k : Nat) (h : k < s.size) (hc : isCh s[k] = false) : nameOk s = false := by
  unfold nameOk
  have : s.data.toList.all isCh = false := by
    rw [List.all_eq_false]
    exact ⟨s[k], by rw [ByteArray.getElem_eq_getElem_data]; simp, by simp [hc]⟩
  rw [this, Bool.and_false]
set_option maxHeartbeats 1000000 in
theorem refName_any (s : ByteArray) (w : World) (hs : s.size ≤ 9223372036854775806) :
    Calls Tryz.prog 81 #[.string s] w fun e w' => e = .returned (.bool (nameOk s)) ∧ w = w' := by
  go_enter Tryz.func81, Tryz.ntmps81
  go_wp2
  go_loop [3] (fun i => ∃ k : Nat, k ≤ s.size ∧ i = .int .i64 k ∧ (s.data.toList.take k).all isCh = true) (fun i => s.size - (intOf i).toNat)
  case atStart => exact ⟨0, Nat.zero_le _, rfl, rfl⟩
  case round =>
    obtain ⟨k, hk, rfl, ha⟩ := hrel
    by_cases hlt : k < s.size
    · have hlt' : (k : Int) < (s.size : Int) := by omega
      have HS := Lib.hid (all_snoc s k hlt)
      have HN := Lib.hid (name_no s k hlt)
      have HA := Lib.hid ha
      obtain ⟨b, hb⟩ : ∃ b, isCh s[k] = b := ⟨_, rfl⟩
      have HB := Lib.hid hb
      rw [hb] at HS HN
      have e1 : decide (65 ≤ s[k].toNat) = decide ((65 : Int) ≤ (s[k].toNat : Int)) := decide_eq_decide.2 (by omega)
      have e2 : decide (s[k].toNat ≤ 90) = decide ((s[k].toNat : Int) ≤ 90) := decide_eq_decide.2 (by omega)
      have e3 : decide (48 ≤ s[k].toNat) = decide ((48 : Int) ≤ (s[k].toNat : Int)) := decide_eq_decide.2 (by omega)
      have e4 : decide (s[k].toNat ≤ 57) = decide ((s[k].toNat : Int) ≤ 57) := decide_eq_decide.2 (by omega)
      have hx : b = ((decide ((65 : Int) ≤ (s[k].toNat : Int)) && decide ((s[k].toNat : Int) ≤ 90)) || (decide ((48 : Int) ≤ (s[k].toNat : Int)) && decide ((s[k].toNat : Int) ≤ 57))) := by rw [← hb, ← e1, ← e2, ← e3, ← e4]; rfl
      clear ha hb e1 e2 e3 e4 HB
      by_cases c1 : (65 : Int) ≤ (s[k].toNat : Int) <;> by_cases c2 : (s[k].toNat : Int) ≤ 90 <;> by_cases c3 : (48 : Int) ≤ (s[k].toNat : Int) <;> by_cases c4 : (s[k].toNat : Int) ≤ 57 <;> try omega
      all_goals (simp only [c1, c2, c3, c4, decide_true, decide_false, Bool.and_true, Bool.and_false, Bool.or_true, Bool.or_false] at hx; subst hx)
      all_goals first
        | (go_wp2
           go_round
           case rel => exact ⟨k + 1, by omega, by go_num, by rw [HS.out, HA.out]; rfl⟩
           case measure => simp [intOf]; omega)
        | (go_wp2
           go_ret
           exact ⟨ret_bool (by rw [HN.out trivial]), rfl⟩)
    · have hlt' : ¬ (k : Int) < (s.size : Int) := by omega
      have HT := Lib.hid (show s.data.toList.take k = s.data.toList from List.take_of_length_le (by simp; omega))
      have HA := Lib.hid ha
      by_cases h5 : s.size = 5
      · have h5' : ((s.size : Int) == 5) = true := by rw [beq_iff_eq]; omega
        have H := Lib.hid (show nameOk s = true by unfold nameOk; rw [decide_eq_true h5, ← HT.out, HA.out]; rfl)
        clear ha h5
        go_wp2
        go_ret
        exact ⟨ret_bool (by rw [H.out]), rfl⟩
      · have h5' : ((s.size : Int) == 5) = false := by rw [beq_eq_false_iff_ne]; omega
        have H := Lib.hid (show nameOk s = false by unfold nameOk; rw [decide_eq_false h5]; rfl)
        clear ha h5
        go_wp2
        go_ret
        exact ⟨ret_bool (by rw [H.out]), rfl⟩
end Go.Proofs.YtfnlgfacadmjpaaGreatDoor
namespace Go.Proofs.YtfnlgfacadmjpaaGreatDoor
open Go.RowKit

set_option maxHeartbeats 1000000 in
theorem refIsNormal_any (F A B C : Int) (w : World) :
    Calls Tryz.prog 82 #[.agg #[.int .i64 F, .int .i64 A, .int .i64 B, .int .i64 C]] w fun e w' => e = .returned (.bool (nrm F A B C)) ∧ Below w.heap.size w w' := by
  go_enter Tryz.func82, Tryz.ntmps82
  go_wp2_with fail
  have b1 := (Below.refl w.heap.size w).alloc (Nat.le_refl _) (.cells #[.int .i64 F, .int .i64 A, .int .i64 B, .int .i64 C] 50)
  have r1 := Row.new w #[.int .i64 F, .int .i64 A, .int .i64 B, .int .i64 C] 50
  generalize hW1 : w.alloc (.cells #[.int .i64 F, .int .i64 A, .int .i64 B, .int .i64 C] 50) = W1 at *
  cases hv : Pl.vb F A B C
  · refine (Pl.refNormal_no F A B C _ hv).mono ?_
    rintro e w2 ⟨rfl, g2⟩
    have N := Lib.hid (show nrm F A B C = false by unfold nrm; rw [hv]; rfl)
    have b2 := b1.trans (g2.mono b1.size)
    have r2 := r1.under g2
    clear g2 b1 r1 hW1
    go_wp2_with fail
    go_ret
    exact ⟨ret_bool (by rw [N.out]), b2.alloc b2.size _⟩
  · obtain ⟨f, rfl, hf⟩ := Pl.vb_to hv
    refine (Pl.refNormal_yes f A B C _ hf).mono ?_
    rintro e w2 ⟨rfl, g2⟩
    have N := Lib.hid (show nrm f A B C = (((Pl.Ico.nf f A B C : Nat) : Int) == (f : Int) && Pl.nw f A B C 0 == A && Pl.nw f A B C 1 == B && Pl.nw f A B C 2 == C) by unfold nrm; rw [hv, Bool.true_and]; rfl)
    have b2 := b1.trans (g2.mono b1.size)
    have r2 := r1.under g2
    clear g2 b1 r1 hW1 hv hf
    have bc : ∀ x y : Int, (x == y) = (y == x) := fun x y => by rw [Bool.eq_iff_iff, beq_iff_eq, beq_iff_eq]; exact ⟨Eq.symm, Eq.symm⟩
    rw [bc _ (f : Int), bc _ A, bc _ B, bc _ C] at N
    generalize ((Pl.Ico.nf f A B C : Nat) : Int) = n0 at *
    generalize Pl.nw f A B C 0 = n1 at *
    generalize Pl.nw f A B C 1 = n2 at *
    generalize Pl.nw f A B C 2 = n3 at *
    obtain ⟨c0, c1, c2, c3⟩ := row4 r2
    have r3 := Row.new w2 #[.int .i64 n0, .int .i64 n1, .int .i64 n2, .int .i64 n3] 50
    have hlt := r2.lt
    go_wp2_with fail
    all_goals (go_ret; exact ⟨ret_bool (by rw [N.out]; simp [*]), b2.alloc b2.size _⟩)
theorem refVal_any (k : Int) (nm : ByteArray) (t F A B C : Int) (u : Value) (L : List El.Elt.R) (w : World) (hL : El.RdIn w u L) (hs : nm.size ≤ 9223372036854775806) :
    Calls Tryz.prog 47 #[repV k nm t F A B C u] w fun e w' => e = .returned (.int .i64 (vcode k nm t F A B C L)) ∧ Below w.heap.size w w' := by
  have b1 := (Below.refl w.heap.size w).alloc (Nat.le_refl _) (.cells (repC k nm t F A B C u) 53)
  have r1 := Row.new w (repC k nm t F A B C u) 53
  have hL1 := hL.under b1
  have HK := Lib.hid (fun W => refKind_any k W)
  have HN := Lib.hid (fun W => refName_any nm W hs)
  have HT := Lib.hid (fun W => Ck.refIn_any t W)
  have HP := Lib.hid (fun W => refIsNormal_any F A B C W)
  have VK := Lib.hid (fun h => vcode_kind (k := k) (t := t) (F := F) (A := A) (B := B) (C := C) (nm := nm) (L := L) h)
  have VN := Lib.hid (fun h h2 => vcode_name (k := k) (t := t) (F := F) (A := A) (B := B) (C := C) (nm := nm) (L := L) h h2)
  have VR := Lib.hid (fun h h2 h3 => vcode_range (k := k) (t := t) (F := F) (A := A) (B := B) (C := C) (nm := nm) (L := L) h h2 h3)
  have VE := Lib.hid (fun h h2 h3 => vcode_rest (k := k) (t := t) (F := F) (A := A) (B := B) (C := C) (nm := nm) (L := L) h h2 h3)
  generalize vcode k nm t F A B C L = z at *
  clear hL
  go_enter Tryz.func47, Tryz.ntmps47
  go_upto_region 1 with fail
  generalize w.alloc (.cells (repC k nm t F A B C u) 53) = W1 at *
  obtain ⟨c0, c1, c2, c3, c4, c5, c6, c7⟩ := row8 r1
  obtain ⟨kb, hkb⟩ : ∃ b, (decide (1 ≤ k) && decide (k ≤ 3)) = b := ⟨_, rfl⟩
  rw [hkb] at HK
  go_wp2_with fail
  refine (HK.out _).mono ?_
  rintro e w2 ⟨rfl, rfl⟩
  cases kb
  · have V := Lib.hid (VK.out (by intro h; rw [decide_eq_true h.1, decide_eq_true h.2] at hkb; simp at hkb))
    clear hkb
    go_wp2_with fail
    go_ret
    exact ⟨ret_i64 (by rw [V.out]), b1⟩
  have hk : 1 ≤ k ∧ k ≤ 3 := by simpa using hkb
  clear hkb VK HK
  obtain ⟨nb, hnb⟩ : ∃ b, nameOk nm = b := ⟨_, rfl⟩
  rw [hnb] at HN
  go_wp2_with fail
  refine (HN.out _).mono ?_
  rintro e w2 ⟨rfl, rfl⟩
  cases nb
  · have V := Lib.hid (VN.out hk hnb)
    clear hnb
    go_wp2_with fail
    go_ret
    exact ⟨ret_i64 (by rw [V.out]), b1⟩
  clear VN HN
  have VR := Lib.hid (VR.out hk hnb)
  have VE := Lib.hid (VE.out hk hnb)
  clear hnb
  obtain ⟨tb, htb⟩ : ∃ b, Ck.Cal.rng t = b := ⟨_, rfl⟩
  rw [htb] at HT
  go_wp2_with fail
  refine (HT.out _).mono ?_
  rintro e w2 ⟨rfl, rfl⟩
  cases tb
  · have V := Lib.hid (VR.out (by intro h; have := Ck.Cal.rng_yes h.1 h.2.1; rw [htb] at this; cases this))
    clear htb
    go_wp2_with fail
    go_ret
    exact ⟨ret_i64 (by rw [V.out]), b1⟩
  have ht : 0 ≤ t ∧ t ≤ 52595999 := by unfold Ck.Cal.rng at htb; simpa using htb
  clear htb HT
  by_cases hk1 : k = 1
  · subst hk1
    by_cases hz : F = 0 ∧ A = 0 ∧ B = 0 ∧ C = 0
    · obtain ⟨rfl, rfl, rfl, rfl⟩ := hz
      have V := Lib.hid (VE.out ⟨ht.1, ht.2, rfl⟩)
      clear VR VE
      go_wp2_with fail
      refine (El.refValidate_any _ L _ hL1).mono ?_
      rintro e w3 ⟨rfl, g3⟩
      have B3 := Lib.hid (b1.trans (g3.mono b1.size))
      clear g3 b1
      go_wp2_with fail
      go_ret
      exact ⟨ret_i64 (by rw [V.out]), B3.out⟩
    · have V := Lib.hid (VR.out (by intro h; have := h.2.2; unfold plOk at this; rw [if_pos rfl] at this; simp at this; exact hz (by omega)))
      have HZ := Lib.hid hz
      have B3 := Lib.hid b1
      clear VR VE hz b1
      go_wp2_with fail
      all_goals first
        | (go_ret; exact ⟨ret_i64 (by rw [V.out]), B3.out⟩)
        | (exact absurd (by omega) HZ.out)
        | skip
  · have q : (k == 1) = false := beq_eq_false_iff_ne.2 hk1
    have q2 : (k != 1) = true := by rw [bne_iff_ne]; exact hk1
    have P := Lib.hid (show plOk k F A B C = nrm F A B C by unfold plOk; rw [if_neg hk1])
    obtain ⟨pb, hpb⟩ : ∃ b, nrm F A B C = b := ⟨_, rfl⟩
    rw [hpb] at HP
    clear hk1 hk
    go_wp2_with fail
    refine (HP.out _).mono ?_
    rintro e w3 ⟨rfl, g3⟩
    have b3 := b1.trans (g3.mono b1.size)
    have r3 := r1.under g3
    have hL3 := hL1.under g3
    cases pb
    · have V := Lib.hid (VR.out (by intro h; have := h.2.2; rw [P.out, hpb] at this; cases this))
      clear VR VE hpb
      go_wp2_with fail
      go_ret
      exact ⟨ret_i64 (by rw [V.out]), b3⟩
    · have V := Lib.hid (VE.out ⟨ht.1, ht.2, P.out.trans hpb⟩)
      clear VR VE hpb c0 c1 c2 c3 c4 c5 c6 c7
      obtain ⟨c0, c1, c2, c3, c4, c5, c6, c7⟩ := row8 r3
      go_wp2_with fail
      refine (El.refValidate_any _ L _ hL3).mono ?_
      rintro e w4 ⟨rfl, g4⟩
      have B4 := Lib.hid (b3.trans (g4.mono b3.size))
      clear g4 b3 b1
      go_wp2_with fail
      go_ret
      exact ⟨ret_i64 (by rw [V.out]), B4.out⟩
end Go.Proofs.YtfnlgfacadmjpaaGreatDoor
namespace Go.Proofs.YtfnlgfacadmjpaaGreatDoor
open Go.RowKit
open Ck (dig2 b10)

theorem ddn_dig : ∀ m : Nat, m < 100 → El.Elt.ddn m 2 = dig2 (m : Int) := by decide +kernel
theorem refDigits2_from (n : Int) (w0 w : World) (h1 : 0 ≤ n) (h2 : n ≤ 99) (hb : Below w0.heap.size w0 w) :
    Calls Tryz.prog 113 #[.int .i64 n, .int .i64 2] w fun e w' => e = .returned (.string (S (dig2 n))) ∧ Below w0.heap.size w0 w' := by
  obtain ⟨m, rfl⟩ : ∃ m : Nat, n = (m : Int) := ⟨n.toNat, by omega⟩
  have h := El.refDigits_any m 2 w (by omega) (by omega)
  rw [ddn_dig m (by omega)] at h
  exact h.mono fun _ _ ⟨he, hg⟩ => ⟨he, hb.trans (hg.mono hb.size)⟩
attribute [local go_sem] S_add S_size dig2_len
set_option maxHeartbeats 2000000 in
theorem refGroup_any (t : Int) (w : World) (h : 0 ≤ t ∧ t ≤ 52595999) :
    Calls Tryz.prog 69 #[.int .i64 t] w fun e w' => e = .returned (.string (S (stp t))) ∧ Below w.heap.size w w' := by
  obtain ⟨td, th, tm⟩ := dt_bd h
  have HS := Lib.hid (show stp t = dig2 (dayOf t) ++ dig2 (hourOf t) ++ dig2 (minOf t) from rfl)
  have HD := Lib.hid (refDate_is t w h)
  generalize dayOf t = d at *
  generalize hourOf t = p at *
  generalize minOf t = q at *
  go_enter Tryz.func69, Tryz.ntmps69
  go_wp2_with fail
  refine HD.out.mono ?_
  rintro e w2 ⟨⟨y, m, rfl⟩, g2⟩
  go_upto_region 2 with fail
  refine forget (fun Y => Below w.heap.size w Y ∧ Row Y w2.heap.size 95 #[.int .i64 y, .int .i64 m, .int .i64 d, .int .i64 p, .int .i64 q]) ⟨g2.alloc g2.size _, Row.new _ _ _⟩ ?_
  rintro Y ⟨bY, r⟩
  generalize w2.heap.size = g at *
  have h0 := r.lt
  have BY := Lib.hid bY
  have R := Lib.hid r
  have hb2 := Below.refl Y.drew.heap.size Y.drew
  obtain ⟨c2, c3, c4⟩ := cells3 r hb2
  clear r bY g2 HD
  go_region_held3 (fun w' => w'.cell? ⟨g, 2, none⟩ = some (.int .i64 d) ∧ w'.cell? ⟨g, 3, none⟩ = some (.int .i64 p) ∧ w'.cell? ⟨g, 4, none⟩ = some (.int .i64 q))
    (first | go_keep | exact cells3 R.out hb2)
    (first | (go_at_call 113; refine (refDigits2_from _ Y.drew _ (by omega) (by omega) hb2).mono ?_; clear hb2; rintro e w2 ⟨rfl, hb2⟩))
  go_wp2_with fail
  go_ret
  exact ⟨ret_str (by rw [HS.out]; simp), BY.out.trans ((undrew hb2).mono BY.out.size)⟩
end Go.Proofs.YtfnlgfacadmjpaaGreatDoor
namespace Go.Proofs.YtfnlgfacadmjpaaGreatDoor
open Go.RowKit

open Ck (dig2 b10) in
theorem refRes_stamp (d h i near : Int) (w : World) (h1 : 0 ≤ d ∧ d ≤ 99) (h2 : 0 ≤ h ∧ h ≤ 99) (h3 : 0 ≤ i ∧ i ≤ 99) :
    Calls Tryz.prog 84 #[.string (S (dig2 d ++ dig2 h ++ dig2 i)), .int .i64 near] w (RsvR d h i near w) := by
  have hd : Pl.digs (S (dig2 d ++ dig2 h ++ dig2 i)).data.toList = true := by
    rw [S_list, digs_app, digs_app, digs_dig2 h1.1 h1.2, digs_dig2 h2.1 h2.2, digs_dig2 h3.1 h3.2]; rfl
  have r := refRes_digs (S (dig2 d ++ dig2 h ++ dig2 i)) near w rfl hd (48 + d / 10) (48 + d % 10) (48 + h / 10) (48 + h % 10) (48 + i / 10) (48 + i % 10)
    (b10_toNat (x := d / 10) (by omega) (by omega)) (b10_toNat (x := d % 10) (by omega) (by omega)) (b10_toNat (x := h / 10) (by omega) (by omega)) (b10_toNat (x := h % 10) (by omega) (by omega)) (b10_toNat (x := i / 10) (by omega) (by omega)) (b10_toNat (x := i % 10) (by omega) (by omega))
  rw [show (48 + d / 10 - 48) * 10 + (48 + d % 10 - 48) = d by omega, show (48 + h / 10 - 48) * 10 + (48 + h % 10 - 48) = h by omega, show (48 + i / 10 - 48) * 10 + (48 + i % 10 - 48) = i by omega] at r
  exact r
set_option maxHeartbeats 2000000 in
theorem refReadable_any (k : Int) (nm : ByteArray) (t F A B C : Int) (u : Value) (L : List El.Elt.R) (near : Int) (w : World) (hL : El.RdIn w u L) (hs : nm.size ≤ 9223372036854775806) :
    Calls Tryz.prog 48 #[repV k nm t F A B C u, .int .i64 near] w fun e w' => e = .returned (.bool (decide (vcode k nm t F A B C L = 0) && rdb t near)) ∧ Below w.heap.size w w' := by
  obtain ⟨Au, cu, rfl, -⟩ := id hL
  have b1 := (Below.refl w.heap.size w).alloc (Nat.le_refl _) (.cells (repC k nm t F A B C (.slice Au L.length cu)) 53)
  have r1 := Row.new w (repC k nm t F A B C (.slice Au L.length cu)) 53
  have hL1 := hL.under b1
  have HV := Lib.hid (fun W h => refVal_any k nm t F A B C (.slice Au L.length cu) L W h hs)
  have HN := Lib.hid (fun W => Ck.refIn_any near W)
  have HY := Lib.hid (fun h : vcode k nm t F A B C L = 0 => Vd.of h)
  generalize vcode k nm t F A B C L = c at *
  clear hL
  go_enter Tryz.func48, Tryz.ntmps48
  go_upto_region 1 with fail
  generalize w.alloc (.cells (repC k nm t F A B C (.slice Au L.length cu)) 53) = W1 at *
  obtain ⟨c0, c1, c2, c3, c4, c5, c6, c7⟩ := row8 r1
  by_cases h0 : c = 0
  · have ht := (HY.out h0).time
    subst h0
    go_wp2_with fail
    refine (HV.out _ hL1).mono ?_
    rintro e w2 ⟨rfl, g2⟩
    have b2 := b1.trans (g2.mono b1.size)
    have r2 := r1.under g2
    clear g2 b1 r1 hL1 HV HY c0 c1 c2 c3 c4 c5 c6 c7
    obtain ⟨nb, hnb⟩ : ∃ b, Ck.Cal.rng near = b := ⟨_, rfl⟩
    rw [hnb] at HN
    obtain ⟨c0, c1, c2, c3, c4, c5, c6, c7⟩ := row8 r2
    go_wp2_with fail
    refine (HN.out _).mono ?_
    rintro e w3 ⟨rfl, rfl⟩
    cases nb
    · have R := Lib.hid (show rdb t near = false by
        rw [Bool.eq_false_iff, Ne, rdb_iff]
        unfold Rdb
        rw [rsv_no (fun ho => by have := ho.2.2; rw [hnb] at this; cases this)]
        simp)
      have B := Lib.hid b2
      clear b2 hnb
      go_wp2_with fail
      go_ret
      exact ⟨ret_bool (by rw [R.out] <;> simp), B.out⟩
    · clear hnb
      obtain ⟨td, th, tm⟩ := dt_bd ht
      have RS := Lib.hid (fun W => refRes_stamp (dayOf t) (hourOf t) (minOf t) near W (by omega) (by omega) (by omega))
      have HG := Lib.hid (fun W => refGroup_any t W ht)
      have RB := Lib.hid (show rdb t near = true ↔ rsv (dayOf t) (hourOf t) (minOf t) near = some t from rdb_iff)
      unfold RsvR at RS
      unfold stp at HG
      generalize rsv (dayOf t) (hourOf t) (minOf t) near = o at *
      generalize S (Ck.dig2 (dayOf t) ++ Ck.dig2 (hourOf t) ++ Ck.dig2 (minOf t)) = st at *
      generalize dayOf t = d0 at *
      generalize hourOf t = h0 at *
      generalize minOf t = i0 at *
      have RB := Lib.hid RB.out
      go_wp2_with fail
      refine (HG.out _).mono ?_
      rintro e w4 ⟨rfl, g4⟩
      have b4 := b2.trans (g4.mono b2.size)
      have r4 := r2.under g4
      clear g4 b2 r2 HG c0 c1 c2 c3 c4 c5 c6 c7
      go_wp2_with fail
      refine (RS.out _).mono ?_
      rintro e w5 ⟨(⟨ho, a, ha, rfl⟩ | ⟨ho, ha, rfl⟩), g5⟩
      · have r5 := r4.under g5
        have B := Lib.hid (b4.trans (g5.mono b4.size))
        obtain ⟨c0, c1, c2, c3, c4, c5, c6, c7⟩ := row8 r5
        have R := Lib.hid (show rdb t near = decide (a = t) by
          rw [Bool.eq_iff_iff, RB.out, ha, decide_eq_true_iff]
          exact ⟨fun h => Option.some.inj h, fun h => by rw [h]⟩)
        by_cases hat : a = t
        · have R := Lib.hid (R.out.trans (decide_eq_true hat))
          subst hat
          clear RB ha b4 g5 r4 r5
          go_wp2_with fail
          go_ret
          exact ⟨ret_bool (by rw [R.out] <;> simp), B.out⟩
        · have R := Lib.hid (R.out.trans (decide_eq_false hat))
          have q : (a == t) = false := beq_eq_false_iff_ne.2 hat
          clear RB ha b4 g5 r4 r5
          go_wp2_with fail
          go_ret
          exact ⟨ret_bool (by rw [R.out] <;> simp), B.out⟩
      · have B := Lib.hid (b4.trans (g5.mono b4.size))
        have R := Lib.hid (show rdb t near = false by
          rw [Bool.eq_false_iff, Ne, RB.out, ha]; simp)
        clear RB ha b4 g5 r4
        go_wp2_with fail
        go_ret
        exact ⟨ret_bool (by rw [R.out] <;> simp), B.out⟩
  · have q : (c != 0) = true := by rw [bne_iff_ne]; exact h0
    have H := Lib.hid (decide_eq_false h0)
    go_wp2_with fail
    refine (HV.out _ hL1).mono ?_
    rintro e w2 ⟨rfl, g2⟩
    have B := Lib.hid (b1.trans (g2.mono b1.size))
    clear g2 b1 r1 hL1 HV HY h0
    go_wp2_with fail
    go_ret
    exact ⟨ret_bool (by rw [H.out, Bool.false_and]), B.out⟩
end Go.Proofs.YtfnlgfacadmjpaaGreatDoor
namespace Go.Proofs.YtfnlgfacadmjpaaGreatDoor
open Go.RowKit

theorem join_more (x : List UInt8) : ∀ (ws : List (List UInt8)), ws ≠ [] → Lib.join (ws ++ [x]) [32] = Lib.join ws [32] ++ ([32] ++ x)
  | [], h => absurd rfl h
  | [a], _ => by simp [Lib.join, List.intercalate]
  | a :: b :: r, _ => by
    have ih := join_more x (b :: r) (by simp)
    have e : ∀ l : List (List UInt8), Lib.join (a :: b :: l) [32] = a ++ ([32] ++ Lib.join (b :: l) [32]) := fun l => by simp [Lib.join, List.intercalate]
    rw [List.cons_append, List.cons_append, e, ← List.cons_append, ih, e]
    simp
set_option maxHeartbeats 1000000 in
theorem refWord_any (k : Int) (w : World) (hk : 1 ≤ k ∧ k ≤ 3) :
    Calls Tryz.prog 71 #[.int .i64 k] w fun e w' => e = .returned (.string (S (kw k))) ∧ Below w.heap.size w w' := by
  rcases (by omega : k = 1 ∨ k = 2 ∨ k = 3) with rfl | rfl | rfl
  all_goals
    go_enter Tryz.func71, Tryz.ntmps71
    go_wp2_with fail
    go_ret
    exact ⟨rfl, (Below.refl _ _).alloc (Nat.le_refl _) _⟩
set_option maxHeartbeats 1000000 in
theorem refFormat_no (k : Int) (nm : ByteArray) (t F A B C : Int) (u : Value) (L : List El.Elt.R) (w : World) (hL : El.RdIn w u L) (hs : nm.size ≤ 9223372036854775806) (hV : vcode k nm t F A B C L ≠ 0) :
    Calls Tryz.prog 40 #[repV k nm t F A B C u] w fun e w' => e = .returned (.tuple #[.string ⟨#[]⟩, .int .i64 (vcode k nm t F A B C L)]) ∧ Below w.heap.size w w' := by
  obtain ⟨Au, cu, rfl, -⟩ := id hL
  have b1 := (Below.refl w.heap.size w).alloc (Nat.le_refl _) (.cells (repC k nm t F A B C (.slice Au L.length cu)) 53)
  have r1 := Row.new w (repC k nm t F A B C (.slice Au L.length cu)) 53
  have HV := Lib.hid (fun W (h : El.RdIn W (.slice Au L.length cu) L) => refVal_any k nm t F A B C (.slice Au L.length cu) L W h hs)
  generalize vcode k nm t F A B C L = e0 at *
  have q : (e0 != 0) = true := by rw [bne_iff_ne]; exact hV
  go_enter Tryz.func40, Tryz.ntmps40
  go_upto_region 1 with fail
  generalize w.alloc (.cells (repC k nm t F A B C (.slice Au L.length cu)) 53) = W1 at *
  obtain ⟨c0, c1, c2, c3, c4, c5, c6, c7⟩ := row8 r1
  go_wp2_with fail
  refine (HV.out _ (hL.under b1)).mono ?_
  rintro e w2 ⟨rfl, g2⟩
  have B2 := Lib.hid (b1.trans (g2.mono b1.size))
  clear b1 r1 g2
  go_wp2_with fail
  go_ret2
  exact ⟨rfl, B2.out⟩
end Go.Proofs.YtfnlgfacadmjpaaGreatDoor
