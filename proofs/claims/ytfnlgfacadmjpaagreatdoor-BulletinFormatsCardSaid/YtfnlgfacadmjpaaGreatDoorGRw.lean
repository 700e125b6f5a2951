/- The reference's contracts of kinds and names. The reference's contracts of normal places and of Validate for reports. The reference's contracts of word and of Format of a report that is not valid. -/
import Derived.Test.YtfnlgfacadmjpaaGreatDoorGVali
import Derived.Test.YtfnlgfacadmjpaaGreatDoorEWith
import Derived.Test.YtfnlgfacadmjpaaGreatDoorPRefD
import Derived.Test.YtfnlgfacadmjpaaGreatDoorERVal
import Derived.Test.YtfnlgfacadmjpaaGreatDoorCBox
namespace Go.Proofs.YtfnlgfacadmjpaaGreatDoor
open Go.RowKit

theorem refKind_any (k : Int) (w : World) :
    Calls Tryz.prog 80 #[.int .i64 k] w fun e w' => e = .returned (.bool (decide (1 ≤ k) && decide (k ≤ 3))) ∧ w = w' := by
  go_enter Tryz.func80, Tryz.ntmps80
  by_cases h1 : 1 ≤ k
  · by_cases h2 : k ≤ 3
    · have H := Lib.hid (show (decide (1 ≤ k) && decide (k ≤ 3)) = true by rw [decide_eq_true h1, decide_eq_true h2]; rfl)
      go_wp2_with fail
      go_ret
      exact ⟨ret_bool (by rw [H.out]), rfl⟩
    · have H := Lib.hid (show (decide (1 ≤ k) && decide (k ≤ 3)) = false by rw [decide_eq_false h2, Bool.and_false])
      go_wp2_with fail
      go_ret
      exact ⟨ret_bool (by first | rw [H.out] | (simp; omega)), rfl⟩
  · have H := Lib.hid (show (decide (1 ≤ k) && decide (k ≤ 3)) = false by rw [decide_eq_false h1, Bool.false_and])
    go_wp2_with fail
    go_ret
    exact ⟨ret_bool (by rw [H.out]), rfl⟩
theorem all_snoc (s : ByteArray) (k : Nat) (h : k < s.size) : (s.data.toList.take (k + 1)).all isCh = ((s.data.toList.take k).all isCh && isCh s[k]) := by
  rw [Pl.take_snoc s k h, List.all_append]
  simp
theorem name_no (s : ByteArray) (k : Nat) (h : k < s.size) (hc : isCh s[k] = false) : nameOk s = false := by
  unfold nameOk
  have : s.data.toList.all isCh = false := by
    rw [List.all_eq_false]
    exact ⟨s[k], by rw [ByteArray.getElem_eq_getElem_data]; simp, by simp [hc]⟩
  rw [this, Bool.and_false]
set_option maxHeartbeats 1000000 in
theorem refName_any (s : ByteArray) (w : World) (hs : s.size ≤ 9223372036854775806) :
    Calls Tryz.prog 81 #[.string s] w fun e w' => e = .returned (.bool (nameOk s)) ∧ w = w' := by
  go_enter Tryz.func81, Tryz.ntmps81
  go_wp2
  go_loop [3] (fun i => ∃ k : Nat, k ≤ s.size ∧ i = .int .i64 k ∧ (s.data.toList.take k).all isCh = true) (fun i => s.size - (intOf i).toNat)
  case atStart => exact ⟨0, Nat.zero_le _, rfl, rfl⟩
  case round =>
    obtain ⟨k, hk, rfl, ha⟩ := hrel
    by_cases hlt : k < s.size
    · have hlt' : (k : Int) < (s.size : Int) := by omega
      have HS := Lib.hid (all_snoc s k hlt)
      have HN := Lib.hid (name_no s k hlt)
      have HA := Lib.hid ha
      obtain ⟨b, hb⟩ : ∃ b, isCh s[k] = b := ⟨_, rfl⟩
      have HB := Lib.hid hb
      rw [hb] at HS HN
      have e1 : decide (65 ≤ s[k].toNat) = decide ((65 : Int) ≤ (s[k].toNat : Int)) := decide_eq_decide.2 (by omega)
      have e2 : decide (s[k].toNat ≤ 90) = decide ((s[k].toNat : Int) ≤ 90) := decide_eq_decide.2 (by omega)
      have e3 : decide (48 ≤ s[k].toNat) = decide ((48 : Int) ≤ (s[k].toNat : Int)) := decide_eq_decide.2 (by omega)
      have e4 : decide (s[k].toNat ≤ 57) = decide ((s[k].toNat : Int) ≤ 57) := decide_eq_decide.2 (by omega)
      have hx : b = ((decide ((65 : Int) ≤ (s[k].toNat : Int)) && decide ((s[k].toNat : Int) ≤ 90)) || (decide ((48 : Int) ≤ (s[k].toNat : Int)) && decide ((s[k].toNat : Int) ≤ 57))) := by rw [← hb, ← e1, ← e2, ← e3, ← e4]; rfl
      clear ha hb e1 e2 e3 e4 HB
      by_cases c1 : (65 : Int) ≤ (s[k].toNat : Int) <;> by_cases c2 : (s[k].toNat : Int) ≤ 90 <;> by_cases c3 : (48 : Int) ≤ (s[k].toNat : Int) <;> by_cases c4 : (s[k].toNat : Int) ≤ 57 <;> try omega
      all_goals (simp only [c1, c2, c3, c4, decide_true, decide_false, Bool.and_true, Bool.and_false, Bool.or_true, Bool.or_false] at hx; subst hx)
      all_goals first
        | (go_wp2
           go_round
           case rel => exact ⟨k + 1, by omega, by go_num, by rw [HS.out, HA.out]; rfl⟩
           case measure => simp [intOf]; omega)
        | (go_wp2
           go_ret
           exact ⟨ret_bool (by rw [HN.out trivial]), rfl⟩)
    · have hlt' : ¬ (k : Int) < (s.size : Int) := by omega
      have HT := Lib.hid (show s.data.toList.take k = s.data.toList from List.take_of_length_le (by simp; omega))
      have HA := Lib.hid ha
      by_cases h5 : s.size = 5
      · have h5' : ((s.size : Int) == 5) = true := by rw [beq_iff_eq]; omega
        have H := Lib.hid (show nameOk s = true by unfold nameOk; rw [decide_eq_true h5, ← HT.out, HA.out]; rfl)
        clear ha h5
        go_wp2
        go_ret
        exact ⟨ret_bool (by rw [H.out]), rfl⟩
      · have h5' : ((s.size : Int) == 5) = false := by rw [beq_eq_false_iff_ne]; omega
        have H := Lib.hid (show nameOk s = false by unfold nameOk; rw [decide_eq_false h5]; rfl)
        clear ha h5
        go_wp2
        go_ret
        exact ⟨ret_bool (by rw [H.out]), rfl⟩
end Go.Proofs.YtfnlgfacadmjpaaGreatDoor
namespace Go.Proofs.YtfnlgfacadmjpaaGreatDoor
open Go.RowKit

set_option maxHeartbeats 1000000 in
theorem refIsNormal_any (F A B C : Int) (w : World) :
    Calls Tryz.prog 82 #[.agg #[.int .i64 F, .int .i64 A, .int .i64 B, .int .i64 C]] w fun e w' => e = .returned (.bool (nrm F A B C)) ∧ Below w.heap.size w w' := by
  go_enter Tryz.func82, Tryz.ntmps82
  go_wp2_with fail
  have b1 := (Below.refl w.heap.size w).alloc (Nat.le_refl _) (.cells #[.int .i64 F, .int .i64 A, .int .i64 B, .int .i64 C] 50)
  have r1 := Row.new w #[.int .i64 F, .int .i64 A, .int .i64 B, .int .i64 C] 50
  generalize hW1 : w.alloc (.cells #[.int .i64 F, .int .i64 A, .int .i64 B, .int .i64 C] 50) = W1 at *
  cases hv : Pl.vb F A B C
  · refine (Pl.refNormal_no F A B C _ hv).mono ?_
    rintro e w2 ⟨rfl, g2⟩
    have N := Lib.hid (show nrm F A B C = false by unfold nrm; rw [hv]; rfl)
    have b2 := b1.trans (g2.mono b1.size)
    have r2 := r1.under g2
    clear g2 b1 r1 hW1
    go_wp2_with fail
    go_ret
    exact ⟨ret_bool (by rw [N.out]), b2.alloc b2.size _⟩
  · obtain ⟨f, rfl, hf⟩ := Pl.vb_to hv
    refine (Pl.refNormal_yes f A B C _ hf).mono ?_
    rintro e w2 ⟨rfl, g2⟩
    have N := Lib.hid (show nrm f A B C = (((Pl.Ico.nf f A B C : Nat) : Int) == (f : Int) && Pl.nw f A B C 0 == A && Pl.nw f A B C 1 == B && Pl.nw f A B C 2 == C) by unfold nrm; rw [hv, Bool.true_and]; rfl)
    have b2 := b1.trans (g2.mono b1.size)
    have r2 := r1.under g2
    clear g2 b1 r1 hW1 hv hf
    have bc : ∀ x y : Int, (x == y) = (y == x) := fun x y => by rw [Bool.eq_iff_iff, beq_iff_eq, beq_iff_eq]; exact ⟨Eq.symm, Eq.symm⟩
    rw [bc _ (f : Int), bc _ A, bc _ B, bc _ C] at N
    generalize ((Pl.Ico.nf f A B C : Nat) : Int) = n0 at *
    generalize Pl.nw f A B C 0 = n1 at *
    generalize Pl.nw f A B C 1 = n2 at *
    generalize Pl.nw f A B C 2 = n3 at *
    obtain ⟨c0, c1, c2, c3⟩ := row4 r2
    have r3 := Row.new w2 #[.int .i64 n0, .int .i64 n1, .int .i64 n2, .int .i64 n3] 50
    have hlt := r2.lt
    go_wp2_with fail
    all_goals (go_ret; exact ⟨ret_bool (by rw [N.out]; simp [*]), b2.alloc b2.size _⟩)
theorem refVal_any (k : Int) (nm : ByteArray) (t F A B C : Int) (u : Value) (L : List El.Elt.R) (w : World) (hL : El.RdIn w u L) (hs : nm.size ≤ 9223372036854775806) :
    Calls Tryz.prog 47 #[repV k nm t F A B C u] w fun e w' => e = .returned (.int .i64 (vcode k nm t F A B C L)) ∧ Below w.heap.size w w' := by
  have b1 := (Below.refl w.heap.size w).alloc (Nat.le_refl _) (.cells (repC k nm t F A B C u) 53)
  have r1 := Row.new w (repC k nm t F A B C u) 53
  have hL1 := hL.under b1
  have HK := Lib.hid (fun W => refKind_any k W)
  have HN := Lib.hid (fun W => refName_any nm W hs)
  have HT := Lib.hid (fun W => Ck.refIn_any t W)
  have HP := Lib.hid (fun W => refIsNormal_any F A B C W)
  have VK := Lib.hid (fun h => vcode_kind (k := k) (t := t) (F := F) (A := A) (B := B) (C := C) (nm := nm) (L := L) h)
  have VN := Lib.hid (fun h h2 => vcode_name (k := k) (t := t) (F := F) (A := A) (B := B) (C := C) (nm := nm) (L := L) h h2)
  have VR := Lib.hid (fun h h2 h3 => vcode_range (k := k) (t := t) (F := F) (A := A) (B := B) (C := C) (nm := nm) (L := L) h h2 h3)
  have VE := Lib.hid (fun h h2 h3 => vcode_rest (k := k) (t := t) (F := F) (A := A) (B := B) (C := C) (nm := nm) (L := L) h h2 h3)
  generalize vcode k nm t F A B C L = z at *
  clear hL
  go_enter Tryz.func47, Tryz.ntmps47
  go_upto_region 1 with fail
  generalize w.alloc (.cells (repC k nm t F A B C u) 53) = W1 at *
  obtain ⟨c0, c1, c2, c3, c4, c5, c6, c7⟩ := row8 r1
  obtain ⟨kb, hkb⟩ : ∃ b, (decide (1 ≤ k) && decide (k ≤ 3)) = b := ⟨_, rfl⟩
  rw [hkb] at HK
  go_wp2_with fail
  refine (HK.out _).mono ?_
  rintro e w2 ⟨rfl, rfl⟩
  cases kb
  · have V := Lib.hid (VK.out (by intro h; rw [decide_eq_true h.1, decide_eq_true h.2] at hkb; simp at hkb))
    clear hkb
    go_wp2_with fail
    go_ret
    exact ⟨ret_i64 (by rw [V.out]), b1⟩
  have hk : 1 ≤ k ∧ k ≤ 3 := by simpa using hkb
  clear hkb VK HK
  obtain ⟨nb, hnb⟩ : ∃ b, nameOk nm = b := ⟨_, rfl⟩
  rw [hnb] at HN
  go_wp2_with fail
  refine (HN.out _).mono ?_
  rintro e w2 ⟨rfl, rfl⟩
  cases nb
  · have V := Lib.hid (VN.out hk hnb)
    clear hnb
    go_wp2_with fail
    go_ret
    exact ⟨ret_i64 (by rw [V.out]), b1⟩
  clear VN HN
  have VR := Lib.hid (VR.out hk hnb)
  have VE := Lib.hid (VE.out hk hnb)
  clear hnb
  obtain ⟨tb, htb⟩ : ∃ b, Ck.Cal.rng t = b := ⟨_, rfl⟩
  rw [htb] at HT
  go_wp2_with fail
  refine (HT.out _).mono ?_
  rintro e w2 ⟨rfl, rfl⟩
  cases tb
  · have V := Lib.hid (VR.out (by intro h; have := Ck.Cal.rng_yes h.1 h.2.1; rw [htb] at this; cases this))
    clear htb
    go_wp2_with fail
    go_ret
    exact ⟨ret_i64 (by rw [V.out]), b1⟩
  have ht : 0 ≤ t ∧ t ≤ 52595999 := by unfold Ck.Cal.rng at htb; simpa using htb
  clear htb HT
  by_cases hk1 : k = 1
  · subst hk1
    by_cases hz : F = 0 ∧ A = 0 ∧ B = 0 ∧ C = 0
    · obtain ⟨rfl, rfl, rfl, rfl⟩ := hz
      have V := Lib.hid (VE.out ⟨ht.1, ht.2, rfl⟩)
      clear VR VE
      go_wp2_with fail
      refine (El.refValidate_any _ L _ hL1).mono ?_
      rintro e w3 ⟨rfl, g3⟩
      have B3 := Lib.hid (b1.trans (g3.mono b1.size))
      clear g3 b1
      go_wp2_with fail
      go_ret
      exact ⟨ret_i64 (by rw [V.out]), B3.out⟩
    · have V := Lib.hid (VR.out (by intro h; have := h.2.2; unfold plOk at this; rw [if_pos rfl] at this; simp at this; exact hz (by omega)))
      have HZ := Lib.hid hz
      have B3 := Lib.hid b1
      clear VR VE hz b1
      go_wp2_with fail
      all_goals first
        | (go_ret; exact ⟨ret_i64 (by rw [V.out]), B3.out⟩)
        | (exact absurd (by omega) HZ.out)
        | skip
  · have q : (k == 1) = false := beq_eq_false_iff_ne.2 hk1
    have q2 : (k != 1) = true := by rw [bne_iff_ne]; exact hk1
    have P := Lib.hid (show plOk k F A B C = nrm F A B C by unfold plOk; rw [if_neg hk1])
    obtain ⟨pb, hpb⟩ : ∃ b, nrm F A B C = b := ⟨_, rfl⟩
    rw [hpb] at HP
    clear hk1 hk
    go_wp2_with fail
    refine (HP.out _).mono ?_
    rintro e w3 ⟨rfl, g3⟩
    have b3 := b1.trans (g3.mono b1.size)
    have r3 := r1.under g3
    have hL3 := hL1.under g3
    cases pb
    · have V := Lib.hid (VR.out (by intro h; have := h.2.2; rw [P.out, hpb] at this; cases this))
      clear VR VE hpb
      go_wp2_with fail
      go_ret
      exact ⟨ret_i64 (by rw [V.out]), b3⟩
    · have V := Lib.hid (VE.out ⟨ht.1, ht.2, P.out.trans hpb⟩)
      clear VR VE hpb c0 c1 c2 c3 c4 c5 c6 c7
      obtain ⟨c0, c1, c2, c3, c4, c5, c6, c7⟩ := row8 r3
      go_wp2_with fail
      refine (El.refValidate_any _ L _ hL3).mono ?_
      rintro e w4 ⟨rfl, g4⟩
      have B4 := Lib.hid (b3.trans (g4.mono b3.size))
      clear g4 b3 b1
      go_wp2_with fail
      go_ret
      exact ⟨ret_i64 (by rw [V.out]), B4.out⟩
end Go.Proofs.YtfnlgfacadmjpaaGreatDoor
namespace Go.Proofs.YtfnlgfacadmjpaaGreatDoor
open Go.RowKit

theorem join_more (x : List UInt8) : ∀ (ws : List (List UInt8)), ws ≠ [] → Lib.join (ws ++ [x]) [32] = Lib.join ws [32] ++ ([32] ++ x)
  | [], h => absurd rfl h
  | [a], _ => by simp [Lib.join, List.intercalate]
  | a :: b :: r, _ => by
    have ih := join_more x (b :: r) (by simp)
    have e : ∀ l : List (List UInt8), Lib.join (a :: b :: l) [32] = a ++ ([32] ++ Lib.join (b :: l) [32]) := fun l => by simp [Lib.join, List.intercalate]
    rw [List.cons_append, List.cons_append, e, ← List.cons_append, ih, e]
    simp
set_option maxHeartbeats 1000000 in
theorem refWord_any (k : Int) (w : World) (hk : 1 ≤ k ∧ k ≤ 3) :
    Calls Tryz.prog 71 #[.int .i64 k] w fun e w' => e = .returned (.string (S (kw k))) ∧ Below w.heap.size w w' := by
  rcases (by omega : k = 1 ∨ k = 2 ∨ k = 3) with rfl | rfl | rfl
  all_goals
    go_enter Tryz.func71, Tryz.ntmps71
    go_wp2_with fail
    go_ret
    exact ⟨rfl, (Below.refl _ _).alloc (Nat.le_refl _) _⟩
set_option maxHeartbeats 1000000 in
theorem refFormat_no (k : Int) (nm : ByteArray) (t F A B C : Int) (u : Value) (L : List El.Elt.R) (w : World) (hL : El.RdIn w u L) (hs : nm.size ≤ 9223372036854775806) (hV : vcode k nm t F A B C L ≠ 0) :
    Calls Tryz.prog 40 #[repV k nm t F A B C u] w fun e w' => e = .returned (.tuple #[.string ⟨#[]⟩, .int .i64 (vcode k nm t F A B C L)]) ∧ Below w.heap.size w w' := by
  obtain ⟨Au, cu, rfl, -⟩ := id hL
  have b1 := (Below.refl w.heap.size w).alloc (Nat.le_refl _) (.cells (repC k nm t F A B C (.slice Au L.length cu)) 53)
  have r1 := Row.new w (repC k nm t F A B C (.slice Au L.length cu)) 53
  have HV := Lib.hid (fun W (h : El.RdIn W (.slice Au L.length cu) L) => refVal_any k nm t F A B C (.slice Au L.length cu) L W h hs)
  generalize vcode k nm t F A B C L = e0 at *
  have q : (e0 != 0) = true := by rw [bne_iff_ne]; exact hV
  go_enter Tryz.func40, Tryz.ntmps40
  go_upto_region 1 with fail
  generalize w.alloc (.cells (repC k nm t F A B C (.slice Au L.length cu)) 53) = W1 at *
  obtain ⟨c0, c1, c2, c3, c4, c5, c6, c7⟩ := row8 r1
  go_wp2_with fail
  refine (HV.out _ (hL.under b1)).mono ?_
  rintro e w2 ⟨rfl, g2⟩
  have B2 := Lib.hid (b1.trans (g2.mono b1.size))
  clear b1 r1 g2
  go_wp2_with fail
  go_ret2
  exact ⟨rfl, B2.out⟩
end Go.Proofs.YtfnlgfacadmjpaaGreatDoor
