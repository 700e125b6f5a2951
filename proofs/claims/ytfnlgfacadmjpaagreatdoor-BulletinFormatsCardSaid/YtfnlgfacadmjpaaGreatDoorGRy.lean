/- The reference's contract of Group. The reference's contract of Readable. -/
import Derived.Test.YtfnlgfacadmjpaaGreatDoorEWith
import Derived.Test.YtfnlgfacadmjpaaGreatDoorERFmt
import Derived.Test.YtfnlgfacadmjpaaGreatDoorGRw
import Derived.Test.YtfnlgfacadmjpaaGreatDoorGRr
namespace Go.Proofs.YtfnlgfacadmjpaaGreatDoor
open Go.RowKit
open Ck (dig2 b10)

theorem ddn_dig : ∀ m : Nat, m < 100 → El.Elt.ddn m 2 = dig2 (m : Int) := by decide +kernel
theorem refDigits2_from (n : Int) (w0 w : World) (h1 : 0 ≤ n) (h2 : n ≤ 99) (hb : Below w0.heap.size w0 w) :
    Calls Tryz.prog 113 #[.int .i64 n, .int .i64 2] w fun e w' => e = .returned (.string (S (dig2 n))) ∧ Below w0.heap.size w0 w' := by
  obtain ⟨m, rfl⟩ : ∃ m : Nat, n = (m : Int) := ⟨n.toNat, by omega⟩
  have h := El.refDigits_any m 2 w (by omega) (by omega)
  rw [ddn_dig m (by omega)] at h
  exact h.mono fun _ _ ⟨he, hg⟩ => ⟨he, hb.trans (hg.mono hb.size)⟩
attribute [local go_sem] S_add S_size dig2_len
set_option maxHeartbeats 2000000 in
theorem refGroup_any (t : Int) (w : World) (h : 0 ≤ t ∧ t ≤ 52595999) :
    Calls Tryz.prog 69 #[.int .i64 t] w fun e w' => e = .returned (.string (S (stp t))) ∧ Below w.heap.size w w' := by
  obtain ⟨td, th, tm⟩ := dt_bd h
  have HS := Lib.hid (show stp t = dig2 (dayOf t) ++ dig2 (hourOf t) ++ dig2 (minOf t) from rfl)
  have HD := Lib.hid (refDate_is t w h)
  generalize dayOf t = d at *
  generalize hourOf t = p at *
  generalize minOf t = q at *
  go_enter Tryz.func69, Tryz.ntmps69
  go_wp2_with fail
  refine HD.out.mono ?_
  rintro e w2 ⟨⟨y, m, rfl⟩, g2⟩
  go_upto_region 2 with fail
  refine forget (fun Y => Below w.heap.size w Y ∧ Row Y w2.heap.size 95 #[.int .i64 y, .int .i64 m, .int .i64 d, .int .i64 p, .int .i64 q]) ⟨g2.alloc g2.size _, Row.new _ _ _⟩ ?_
  rintro Y ⟨bY, r⟩
  generalize w2.heap.size = g at *
  have h0 := r.lt
  have BY := Lib.hid bY
  have R := Lib.hid r
  have hb2 := Below.refl Y.drew.heap.size Y.drew
  obtain ⟨c2, c3, c4⟩ := cells3 r hb2
  clear r bY g2 HD
  go_region_held3 (fun w' => w'.cell? ⟨g, 2, none⟩ = some (.int .i64 d) ∧ w'.cell? ⟨g, 3, none⟩ = some (.int .i64 p) ∧ w'.cell? ⟨g, 4, none⟩ = some (.int .i64 q))
    (first | go_keep | exact cells3 R.out hb2)
    (first | (go_at_call 113; refine (refDigits2_from _ Y.drew _ (by omega) (by omega) hb2).mono ?_; clear hb2; rintro e w2 ⟨rfl, hb2⟩))
  go_wp2_with fail
  go_ret
  exact ⟨ret_str (by rw [HS.out]; simp), BY.out.trans ((undrew hb2).mono BY.out.size)⟩
end Go.Proofs.YtfnlgfacadmjpaaGreatDoor
namespace Go.Proofs.YtfnlgfacadmjpaaGreatDoor
open Go.RowKit

open Ck (dig2 b10) in
theorem refRes_stamp (d h i near : Int) (w : World) (h1 : 0 ≤ d ∧ d ≤ 99) (h2 : 0 ≤ h ∧ h ≤ 99) (h3 : 0 ≤ i ∧ i ≤ 99) :
    Calls Tryz.prog 84 #[.string (S (dig2 d ++ dig2 h ++ dig2 i)), .int .i64 near] w (RsvR d h i near w) := by
  have hd : Pl.digs (S (dig2 d ++ dig2 h ++ dig2 i)).data.toList = true := by
    rw [S_list, digs_app, digs_app, digs_dig2 h1.1 h1.2, digs_dig2 h2.1 h2.2, digs_dig2 h3.1 h3.2]; rfl
  have r := refRes_digs (S (dig2 d ++ dig2 h ++ dig2 i)) near w rfl hd (48 + d / 10) (48 + d % 10) (48 + h / 10) (48 + h % 10) (48 + i / 10) (48 + i % 10)
    (b10_toNat (x := d / 10) (by omega) (by omega)) (b10_toNat (x := d % 10) (by omega) (by omega)) (b10_toNat (x := h / 10) (by omega) (by omega)) (b10_toNat (x := h % 10) (by omega) (by omega)) (b10_toNat (x := i / 10) (by omega) (by omega)) (b10_toNat (x := i % 10) (by omega) (by omega))
  rw [show (48 + d / 10 - 48) * 10 + (48 + d % 10 - 48) = d by omega, show (48 + h / 10 - 48) * 10 + (48 + h % 10 - 48) = h by omega, show (48 + i / 10 - 48) * 10 + (48 + i % 10 - 48) = i by omega] at r
  exact r
set_option maxHeartbeats 2000000 in
theorem refReadable_any (k : Int) (nm : ByteArray) (t F A B C : Int) (u : Value) (L : List El.Elt.R) (near : Int) (w : World) (hL : El.RdIn w u L) (hs : nm.size ≤ 9223372036854775806) :
    Calls Tryz.prog 48 #[repV k nm t F A B C u, .int .i64 near] w fun e w' => e = .returned (.bool (decide (vcode k nm t F A B C L = 0) && rdb t near)) ∧ Below w.heap.size w w' := by
  obtain ⟨Au, cu, rfl, -⟩ := id hL
  have b1 := (Below.refl w.heap.size w).alloc (Nat.le_refl _) (.cells (repC k nm t F A B C (.slice Au L.length cu)) 53)
  have r1 := Row.new w (repC k nm t F A B C (.slice Au L.length cu)) 53
  have hL1 := hL.under b1
  have HV := Lib.hid (fun W h => refVal_any k nm t F A B C (.slice Au L.length cu) L W h hs)
  have HN := Lib.hid (fun W => Ck.refIn_any near W)
  have HY := Lib.hid (fun h : vcode k nm t F A B C L = 0 => Vd.of h)
  generalize vcode k nm t F A B C L = c at *
  clear hL
  go_enter Tryz.func48, Tryz.ntmps48
  go_upto_region 1 with fail
  generalize w.alloc (.cells (repC k nm t F A B C (.slice Au L.length cu)) 53) = W1 at *
  obtain ⟨c0, c1, c2, c3, c4, c5, c6, c7⟩ := row8 r1
  by_cases h0 : c = 0
  · have ht := (HY.out h0).time
    subst h0
    go_wp2_with fail
    refine (HV.out _ hL1).mono ?_
    rintro e w2 ⟨rfl, g2⟩
    have b2 := b1.trans (g2.mono b1.size)
    have r2 := r1.under g2
    clear g2 b1 r1 hL1 HV HY c0 c1 c2 c3 c4 c5 c6 c7
    obtain ⟨nb, hnb⟩ : ∃ b, Ck.Cal.rng near = b := ⟨_, rfl⟩
    rw [hnb] at HN
    obtain ⟨c0, c1, c2, c3, c4, c5, c6, c7⟩ := row8 r2
    go_wp2_with fail
    refine (HN.out _).mono ?_
    rintro e w3 ⟨rfl, rfl⟩
    cases nb
    · have R := Lib.hid (show rdb t near = false by
        rw [Bool.eq_false_iff, Ne, rdb_iff]
        unfold Rdb
        rw [rsv_no (fun ho => by have := ho.2.2; rw [hnb] at this; cases this)]
        simp)
      have B := Lib.hid b2
      clear b2 hnb
      go_wp2_with fail
      go_ret
      exact ⟨ret_bool (by rw [R.out] <;> simp), B.out⟩
    · clear hnb
      obtain ⟨td, th, tm⟩ := dt_bd ht
      have RS := Lib.hid (fun W => refRes_stamp (dayOf t) (hourOf t) (minOf t) near W (by omega) (by omega) (by omega))
      have HG := Lib.hid (fun W => refGroup_any t W ht)
      have RB := Lib.hid (show rdb t near = true ↔ rsv (dayOf t) (hourOf t) (minOf t) near = some t from rdb_iff)
      unfold RsvR at RS
      unfold stp at HG
      generalize rsv (dayOf t) (hourOf t) (minOf t) near = o at *
      generalize S (Ck.dig2 (dayOf t) ++ Ck.dig2 (hourOf t) ++ Ck.dig2 (minOf t)) = st at *
      generalize dayOf t = d0 at *
      generalize hourOf t = h0 at *
      generalize minOf t = i0 at *
      have RB := Lib.hid RB.out
      go_wp2_with fail
      refine (HG.out _).mono ?_
      rintro e w4 ⟨rfl, g4⟩
      have b4 := b2.trans (g4.mono b2.size)
      have r4 := r2.under g4
      clear g4 b2 r2 HG c0 c1 c2 c3 c4 c5 c6 c7
      go_wp2_with fail
      refine (RS.out _).mono ?_
      rintro e w5 ⟨(⟨ho, a, ha, rfl⟩ | ⟨ho, ha, rfl⟩), g5⟩
      · have r5 := r4.under g5
        have B := Lib.hid (b4.trans (g5.mono b4.size))
        obtain ⟨c0, c1, c2, c3, c4, c5, c6, c7⟩ := row8 r5
        have R := Lib.hid (show rdb t near = decide (a = t) by
          rw [Bool.eq_iff_iff, RB.out, ha, decide_eq_true_iff]
          exact ⟨fun h => Option.some.inj h, fun h => by rw [h]⟩)
        by_cases hat : a = t
        · have R := Lib.hid (R.out.trans (decide_eq_true hat))
          subst hat
          clear RB ha b4 g5 r4 r5
          go_wp2_with fail
          go_ret
          exact ⟨ret_bool (by rw [R.out] <;> simp), B.out⟩
        · have R := Lib.hid (R.out.trans (decide_eq_false hat))
          have q : (a == t) = false := beq_eq_false_iff_ne.2 hat
          clear RB ha b4 g5 r4 r5
          go_wp2_with fail
          go_ret
          exact ⟨ret_bool (by rw [R.out] <;> simp), B.out⟩
      · have B := Lib.hid (b4.trans (g5.mono b4.size))
        have R := Lib.hid (show rdb t near = false by
          rw [Bool.eq_false_iff, Ne, RB.out, ha]; simp)
        clear RB ha b4 g5 r4
        go_wp2_with fail
        go_ret
        exact ⟨ret_bool (by rw [R.out] <;> simp), B.out⟩
  · have q : (c != 0) = true := by rw [bne_iff_ne]; exact h0
    have H := Lib.hid (decide_eq_false h0)
    go_wp2_with fail
    refine (HV.out _ hL1).mono ?_
    rintro e w2 ⟨rfl, g2⟩
    have B := Lib.hid (b1.trans (g2.mono b1.size))
    clear g2 b1 r1 hL1 HV HY h0
    go_wp2_with fail
    go_ret
    exact ⟨ret_bool (by rw [H.out, Bool.false_and]), B.out⟩
end Go.Proofs.YtfnlgfacadmjpaaGreatDoor
