/- Contracts of the program's kindOf and stamp.Parse at any word.; Contracts of the program's readPlace and readReadings at any words.; Contract of the program's read at any words.; Contract of the program's Parse at any text. -/
import Derived.Test.YtneglkfcelpdgaaGreatDoorMze
import Derived.Test.YtneglkfcelpdgaaGreatDoorMzq
import Derived.Test.YtneglkfcelpdgaaGreatDoorMzf
namespace Go.Proofs.YtneglkfcelpdgaaGreatDoor
open Go.RowKit
open Ck (dig2 b10)

set_option maxHeartbeats 1000000 in
theorem kindOf_no (s : ByteArray) (w : World) (hE : Env w) (h1 : s ≠ S (kw 1)) (h2 : s ≠ S (kw 2)) (h3 : s ≠ S (kw 3)) :
    Calls Tryz.prog 98 #[.string s] w fun e w' => e = .returned (.tuple #[.int .i64 0, .int .i64 3]) ∧ w' = w := by
  obtain ⟨c0, c1, c2⟩ := load_kinds w hE
  clear hE
  have e1 : ((S (kw 1)).toList == s.toList) = false := toList_ne fun e => h1 e.symm
  have e2 : ((S (kw 2)).toList == s.toList) = false := toList_ne fun e => h2 e.symm
  have e3 : ((S (kw 3)).toList == s.toList) = false := toList_ne fun e => h3 e.symm
  have j0 : ∀ w, (Instr.index 65 (.agg #[.string (S (kw 1)), .string (S (kw 2)), .string (S (kw 3))]) (.int .i64 0)).run Tryz.prog w = .ok (.string (S (kw 1))) w := fun _ => by kernel_rfl
  have j1 : ∀ w, (Instr.index 65 (.agg #[.string (S (kw 1)), .string (S (kw 2)), .string (S (kw 3))]) (.int .i64 1)).run Tryz.prog w = .ok (.string (S (kw 2))) w := fun _ => by kernel_rfl
  have j2 : ∀ w, (Instr.index 65 (.agg #[.string (S (kw 1)), .string (S (kw 2)), .string (S (kw 3))]) (.int .i64 2)).run Tryz.prog w = .ok (.string (S (kw 3))) w := fun _ => by kernel_rfl
  clear h1 h2 h3
  generalize S (kw 1) = s1 at *
  generalize S (kw 2) = s2 at *
  generalize S (kw 3) = s3 at *
  go_enter Tryz.func98, Tryz.ntmps98
  go_wp2_with fail
  go_loop [4, 5, 7] (fun _ _ t => t = .int .i64 0 ∨ t = .int .i64 1 ∨ t = .int .i64 2 ∨ t = .int .i64 3) (fun _ _ t => (3 - intOf t).toNat)
  case atStart => exact .inl rfl
  case round =>
    rcases hrel with rfl | rfl | rfl | rfl
    · go_wp2_with fail
      go_round
      case rel => exact .inr (.inl rfl)
      case measure => simp [intOf]
    · go_wp2_with fail
      go_round
      case rel => exact .inr (.inr (.inl rfl))
      case measure => simp [intOf]
    · go_wp2_with fail
      go_round
      case rel => exact .inr (.inr (.inr rfl))
      case measure => simp [intOf]
    · go_wp2_with fail
      go_ret2
      exact ⟨rfl, rfl⟩
/-- A word names a minute near another one. -/
def Stm (l : List UInt8) (near a : Int) : Prop := ∃ d h i : Int, (0 ≤ d ∧ d ≤ 99) ∧ (0 ≤ h ∧ h ≤ 99) ∧ (0 ≤ i ∧ i ≤ 99) ∧ l = dig2 d ++ dig2 h ++ dig2 i ∧ rsv d h i near = some a
theorem dig2_of {a b : UInt8} (ha : 48 ≤ a.toNat ∧ a.toNat ≤ 57) (hb : 48 ≤ b.toNat ∧ b.toNat ≤ 57) : ∃ n : Int, (0 ≤ n ∧ n ≤ 99) ∧ dig2 n = [a, b] := by
  refine ⟨10 * ((a.toNat : Int) - 48) + ((b.toNat : Int) - 48), by omega, ?_⟩
  have e1 : (10 * ((a.toNat : Int) - 48) + ((b.toNat : Int) - 48)) / 10 = (a.toNat : Int) - 48 := by omega
  have e2 : (10 * ((a.toNat : Int) - 48) + ((b.toNat : Int) - 48)) % 10 = (b.toNat : Int) - 48 := by omega
  unfold dig2
  rw [e1, e2]
  congr 1
  · have := b10_toNat (x := (a.toNat : Int) - 48) (by omega) (by omega)
    exact UInt8.toNat_inj.1 (by omega)
  · congr 1
    have := b10_toNat (x := (b.toNat : Int) - 48) (by omega) (by omega)
    exact UInt8.toNat_inj.1 (by omega)
theorem six_of {l : List UInt8} (h6 : l.length = 6) (hd : Pl.digs l = true) : ∃ d h i : Int, (0 ≤ d ∧ d ≤ 99) ∧ (0 ≤ h ∧ h ≤ 99) ∧ (0 ≤ i ∧ i ≤ 99) ∧ l = dig2 d ++ dig2 h ++ dig2 i := by
  match l, h6 with
  | [a, b, c, d, e, f], _ =>
    rw [Pl.digs_cons, Pl.digs_cons, Pl.digs_cons, Pl.digs_cons, Pl.digs_cons, Pl.digs_cons] at hd
    obtain ⟨ha, hb, hc, hd, he, hf, -⟩ := hd
    obtain ⟨x, x1, x2⟩ := dig2_of ha hb
    obtain ⟨y, y1, y2⟩ := dig2_of hc hd
    obtain ⟨z, z1, z2⟩ := dig2_of he hf
    exact ⟨x, y, z, x1, y1, z1, by rw [x2, y2, z2]; rfl⟩
theorem dig2_inj {m n : Int} (hm : 0 ≤ m ∧ m ≤ 99) (hn : 0 ≤ n ∧ n ≤ 99) (h : dig2 m = dig2 n) : m = n := by
  rw [← numv_dig2 hm.1 hm.2, ← numv_dig2 hn.1 hn.2, h]
theorem six_inj {d h i d' h' i' : Int} (h1 : 0 ≤ d ∧ d ≤ 99) (h2 : 0 ≤ h ∧ h ≤ 99) (h3 : 0 ≤ i ∧ i ≤ 99) (g1 : 0 ≤ d' ∧ d' ≤ 99) (g2 : 0 ≤ h' ∧ h' ≤ 99) (g3 : 0 ≤ i' ∧ i' ≤ 99)
    (e : dig2 d ++ dig2 h ++ dig2 i = dig2 d' ++ dig2 h' ++ dig2 i') : d = d' ∧ h = h' ∧ i = i' := by
  obtain ⟨e1, e3⟩ := List.append_inj e (by rfl)
  obtain ⟨e1, e2⟩ := List.append_inj e1 (by rfl)
  exact ⟨dig2_inj h1 g1 e1, dig2_inj h2 g2 e2, dig2_inj h3 g3 e3⟩
theorem resolve_none (d h i near : Int) (w0 w : World) (hT : Ck.Tab w0) (hr : rsv d h i near = none) (hb : Below w0.heap.size w0 w) :
    Calls Tryz.prog 51 #[.int .i64 d, .int .i64 h, .int .i64 i, .int .i64 near] w fun e w' => e = .returned (.tuple #[.int .i64 0, .int .i64 1]) ∧ Below w0.heap.size w0 w' :=
  (resolve_is d h i near w (hT.under hb)).mono fun _ _ ⟨hc, hg⟩ => by
    rcases hc with ⟨-, b, hb2, rfl⟩ | ⟨-, -, rfl⟩
    · rw [hr] at hb2; cases hb2
    · exact ⟨rfl, hb.trans (hg.mono hb.size)⟩
set_option maxHeartbeats 1000000 in
set_option maxRecDepth 100000 in
theorem res_none (d h i near : Int) (w : World) (hT : Ck.Tab w) (hn : 0 ≤ near ∧ near ≤ 52595999) (h1 : 0 ≤ d ∧ d ≤ 99) (h2 : 0 ≤ h ∧ h ≤ 99) (h3 : 0 ≤ i ∧ i ≤ 99) (hr : rsv d h i near = none) :
    Calls Tryz.prog 99 #[.string (S (dig2 d ++ dig2 h ++ dig2 i)), .int .i64 near] w fun e w' => e = .returned (.tuple #[.int .i64 0, .int .i64 3]) ∧ Below w.heap.size w w' := by
  obtain ⟨near1, near2⟩ := hn
  have sz : (S (dig2 d ++ dig2 h ++ dig2 i)).size = 6 := by rw [S_size]; rfl
  have q : (((S (dig2 d ++ dig2 h ++ dig2 i)).size : Int) != 6) = false := by rw [sz]; rfl
  have x1 : (S (dig2 d ++ dig2 h ++ dig2 i)).extract 0 2 = S (dig2 d) := by rw [extract_S]; rfl
  have x2 : (S (dig2 d ++ dig2 h ++ dig2 i)).extract 2 4 = S (dig2 h) := by rw [extract_S]; rfl
  have x3 : (S (dig2 d ++ dig2 h ++ dig2 i)).extract 4 6 = S (dig2 i) := by rw [extract_S]; rfl
  have hd : Pl.digs (S (dig2 d ++ dig2 h ++ dig2 i)).data.toList = true := by
    rw [S_list, digs_app, digs_app, digs_dig2 h1.1 h1.2, digs_dig2 h2.1 h2.2, digs_dig2 h3.1 h3.2]; rfl
  have TA := Lib.hid (fun w => trim_any (S (dig2 d ++ dig2 h ++ dig2 i)) Pl.ten w (by omega) (by omega) (by decide) (by decide) (by decide))
  rw [Pl.trim_digs hd] at TA
  have e0 := empty_eq
  have RS := Lib.hid (fun w0 w hT hb => resolve_none d h i near w0 w hT hr hb)
  generalize S (dig2 d ++ dig2 h ++ dig2 i) = s at *
  generalize hy : (⟨([] : List UInt8).toArray⟩ : ByteArray) = y at *
  have HY := Lib.hid hy
  clear hy hd hr
  go_enter Tryz.func99, Tryz.ntmps99
  go_wp2_with fail
  refine (TA.out _).mono ?_
  rintro e w1 ⟨rfl, g1⟩
  have G1 := Lib.hid g1
  have T1 := Lib.hid (hT.under g1)
  clear g1 hT TA
  go_upto_region 5 with fail
  have hb2 := Below.refl w1.drew.heap.size w1.drew
  have T1 : Hid (Ck.Tab w1.drew) := Lib.hid T1.out.drew
  go_region_held3 (fun _ => True) (trivial)
    (first | (go_at_call 125; refine (number_from _ w1.drew _ (by omega) (by omega) hb2).mono ?_; clear hb2; rintro e w2 ⟨rfl, hb2⟩) | (go_at_call 51; refine (RS.out w1.drew _ T1.out hb2).mono ?_; clear hb2; rintro e w2 ⟨rfl, hb2⟩))
  go_wp2_with fail
  go_ret2
  exact ⟨rfl, G1.out.trans ((undrew hb2).mono G1.out.size)⟩
set_option maxHeartbeats 400000 in
theorem res_len (s : ByteArray) (near : Int) (w : World) (hn : 0 ≤ near ∧ near ≤ 52595999) (hs : s.size ≠ 6) :
    Calls Tryz.prog 99 #[.string s, .int .i64 near] w fun e w' => e = .returned (.tuple #[.int .i64 0, .int .i64 3]) ∧ Below w.heap.size w w' := by
  obtain ⟨near1, near2⟩ := hn
  have q : ((s.size : Int) != 6) = true := by rw [bne_iff_ne]; omega
  clear hs
  go_enter Tryz.func99, Tryz.ntmps99
  go_wp2_with fail
  go_ret2
  exact ⟨rfl, Below.refl _ _⟩
set_option maxHeartbeats 400000 in
theorem res_bad (s : ByteArray) (near : Int) (w : World) (hn : 0 ≤ near ∧ near ≤ 52595999) (hs : s.size = 6) (hd : Pl.digs s.data.toList = false) :
    Calls Tryz.prog 99 #[.string s, .int .i64 near] w fun e w' => e = .returned (.tuple #[.int .i64 0, .int .i64 3]) ∧ Below w.heap.size w w' := by
  obtain ⟨near1, near2⟩ := hn
  have q : ((s.size : Int) != 6) = false := by rw [hs]; rfl
  have TA := Lib.hid (fun w => trim_any s Pl.ten w (by omega) (by omega) (by decide) (by decide) (by decide))
  have hne := Pl.trim_other hd
  have e0 : ((⟨(Lib.trimS s.data.toList Pl.ten.data.toList).toArray⟩ : ByteArray).toList == []) = false := by
    rw [ByteArray.toList_eq, beq_eq_false_iff_ne]
    intro e
    exact hne (by simpa using e)
  generalize hy : (⟨(Lib.trimS s.data.toList Pl.ten.data.toList).toArray⟩ : ByteArray) = y at *
  have HY := Lib.hid hy
  clear hy hd hne hs
  go_enter Tryz.func99, Tryz.ntmps99
  go_wp2_with fail
  refine (TA.out _).mono ?_
  rintro e w1 ⟨rfl, g1⟩
  go_wp2_with fail
  go_ret2
  exact ⟨rfl, g1⟩
/-- The program's stamp.Parse at any word. -/
theorem stampP_any (l : List UInt8) (near : Int) (w : World) (hT : Ck.Tab w) (hn : 0 ≤ near ∧ near ≤ 52595999) :
    Calls Tryz.prog 99 #[.string (S l), .int .i64 near] w fun e w' => ((∃ a, Stm l near a ∧ e = .returned (.tuple #[.int .i64 a, .int .i64 0])) ∨ ((∀ a, ¬ Stm l near a) ∧ e = .returned (.tuple #[.int .i64 0, .int .i64 3]))) ∧ Below w.heap.size w w' := by
  by_cases h6 : l.length = 6
  · cases hd : Pl.digs l
    · refine (res_bad (S l) near w hn (by rw [S_size]; exact h6) (by rw [S_list]; exact hd)).mono fun e w' ⟨he, hg⟩ => ⟨.inr ⟨fun a ⟨d, h, i, x1, x2, x3, x4, _⟩ => ?_, he⟩, hg⟩
      rw [x4, digs_app, digs_app, digs_dig2 x1.1 x1.2, digs_dig2 x2.1 x2.2, digs_dig2 x3.1 x3.2] at hd
      cases hd
    · obtain ⟨d, h, i, x1, x2, x3, rfl⟩ := six_of h6 hd
      cases hr : rsv d h i near with
      | none =>
        refine (res_none d h i near w hT hn x1 x2 x3 hr).mono fun e w' ⟨he, hg⟩ => ⟨.inr ⟨fun a ⟨d', h', i', y1, y2, y3, y4, y5⟩ => ?_, he⟩, hg⟩
        obtain ⟨rfl, rfl, rfl⟩ := six_inj x1 x2 x3 y1 y2 y3 y4
        rw [hr] at y5; cases y5
      | some a => exact (res_yes d h i near a w hT x1 x2 x3 hr).mono fun e w' ⟨he, hg⟩ => ⟨.inl ⟨a, ⟨d, h, i, x1, x2, x3, rfl, hr⟩, he⟩, hg⟩
  · refine (res_len (S l) near w hn (by rw [S_size]; exact h6)).mono fun e w' ⟨he, hg⟩ => ⟨.inr ⟨fun a ⟨d, h, i, x1, x2, x3, x4, _⟩ => h6 (by rw [x4]; rfl), he⟩, hg⟩
end Go.Proofs.YtneglkfcelpdgaaGreatDoor
namespace Go.Proofs.YtneglkfcelpdgaaGreatDoor
open Go.RowKit

open Classical in
/-- What both sides' Parse of elements answers to a word. -/
noncomputable def eP (x : List UInt8) : Int × Int × Int := if h : ∃ p : Int × Int, El.Elt.Val p.1 p.2 ∧ x = El.Elt.txt p.1 p.2 then ((Classical.choose h).1, (Classical.choose h).2, 0) else (0, 0, 3)
noncomputable def eRd (x : List UInt8) : El.Elt.R := ((eP x).1, (eP x).2.1)
theorem eP_cases (x : List UInt8) : (∃ c v, El.Elt.Val c v ∧ x = El.Elt.txt c v ∧ eP x = (c, v, 0)) ∨ ((∀ c v, El.Elt.Val c v → x ≠ El.Elt.txt c v) ∧ eP x = (0, 0, 3)) := by
  unfold eP
  split
  · rename_i h
    have := Classical.choose_spec h
    exact .inl ⟨_, _, this.1, this.2, rfl⟩
  · rename_i h
    exact .inr ⟨fun c v hv e => h ⟨(c, v), hv, e⟩, rfl⟩
theorem eP_go (x : List UInt8) (h : x.length ≤ 100000) (w : World) (hE : El.Env w) :
    Calls Tryz.prog 127 #[.string (S x)] w fun e w' => e = .returned (.tuple #[El.rdV (eP x).1 (eP x).2.1, .int .i64 (eP x).2.2]) ∧ Below w.heap.size w w' := by
  rcases eP_cases x with ⟨c, v, hv, rfl, e⟩ | ⟨hn, e⟩
  · rw [e]; exact El.parse_yes c v w hE hv
  · rw [e]; exact El.parse_no (S x) w hE (by rw [S_size]; exact h) (fun c v hv e => hn c v hv (S_inj e))
theorem eP_ref (x : List UInt8) (w : World) :
    Calls Tryz.prog 65 #[.string (S x)] w fun e w' => e = .returned (.tuple #[El.rdV (eP x).1 (eP x).2.1, .int .i64 (eP x).2.2]) ∧ Below w.heap.size w w' := by
  rcases eP_cases x with ⟨c, v, hv, rfl, e⟩ | ⟨hn, e⟩
  · rw [e]; exact El.refParse_yes c v w hv
  · rw [e]; exact El.refParse_no (S x) w (fun c v hv e => hn c v hv (S_inj e))
/-- What both sides' Parse of places answers to a word. -/
def pP (x : List UInt8) : Int × Int × Int × Int × Int :=
  if x.length = 8 ∧ Pl.digs x = true ∧ Pl.vb (Pl.fld (S x) 0 2) (Pl.fld (S x) 2 5) (Pl.fld (S x) 5 8) (840 - Pl.fld (S x) 2 5 - Pl.fld (S x) 5 8) = true
  then (Pl.fld (S x) 0 2, Pl.fld (S x) 2 5, Pl.fld (S x) 5 8, 840 - Pl.fld (S x) 2 5 - Pl.fld (S x) 5 8, 0) else (0, 0, 0, 0, 3)
theorem pP_cases (x : List UInt8) : (S x).size ≠ 8 ∧ pP x = (0, 0, 0, 0, 3) ∨ (S x).size = 8 ∧ Pl.digs (S x).data.toList = false ∧ pP x = (0, 0, 0, 0, 3) ∨
    (S x).size = 8 ∧ Pl.digs (S x).data.toList = true ∧ Pl.vb (Pl.fld (S x) 0 2) (Pl.fld (S x) 2 5) (Pl.fld (S x) 5 8) (840 - Pl.fld (S x) 2 5 - Pl.fld (S x) 5 8) = false ∧ pP x = (0, 0, 0, 0, 3) ∨
    (S x).size = 8 ∧ Pl.digs (S x).data.toList = true ∧ Pl.vb (Pl.fld (S x) 0 2) (Pl.fld (S x) 2 5) (Pl.fld (S x) 5 8) (840 - Pl.fld (S x) 2 5 - Pl.fld (S x) 5 8) = true ∧ pP x = (Pl.fld (S x) 0 2, Pl.fld (S x) 2 5, Pl.fld (S x) 5 8, 840 - Pl.fld (S x) 2 5 - Pl.fld (S x) 5 8, 0) := by
  rw [S_size, S_list]
  by_cases h8 : x.length = 8
  · cases hd : Pl.digs x
    · exact .inr (.inl ⟨h8, rfl, by unfold pP; rw [if_neg (fun h => by rw [hd] at h; cases h.2.1)]⟩)
    · cases hv : Pl.vb (Pl.fld (S x) 0 2) (Pl.fld (S x) 2 5) (Pl.fld (S x) 5 8) (840 - Pl.fld (S x) 2 5 - Pl.fld (S x) 5 8)
      · exact .inr (.inr (.inl ⟨h8, rfl, rfl, by unfold pP; rw [if_neg (fun h => by rw [hv] at h; cases h.2.2)]⟩))
      · exact .inr (.inr (.inr ⟨h8, rfl, rfl, by unfold pP; rw [if_pos ⟨h8, hd, hv⟩]⟩))
  · exact .inl ⟨h8, by unfold pP; rw [if_neg (fun h => h8 h.1)]⟩
theorem pP_go (x : List UInt8) (w : World) :
    Calls Tryz.prog 126 #[.string (S x)] w fun e w' => e = .returned (.tuple #[.agg #[.int .i64 (pP x).1, .int .i64 (pP x).2.1, .int .i64 (pP x).2.2.1, .int .i64 (pP x).2.2.2.1], .int .i64 (pP x).2.2.2.2]) ∧ Below w.heap.size w w' := by
  rcases pP_cases x with ⟨h, e⟩ | ⟨h, hd, e⟩ | ⟨h, hd, hv, e⟩ | ⟨h, hd, hv, e⟩
  · rw [e]; exact Pl.parse_len _ w h
  · rw [e]; exact Pl.parse_bad _ w h hd
  · rw [e]; exact Pl.parse_inv _ w h hd hv
  · rw [e]; exact Pl.parse_val _ w h hd hv
theorem pP_ref (x : List UInt8) (w : World) :
    Calls Tryz.prog 64 #[.string (S x)] w fun e w' => e = .returned (.tuple #[.agg #[.int .i64 (pP x).1, .int .i64 (pP x).2.1, .int .i64 (pP x).2.2.1, .int .i64 (pP x).2.2.2.1], .int .i64 (pP x).2.2.2.2]) ∧ Below w.heap.size w w' := by
  rcases pP_cases x with ⟨h, e⟩ | ⟨h, hd, e⟩ | ⟨h, hd, hv, e⟩ | ⟨h, hd, hv, e⟩
  · rw [e]; exact Pl.refParse_len _ w h
  · rw [e]; exact Pl.refParse_bad _ w h hd
  · rw [e]; exact Pl.refParse_inv _ w h hd hv
  · rw [e]; exact Pl.refParse_val _ w h hd hv
set_option maxRecDepth 100000 in
set_option maxHeartbeats 1000000 in
theorem readPl_word (k : Int) (hk : k ≠ 1) (v : Value) (x : List UInt8) (F A B C r : Int) (ws : List (List UInt8)) (w : World) (hW : WIn w v (x :: ws)) (hP : ∀ w, Calls Tryz.prog 126 #[.string (S x)] w fun e w' => e = .returned (.tuple #[.agg #[.int .i64 F, .int .i64 A, .int .i64 B, .int .i64 C], .int .i64 r]) ∧ Below w.heap.size w w') :
    Calls Tryz.prog 100 #[.int .i64 k, v] w fun e w' => ∃ v', e = .returned (.tuple #[.agg #[.int .i64 F, .int .i64 A, .int .i64 B, .int .i64 C], v', .int .i64 r]) ∧ WIn w' v' ws ∧ Below w.heap.size w w' := by
  obtain ⟨g, off, cap, rfl, h1, h2, hg, c0, hrest⟩ := hW.one
  have q : (k == 1) = false := beq_eq_false_iff_ne.2 hk
  have HP := Lib.hid hP
  have HR := Lib.hid hrest
  have n0 : ¬ ((ws.length : Int) + 1 = 0) := by omega
  have n1 : (1 : Int) ≤ (ws.length : Int) + 1 := by omega
  have n2 : (ws.length : Int) + 1 ≤ (cap : Int) := by omega
  have n3 : (1 : Int) ≤ (cap : Int) := by omega
  have n4 : ((ws.length : Int) + 1 - 1).toNat = ws.length := by omega
  generalize S x = tx at *
  clear hW hP hrest hk
  have r4 := Row.new w #[.int .i64 0, .int .i64 0, .int .i64 0, .int .i64 0] 23
  have b4 := (Below.refl w.heap.size w).alloc (Nat.le_refl _) (.cells #[.int .i64 0, .int .i64 0, .int .i64 0, .int .i64 0] 23)
  go_enter Tryz.func100, Tryz.ntmps100
  go_wp2_with fail
  generalize w.alloc (.cells #[.int .i64 0, .int .i64 0, .int .i64 0, .int .i64 0] 23) = W0 at *
  refine (HP.out _).mono ?_
  rintro e w2 ⟨rfl, g2⟩
  have r5 := (r4.under g2).alloc (.cells #[.int .i64 F, .int .i64 A, .int .i64 B, .int .i64 C] 23)
  have b5 := (b4.trans (g2.mono b4.size)).alloc (Nat.le_trans b4.size g2.size) (.cells #[.int .i64 F, .int .i64 A, .int .i64 B, .int .i64 C] 23)
  have rn := Row.new w2 #[.int .i64 F, .int .i64 A, .int .i64 B, .int .i64 C] 23
  have hne : w.heap.size ≠ w2.heap.size := Nat.ne_of_lt (Nat.lt_of_lt_of_le r4.lt g2.size)
  go_upto_region 6 with fail
  generalize w2.alloc (.cells #[.int .i64 F, .int .i64 A, .int .i64 B, .int .i64 C] 23) = W5 at *
  generalize w2.heap.size = g7 at *
  clear r4 b4 c0 g2
  have f0 := r5.thaw 0
  have f1 := r5.thaw 1
  have f2 := r5.thaw 2
  have f3 := r5.thaw 3
  obtain ⟨q0, q1, q2, q3⟩ := row4 r5
  obtain ⟨p0, p1, p2, p3⟩ := row4 rn
  have HZ := Lib.hid ((set4_row (.int .i64 F) (.int .i64 A) (.int .i64 B) (.int .i64 C) r5).drew)
  have HB := Lib.hid b5
  have RN := Lib.hid rn
  clear r5 rn b5
  refine wp_region_held_drew (S := fun w' : World => w'.cell? ⟨g7, 0, none⟩ = some (.int .i64 F) ∧ w'.cell? ⟨g7, 1, none⟩ = some (.int .i64 A) ∧ w'.cell? ⟨g7, 2, none⟩ = some (.int .i64 B) ∧ w'.cell? ⟨g7, 3, none⟩ = some (.int .i64 C)) (by kernel_rfl) ⟨p0, p1, p2, p3⟩ (fun hHeld => ?_)
  refine wpAnyH_take (i := 0) (v := ?_) rfl (by kernel_rfl) (by kernel_rfl) (by kernel_rfl) (fun _ _ _ h => h) (Or.inl ⟨by rfl, ?_⟩) (by assumption) ?_
  case refine_2 => (intro wx hSx; (try dsimp only at hSx); go_simp; first | done | with_reducible rfl)
  try simp only [Act.put]
  refine wpAnyH_take (i := 1) (v := ?_) rfl (by kernel_rfl) (by kernel_rfl) (by kernel_rfl) (fun _ _ _ h => h) (Or.inl ⟨by rfl, ?_⟩) (by assumption) ?_
  case refine_2 => (intro wx hSx; (try dsimp only at hSx); go_simp; first | done | with_reducible rfl)
  try simp only [Act.put]
  refine wpAnyH_take (i := 2) (v := ?_) rfl (by kernel_rfl) (by kernel_rfl) (by kernel_rfl) (fun _ _ _ h => h) (Or.inl ⟨by rfl, ?_⟩) (by assumption) ?_
  case refine_2 => (intro wx hSx; (try dsimp only at hSx); go_simp; first | done | with_reducible rfl)
  try simp only [Act.put]
  refine wpAnyH_take (i := 3) (v := ?_) rfl (by kernel_rfl) (by kernel_rfl) (by kernel_rfl) (fun _ _ _ h => h) (Or.inl ⟨by rfl, ?_⟩) (by assumption) ?_
  case refine_2 => (intro wx hSx; (try dsimp only at hSx); go_simp; first | done | with_reducible rfl)
  try simp only [Act.put]
  refine wpAnyH_ready (rs := [4]) (by kernel_rfl) (by simp) ?_
  refine AllReadyH.cons (o := ⟨none, _, _, _, _, none⟩) rfl (fun K hK => ?_) AllReadyH.nil
  go_simp
  refine hK.out _ _ (row4 (set4_far _ _ _ _ RN.out.drew hne)) (fun hHeld2 => ?_)
  clear hK K hHeld
  try simp only [Act.put]
  refine wpAnyH_take (i := 5) (oi := ⟨some 5, _, _, _, _, none⟩) (v := ?_) rfl (by kernel_rfl) (by kernel_rfl) (by kernel_rfl) (fun _ _ _ h => h) (Or.inl ⟨by rfl, ?_⟩) (by assumption) ?_
  case refine_2 => (intro wx hSx; (try dsimp only at hSx); go_simp; first | done | with_reducible rfl)
  try simp only [Act.put]
  refine wpAnyH_take (i := 6) (oi := ⟨some 6, _, _, _, _, none⟩) (v := ?_) rfl (by kernel_rfl) (by kernel_rfl) (by kernel_rfl) (fun _ _ _ h => h) (Or.inl ⟨by rfl, ?_⟩) (by assumption) ?_
  case refine_2 => (intro wx hSx; (try dsimp only at hSx); go_simp; first | done | with_reducible rfl)
  try simp only [Act.put]
  refine wpAnyH_done (by kernel_rfl) ?_ _
  clear f0 f1 f2 f3 q0 q1 q2 q3 p0 p1 p2 p3
  go_wp2_with fail
  · have HF := Lib.hid (set4_below (u0 := .int .i64 F) (u1 := .int .i64 A) (u2 := .int .i64 B) (u3 := .int .i64 C) HB.out (Nat.le_refl _)).drew
    have l0 : ws.length = 0 := by omega
    exact bodyPost_ret (v := .tuple #[.agg #[.int .i64 F, .int .i64 A, .int .i64 B, .int .i64 C], .slice (some ⟨g, off, none⟩) ws.length 0, .int .i64 r]) (by obtain ⟨z0, z1, z2, z3⟩ := row4 HZ.out; simp [results, Tryz.results100, z0, z1, z2, z3, go_sem]) rfl
      ⟨_, rfl, ⟨_, 0, rfl, by omega, by omega, fun i hi => absurd hi (by omega)⟩, HF.out⟩
  · have HF := Lib.hid (set4_below (u0 := .int .i64 F) (u1 := .int .i64 A) (u2 := .int .i64 B) (u3 := .int .i64 C) HB.out (Nat.le_refl _)).drew
    exact bodyPost_ret (v := .tuple #[.agg #[.int .i64 F, .int .i64 A, .int .i64 B, .int .i64 C], .slice (some ⟨g, off + 1, none⟩) ws.length (cap - 1), .int .i64 r]) (by obtain ⟨z0, z1, z2, z3⟩ := row4 HZ.out; simp [results, Tryz.results100, z0, z1, z2, z3, go_sem]) rfl
      ⟨_, rfl, ⟨_, cap - 1, rfl, by omega, by omega, fun i hi => ⟨g, off + 1, rfl, Nat.lt_of_lt_of_le hg HF.out.size, by
        rw [show off + 1 + i = off + (i + 1) by omega]
        exact (HF.out.cell (p := ⟨g, off + (i + 1), none⟩) hg).trans (HR.out i hi)⟩⟩, HF.out⟩
set_option maxHeartbeats 400000 in
theorem readPl_none (k : Int) (hk : k ≠ 1) (A : Option Addr) (c : Nat) (w : World) :
    Calls Tryz.prog 100 #[.int .i64 k, .slice A 0 c] w fun e w' => e = .returned (.tuple #[.agg #[.int .i64 0, .int .i64 0, .int .i64 0, .int .i64 0], .slice none 0 0, .int .i64 3]) ∧ Below w.heap.size w w' := by
  have q : (k == 1) = false := beq_eq_false_iff_ne.2 hk
  clear hk
  have r4 := Row.new w #[.int .i64 0, .int .i64 0, .int .i64 0, .int .i64 0] 23
  have b4 := (Below.refl w.heap.size w).alloc (Nat.le_refl _) (.cells #[.int .i64 0, .int .i64 0, .int .i64 0, .int .i64 0] 23)
  go_enter Tryz.func100, Tryz.ntmps100
  go_upto_region 1 with fail
  generalize w.alloc (.cells #[.int .i64 0, .int .i64 0, .int .i64 0, .int .i64 0] 23) = W0 at *
  have f0 := r4.thaw 0
  have f1 := r4.thaw 1
  have f2 := r4.thaw 2
  have f3 := r4.thaw 3
  obtain ⟨q0, q1, q2, q3⟩ := row4 r4
  have HZ := Lib.hid (set4_row (.int .i64 0) (.int .i64 0) (.int .i64 0) (.int .i64 0) r4)
  have HB := Lib.hid b4
  clear r4 b4
  go_wp2_with fail
  clear f0 f1 f2 f3 q0 q1 q2 q3
  exact bodyPost_ret (v := .tuple #[.agg #[.int .i64 0, .int .i64 0, .int .i64 0, .int .i64 0], .slice none 0 0, .int .i64 3]) (by obtain ⟨z0, z1, z2, z3⟩ := row4 HZ.out; simp [results, Tryz.results100, z0, z1, z2, z3, go_sem]) rfl ⟨rfl, set4_below HB.out (Nat.le_refl _)⟩
set_option maxHeartbeats 2000000 in
theorem readRs_any (v : Value) (ws : List (List UInt8)) (w : World) (hW : WIn w v ws) (hE : Env w) (hl : ws.length ≤ 15) (hs : ∀ x ∈ ws, x.length ≤ 100000) :
    Calls Tryz.prog 101 #[v] w fun e w' => ∃ (u : Value) (r : Int), e = .returned (.tuple #[u, .int .i64 r]) ∧ ((r = 0 ∧ (∀ x ∈ ws, (eP x).2.2 = 0) ∧ Rl w (ws.map eRd) u w') ∨ (r ≠ 0 ∧ (∃ x ∈ ws, (eP x).2.2 ≠ 0) ∧ Below w.heap.size w w')) := by
  obtain ⟨i0, hi, hz0, hz1, hz2⟩ := info_parts El.infoReading
  obtain ⟨A, cap, rfl, h1, h2, h3⟩ := hW
  have H3 := Lib.hid h3
  have HS := Lib.hid hs
  clear h3 hs
  go_enter Tryz.func101, Tryz.ntmps101
  go_wp2_with fail
  go_loopw [4, 6, 7, 8, 11] (fun u _ _ _ t wr => ∃ k : Nat, k ≤ ws.length ∧ t = .int .i64 k ∧ (∀ x ∈ ws.take k, (eP x).2.2 = 0) ∧ Rl w ((ws.take k).map eRd) u wr) (fun _ _ _ _ t _ => ws.length - (intOf t).toNat)
  case atStart => exact ⟨0, Nat.zero_le _, rfl, fun x hx => by simp at hx, Below.refl _ _, World.ownsRow_nil _ _ _ _⟩
  case round =>
    obtain ⟨k, hk, rfl, hok, hr⟩ := hrel
    have HR := Lib.hid hr; clear hr
    have HOK := Lib.hid hok; clear hok
    by_cases hlt : k < ws.length
    · obtain ⟨g, off, rfl, hg, c0⟩ := H3.out k hlt
      have c0 := (HR.out.below.cell (p := ⟨g, off + k, none⟩) hg).trans c0
      have k0 : (0 : Int) ≤ (k : Int) := by omega
      have k1 : (k : Int) < (ws.length : Int) := by omega
      have x1 : IntKind.i64.wrap (k : Int) = (k : Int) := IntWalk.i64_in _ (by omega)
      have hsz := HS.out _ (List.getElem_mem hlt)
      have hmem := Lib.hid (List.getElem_mem hlt)
      have hn := Lib.hid (show ws.take (k + 1) = ws.take k ++ [ws[k]] from List.take_succ_eq_append_getElem hlt)
      have hml : ((ws.take k).map eRd).length ≤ 15 := by rw [List.length_map, List.length_take]; omega
      generalize ws[k] = x at *
      have HP := Lib.hid (eP_go x hsz _ (hE.under HR.out.below).el)
      have hx : eRd x = ((eP x).1, (eP x).2.1) := rfl
      have HX := Lib.hid hx; clear hx
      obtain ⟨er, her⟩ : ∃ r, (eP x).2.2 = r := ⟨_, rfl⟩
      rw [her] at HP
      have HER := Lib.hid her; clear her
      generalize (eP x).1 = x0 at *
      generalize (eP x).2.1 = x2 at *
      generalize S x = tx at *
      clear hsz
      go_wp2_with fail
      refine HP.out.mono ?_
      rintro e w6 ⟨rfl, g6⟩
      have r6 := Row.new w6 #[.int .i64 x0, .int .i64 x2] 63
      have R7 := Lib.hid ((HR.out.under g6).under ((Below.refl _ _).alloc (Nat.le_refl _) (.cells #[.int .i64 x0, .int .i64 x2] 63)))
      have R8 := Lib.hid (R7.out.under ((Below.refl _ _).alloc (Nat.le_refl _) (.cells #[.int .i64 x0, .int .i64 x2] 63)))
      obtain ⟨d0, d1⟩ := row2 r6
      clear HP g6 HR
      by_cases he : er = 0
      · subst he
        generalize hM : (ws.take k).map eRd = M at *
        have HM := Lib.hid hM; clear hM
        go_wp2_with (at_builtin; refine wpList_append_lies _ rfl (.tmp 23) (.tmp 25) 24 rfl w.heap.size 63 i0 _ 2 16 Tryz.underlying24 hi hz0 hz1 hz2 rfl (by decide) «u4» M.length (El.rdc M) rfl R8.out.own ⟨w6.heap.size + 1, 0, none⟩ 1 1 [.int .i64 x0, .int .i64 x2] rfl rfl (World.news_of_block (cs := #[.int .i64 x0, .int .i64 x2]) (t := 63) (fr := (0, 0)) (by have := heap_alloc_new (w6.alloc (.cells #[.int .i64 x0, .int .i64 x2] 63)) (.cells #[.int .i64 x0, .int .i64 x2] 63); simpa using this)) (by simp [Value.oneCell']) (by omega) (by unfold maxLen; omega) (by omega) R8.out.below.size (w6.heap.size + 2) (by simp) ?_; intro g' cap' w8 hown8 hgrow8 hat8 hlt8; have R9 := Lib.hid (R8.out.more (x := (x0, x2)) hown8 hgrow8); clear hown8 hgrow8 hat8 hlt8)
        go_roundw
        case rel =>
          refine ⟨k + 1, by omega, by go_num, fun y hy => ?_, ?_⟩
          · rw [hn.out] at hy
            rcases List.mem_append.1 hy with hy | hy
            · exact HOK.out y hy
            · rw [List.mem_singleton.1 hy]; exact HER.out
          · rw [hn.out, List.map_append, HM.out, List.map_cons, List.map_nil, HX.out]; exact R9.out
        case measure => simp [intOf]; omega
      · have q : (er != 0) = true := by rw [bne_iff_ne]; exact he
        have HB := Lib.hid R7.out.below
        have HE' := Lib.hid he
        clear R8 he
        go_wp2_with fail
        go_ret2
        exact ⟨_, er, rfl, .inr ⟨HE'.out, ⟨x, hmem.out, by rw [HER.out]; exact HE'.out⟩, HB.out⟩⟩
    · have hke : k = ws.length := by omega
      have k1 : ¬ ((k : Int) < (ws.length : Int)) := by omega
      subst hke
      rw [List.take_length] at HR HOK
      go_wp2_with fail
      go_ret2
      exact ⟨_, 0, rfl, .inl ⟨rfl, HOK.out, HR.out⟩⟩
end Go.Proofs.YtneglkfcelpdgaaGreatDoor
namespace Go.Proofs.YtneglkfcelpdgaaGreatDoor
open Go.RowKit

/-- What stands behind the time: a place, or none, and the readings' words. -/
def Plx (k : Int) (rest : List (List UInt8)) (F A B C : Int) (rs : List (List UInt8)) : Prop :=
  (k = 1 ∧ F = 0 ∧ A = 0 ∧ B = 0 ∧ C = 0 ∧ rest = rs) ∨ (k ≠ 1 ∧ ∃ x, rest = x :: rs ∧ pP x = (F, A, B, C, 0))
/-- These words are a report's, near a minute. -/
def Rdd (ws : List (List UInt8)) (near k : Int) (nm : List UInt8) (t F A B C : Int) (L : List El.Elt.R) : Prop :=
  ∃ st rest rs, ws = kw k :: nm :: st :: rest ∧ (1 ≤ k ∧ k ≤ 3) ∧ Stm st near t ∧ Plx k rest F A B C rs ∧ (∀ y ∈ rs, (eP y).2.2 = 0) ∧ L = rs.map eRd
theorem Plx.sub {k : Int} {rest rs : List (List UInt8)} {F A B C : Int} (h : Plx k rest F A B C rs) : (∀ y ∈ rs, y ∈ rest) ∧ rs.length ≤ rest.length := by
  rcases h with ⟨-, -, -, -, -, rfl⟩ | ⟨-, x, rfl, -⟩
  · exact ⟨fun y h => h, Nat.le_refl _⟩
  · exact ⟨fun y h => List.mem_cons_of_mem _ h, by simp⟩
theorem Plx.one {k : Int} {rest rs rs' : List (List UInt8)} {F A B C F' A' B' C' : Int} (h : Plx k rest F A B C rs) (h' : Plx k rest F' A' B' C' rs') : rs = rs' := by
  rcases h with ⟨e, -, -, -, -, rfl⟩ | ⟨e, x, rfl, -⟩
  · rcases h' with ⟨-, -, -, -, -, e2⟩ | ⟨e2, -⟩
    · exact e2
    · exact absurd e e2
  · rcases h' with ⟨e2, -⟩ | ⟨-, y, e3, -⟩
    · exact absurd e2 e
    · injection e3
theorem readPl_any (k : Int) (g off cap : Nat) (rest : List (List UInt8)) (w : World) (hW : WIn w (.slice (some ⟨g, off, none⟩) rest.length cap) rest) :
    Calls Tryz.prog 100 #[.int .i64 k, .slice (some ⟨g, off, none⟩) rest.length cap] w fun e w' => ∃ (F A B C r : Int) (v' : Value), e = .returned (.tuple #[.agg #[.int .i64 F, .int .i64 A, .int .i64 B, .int .i64 C], v', .int .i64 r]) ∧ Below w.heap.size w w' ∧
      ((r = 0 ∧ ∃ rs, WIn w' v' rs ∧ Plx k rest F A B C rs) ∨ (r ≠ 0 ∧ ∀ F A B C rs, ¬ Plx k rest F A B C rs)) := by
  by_cases hk : k = 1
  · subst hk
    exact (readPl_land _ w).mono fun e w' ⟨he, hg⟩ => ⟨0, 0, 0, 0, 0, _, he, hg, .inl ⟨rfl, rest, hW.under hg, .inl ⟨rfl, rfl, rfl, rfl, rfl, rfl⟩⟩⟩
  · cases rest with
    | nil =>
      refine (readPl_none k hk (some ⟨g, off, none⟩) cap w).mono fun e w' ⟨he, hg⟩ => ⟨0, 0, 0, 0, 3, _, he, hg, .inr ⟨by decide, fun F A B C rs h => ?_⟩⟩
      rcases h with ⟨e, -⟩ | ⟨-, x, e, -⟩
      · exact hk e
      · cases e
    | cons x rs =>
      refine (readPl_word k hk _ x _ _ _ _ _ rs w hW (pP_go x)).mono fun e w' ⟨v', he, hw, hg⟩ => ⟨_, _, _, _, _, v', he, hg, ?_⟩
      by_cases hr : (pP x).2.2.2.2 = 0
      · exact .inl ⟨hr, rs, hw, .inr ⟨hk, x, rfl, by rw [← hr]⟩⟩
      · refine .inr ⟨hr, fun F A B C rs' h => ?_⟩
        rcases h with ⟨e, -⟩ | ⟨-, y, e, hy⟩
        · exact hk e
        · injection e with e1 e2
          subst e1
          rw [hy] at hr
          exact hr rfl
/-- What read leaves. -/
def RdO (ws : List (List UInt8)) (near : Int) (w : World) (e : Ending) (w' : World) : Prop :=
  (∃ (k : Int) (nm : List UInt8) (t F A B C : Int) (L : List El.Elt.R) (u : Value), Rdd ws near k nm t F A B C L ∧ e = .returned (.tuple #[repV k (S nm) t F A B C u, .int .i64 0]) ∧ El.RdIn w' u L ∧ (∀ i, u.ownBlock = some i → w.heap.size ≤ i) ∧ Below w.heap.size w w') ∨
  ((∀ k nm t F A B C L, ¬ Rdd ws near k nm t F A B C L) ∧ ∃ r : Int, r ≠ 0 ∧ e = .returned (.tuple #[repV 0 ⟨#[]⟩ 0 0 0 0 0 (.slice none 0 0), .int .i64 r]) ∧ Below w.heap.size w w')
theorem kw_cases (s : List UInt8) : (∃ k : Int, (1 ≤ k ∧ k ≤ 3) ∧ s = kw k) ∨ (S s ≠ S (kw 1) ∧ S s ≠ S (kw 2) ∧ S s ≠ S (kw 3)) := by
  by_cases h1 : s = kw 1
  · exact .inl ⟨1, by omega, h1⟩
  · by_cases h2 : s = kw 2
    · exact .inl ⟨2, by omega, h2⟩
    · by_cases h3 : s = kw 3
      · exact .inl ⟨3, by omega, h3⟩
      · exact .inr ⟨fun e => h1 (S_inj e), fun e => h2 (S_inj e), fun e => h3 (S_inj e)⟩
theorem kw_inj {k k' : Int} (h : 1 ≤ k ∧ k ≤ 3) (h' : 1 ≤ k' ∧ k' ≤ 3) (e : kw k = kw k') : k = k' := by
  rcases (by omega : k = 1 ∨ k = 2 ∨ k = 3) with rfl | rfl | rfl <;> rcases (by omega : k' = 1 ∨ k' = 2 ∨ k' = 3) with rfl | rfl | rfl <;> first | rfl | exact absurd e (by decide)
set_option maxRecDepth 100000 in
set_option maxHeartbeats 4000000 in
theorem read_any (ws : List (List UInt8)) (near : Int) (g off cap : Nat) (w : World) (hE : Env w) (hn : 0 ≤ near ∧ near ≤ 52595999) (hcap : 4 ≤ cap ∨ ws.length < 3 ∨ ∀ x ∈ ws, x = []) (hl : ws.length ≤ 15) (hs : ∀ x ∈ ws, x.length ≤ 100000)
    (hW : WIn w (.slice (some ⟨g, off, none⟩) ws.length cap) ws) :
    Calls Tryz.prog 61 #[.slice (some ⟨g, off, none⟩) ws.length cap, .int .i64 near] w (RdO ws near w) := by
  have b4 := (Below.refl w.heap.size w).alloc (Nat.le_refl _) (.cells (repC 0 ⟨#[]⟩ 0 0 0 0 0 (.slice none 0 0)) 26)
  have r4 := Row.new w (repC 0 ⟨#[]⟩ 0 0 0 0 0 (.slice none 0 0)) 26
  have hE4 := hE.under b4
  by_cases h3 : ws.length < 3
  · have n1 : (ws.length : Int) < 3 := by omega
    have hno : ∀ k nm t F A B C L, ¬ Rdd ws near k nm t F A B C L := fun k nm t F A B C L ⟨st, rest, rs, e, _⟩ => by rw [e] at h3; simp at h3; omega
    have HNO := Lib.hid hno
    clear hno h3 hcap hl hs hW hE hE4 hn
    go_enter Tryz.func61, Tryz.ntmps61
    go_upto_region 1 with fail
    generalize w.alloc (.cells (repC 0 ⟨#[]⟩ 0 0 0 0 0 (.slice none 0 0)) 26) = W0 at *
    have f0 := r4.thaw 0
    have f1 := r4.thaw 1
    have f2 := r4.thaw 2
    have f3 := r4.thaw 3
    have f4 := r4.thaw 4
    have f5 := r4.thaw 5
    have f6 := r4.thaw 6
    have f7 := r4.thaw 7
    obtain ⟨q0, q1, q2, q3, q4, q5, q6, q7⟩ := row8 r4
    have HZ := Lib.hid (set8_row (.int .i64 0) (.string ⟨#[]⟩) (.int .i64 0) (.int .i64 0) (.int .i64 0) (.int .i64 0) (.int .i64 0) (.slice none 0 0) r4)
    have HF := Lib.hid (set8_below (u0 := .int .i64 0) (u1 := .string ⟨#[]⟩) (u2 := .int .i64 0) (u3 := .int .i64 0) (u4 := .int .i64 0) (u5 := .int .i64 0) (u6 := .int .i64 0) (u7 := .slice none 0 0) b4 (Nat.le_refl _))
    clear b4 r4
    go_wp2_with fail
    clear f0 f1 f2 f3 f4 f5 f6 f7 q0 q1 q2 q3 q4 q5 q6 q7
    exact bodyPost_ret (v := .tuple #[repV 0 ⟨#[]⟩ 0 0 0 0 0 (.slice none 0 0), .int .i64 3]) (by obtain ⟨z0, z1, z2, z3, z4, z5, z6, z7⟩ := row8 HZ.out; simp [results, Tryz.results61, z0, z1, z2, z3, z4, z5, z6, z7, go_sem]) rfl (.inr ⟨HNO.out, 3, by omega, rfl, HF.out⟩)
  obtain ⟨x0, x1, x2, rest, rfl⟩ : ∃ a b c r, ws = a :: b :: c :: r := by
    rcases ws with _ | ⟨a, _ | ⟨b, _ | ⟨c, r⟩⟩⟩
    · exact absurd (by simp) h3
    · exact absurd (by simp) h3
    · exact absurd (by simp) h3
    · exact ⟨a, b, c, r, rfl⟩
  clear h3
  have hcap : 4 ≤ cap ∨ x0 = [] := by
    rcases hcap with h | h | h
    · exact .inl h
    · simp at h; omega
    · exact .inr (h x0 (by simp))
  obtain ⟨A', cap', he, h1, h2, h3⟩ := hW
  obtain ⟨rfl, rfl⟩ : (some ⟨g, off, none⟩ : Option Addr) = A' ∧ cap = cap' := by injection he with e1 e2 e3; exact ⟨e1, e3⟩
  clear he
  have key : ∀ i (h : i < (x0 :: x1 :: x2 :: rest).length), g < w.heap.size ∧ w.cell? ⟨g, off + i, none⟩ = some (.string (S (x0 :: x1 :: x2 :: rest)[i])) := fun i hi => by
    obtain ⟨g', off', e, hg, hc⟩ := h3 i hi
    obtain ⟨rfl, rfl⟩ : g = g' ∧ off = off' := by injection e with e; injection e with e1 e2; exact ⟨e1, e2⟩
    exact ⟨hg, hc⟩
  have hg := (key 0 (by simp)).1
  have c0 : w.cell? ⟨g, off, none⟩ = some (.string (S x0)) := (key 0 (by simp)).2
  have c1 : w.cell? ⟨g, off + 1, none⟩ = some (.string (S x1)) := (key 1 (by simp)).2
  have c2 : w.cell? ⟨g, off + 2, none⟩ = some (.string (S x2)) := (key 2 (by simp)).2
  have HR := Lib.hid (show ∀ i (h : i < rest.length), w.cell? ⟨g, off + (i + 3), none⟩ = some (.string (S rest[i])) from fun i hi => (key (i + 3) (by simp; omega)).2)
  have hlen : (x0 :: x1 :: x2 :: rest).length = rest.length + 3 := by simp
  rw [hlen] at h1 hl ⊢
  have hsr := Lib.hid (show ∀ y ∈ rest, y.length ≤ 100000 from fun y hy => hs y (by simp [hy]))
  clear h3 key hlen hs
  have n1 : ¬ ((rest.length : Int) + 3 < 3) := by omega
  have n2 : (3 : Int) ≤ (rest.length : Int) + 3 := by omega
  have n3 : (rest.length : Int) + 3 ≤ (cap : Int) := by omega
  have n6 : ((rest.length : Int) + 3 - 3).toNat = rest.length := by omega
  have C0 := Lib.hid c0
  have C1 := Lib.hid c1
  have C2 := Lib.hid c2
  have HS := Lib.hid (fun W hT => stampP_any x2 near W hT hn)
  have HP := Lib.hid (fun k W hw => readPl_any k g (off + 3) (cap - 3) rest W hw)
  clear hE
  rcases kw_cases x0 with ⟨k, hk, rfl⟩ | ⟨k1, k2, k3⟩
  case inr =>
    have HNO := Lib.hid (show ∀ k nm t F A B C L, ¬ Rdd (x0 :: x1 :: x2 :: rest) near k nm t F A B C L from fun k nm t F A B C L ⟨st, rest', rs, e, hk, _⟩ => by
      injection e with e1 e2
      subst e1
      rcases kind_cases hk with rfl | rfl | rfl
      · exact k1 rfl
      · exact k2 rfl
      · exact k3 rfl)
    have HK := Lib.hid (fun W hE => kindOf_no (S x0) W hE k1 k2 k3)
    clear k1 k2 k3
    generalize S x0 = wk at *
    generalize S x1 = nm at *
    generalize S x2 = wst at *
    go_enter Tryz.func61, Tryz.ntmps61
    go_wp2_with fail
    generalize w.alloc (.cells (repC 0 ⟨#[]⟩ 0 0 0 0 0 (.slice none 0 0)) 26) = W0 at *
    refine (HK.out _ hE4).mono ?_
    rintro e w1 ⟨rfl, rfl⟩
    clear c0 c1 c2
    have f0 := r4.thaw 0
    have f1 := r4.thaw 1
    have f2 := r4.thaw 2
    have f3 := r4.thaw 3
    have f4 := r4.thaw 4
    have f5 := r4.thaw 5
    have f6 := r4.thaw 6
    have f7 := r4.thaw 7
    obtain ⟨q0, q1, q2, q3, q4, q5, q6, q7⟩ := row8 r4
    have HZ := Lib.hid (set8_row (.int .i64 0) (.string ⟨#[]⟩) (.int .i64 0) (.int .i64 0) (.int .i64 0) (.int .i64 0) (.int .i64 0) (.slice none 0 0) r4)
    have HF := Lib.hid (set8_below (u0 := .int .i64 0) (u1 := .string ⟨#[]⟩) (u2 := .int .i64 0) (u3 := .int .i64 0) (u4 := .int .i64 0) (u5 := .int .i64 0) (u6 := .int .i64 0) (u7 := .slice none 0 0) b4 (Nat.le_refl _))
    clear b4 r4
    go_wp2_with fail
    clear f0 f1 f2 f3 f4 f5 f6 f7 q0 q1 q2 q3 q4 q5 q6 q7
    exact bodyPost_ret (v := .tuple #[repV 0 ⟨#[]⟩ 0 0 0 0 0 (.slice none 0 0), .int .i64 3]) (by obtain ⟨z0, z1, z2, z3, z4, z5, z6, z7⟩ := row8 HZ.out; simp [results, Tryz.results61, z0, z1, z2, z3, z4, z5, z6, z7, go_sem]) rfl (.inr ⟨HNO.out, 3, by omega, rfl, HF.out⟩)
  have HK := Lib.hid (fun W hE => kindOf_yes k hk W hE)
  have HKK := Lib.hid hk
  have hc4 : 4 ≤ cap := by
    rcases hcap with h | h
    · exact h
    · rcases kind_cases hk with rfl | rfl | rfl <;> exact absurd h (by decide)
  have n4 : (3 : Int) < (cap : Int) := by omega
  have n5 : ¬ (cap - 3 = 0) := by omega
  clear hcap
  generalize hwk : S (kw k) = wk at *
  generalize hwn : S x1 = nm at *
  generalize S x2 = wst at *
  have HWN := Lib.hid hwn
  clear hwk hwn hk
  go_enter Tryz.func61, Tryz.ntmps61
  go_wp2_with fail
  generalize w.alloc (.cells (repC 0 ⟨#[]⟩ 0 0 0 0 0 (.slice none 0 0)) 26) = W0 at *
  refine (HK.out _ hE4).mono ?_
  rintro e w1 ⟨rfl, rfl⟩
  have d2 := (b4.cell (p := ⟨g, off + 2, none⟩) hg).trans C2.out
  clear c0 c1 c2
  go_wp2_with fail
  refine (HS.out _ hE4.ck).mono ?_
  rintro e w2 ⟨hst, g2⟩
  have b5 := b4.trans (g2.mono b4.size)
  have r5 := r4.under g2
  have hE5 := hE4.under g2
  clear g2 b4 r4 hE4 d2 HK HS
  rcases hst with ⟨a, hst, rfl⟩ | ⟨hst, rfl⟩
  case inr =>
    have HNO := Lib.hid (show ∀ k' nm t F A B C L, ¬ Rdd (kw k :: x1 :: x2 :: rest) near k' nm t F A B C L from fun k' nm t F A B C L ⟨st, rest', rs, e, _, hs, _⟩ => by
      injection e with e1 e2
      injection e2 with e2 e3
      injection e3 with e3 e4
      subst e3
      exact hst _ hs)
    clear hst hE5
    have f0 := r5.thaw 0
    have f1 := r5.thaw 1
    have f2 := r5.thaw 2
    have f3 := r5.thaw 3
    have f4 := r5.thaw 4
    have f5 := r5.thaw 5
    have f6 := r5.thaw 6
    have f7 := r5.thaw 7
    obtain ⟨q0, q1, q2, q3, q4, q5, q6, q7⟩ := row8 r5
    have HZ := Lib.hid (set8_row (.int .i64 0) (.string ⟨#[]⟩) (.int .i64 0) (.int .i64 0) (.int .i64 0) (.int .i64 0) (.int .i64 0) (.slice none 0 0) r5)
    have HF := Lib.hid (set8_below (u0 := .int .i64 0) (u1 := .string ⟨#[]⟩) (u2 := .int .i64 0) (u3 := .int .i64 0) (u4 := .int .i64 0) (u5 := .int .i64 0) (u6 := .int .i64 0) (u7 := .slice none 0 0) b5 (Nat.le_refl _))
    clear b5 r5
    go_wp2_with fail
    clear f0 f1 f2 f3 f4 f5 f6 f7 q0 q1 q2 q3 q4 q5 q6 q7
    exact bodyPost_ret (v := .tuple #[repV 0 ⟨#[]⟩ 0 0 0 0 0 (.slice none 0 0), .int .i64 3]) (by obtain ⟨z0, z1, z2, z3, z4, z5, z6, z7⟩ := row8 HZ.out; simp [results, Tryz.results61, z0, z1, z2, z3, z4, z5, z6, z7, go_sem]) rfl (.inr ⟨HNO.out, 3, by omega, rfl, HF.out⟩)
  have HST := Lib.hid hst; clear hst
  have hwi : WIn w2 (.slice (some ⟨g, off + 3, none⟩) rest.length (cap - 3)) rest := ⟨_, _, rfl, by omega, by omega, fun i hi => ⟨g, off + 3, rfl, Nat.lt_of_lt_of_le hg b5.size, by
    rw [show off + 3 + i = off + (i + 3) by omega]
    exact (b5.cell (p := ⟨g, off + (i + 3), none⟩) hg).trans (HR.out i hi)⟩⟩
  go_wp2_with fail
  refine (HP.out _ _ hwi).mono ?_
  rintro e w3 ⟨F, A, B, C, r, v', rfl, g3, hpl⟩
  have b6 := (b5.trans (g3.mono b5.size)).alloc (Nat.le_trans b5.size g3.size) (.cells #[.int .i64 F, .int .i64 A, .int .i64 B, .int .i64 C] 23)
  have r6 := (r5.under g3).alloc (.cells #[.int .i64 F, .int .i64 A, .int .i64 B, .int .i64 C] 23)
  have rp := Row.new w3 #[.int .i64 F, .int .i64 A, .int .i64 B, .int .i64 C] 23
  have hE6 := (hE5.under g3).alloc (.cells #[.int .i64 F, .int .i64 A, .int .i64 B, .int .i64 C] 23)
  have hne : w.heap.size ≠ w3.heap.size := Nat.ne_of_lt (Nat.lt_of_lt_of_le r5.lt g3.size)
  clear b5 r5 hE5 hwi HP
  rcases hpl with ⟨rfl, rs, hw3, hpl⟩ | ⟨hr, hpl⟩
  case inr =>
    have HNO := Lib.hid (show ∀ k' nm t F A B C L, ¬ Rdd (kw k :: x1 :: x2 :: rest) near k' nm t F A B C L from fun k' nm t F A B C L ⟨st, rest', rs, e, hk', _, hp, _⟩ => by
      injection e with e1 e2
      injection e2 with e2 e3
      injection e3 with e3 e4
      subst e4
      rw [← kw_inj HKK.out hk' e1] at hp
      exact hpl _ _ _ _ _ hp)
    have q : (r != 0) = true := by rw [bne_iff_ne]; exact hr
    have HRN := Lib.hid hr
    clear hpl g3 hE6 rp hne hr
    go_upto_region 10 with fail
    generalize w3.alloc (.cells #[.int .i64 F, .int .i64 A, .int .i64 B, .int .i64 C] 23) = W6 at *
    have f0 := r6.thaw 0
    have f1 := r6.thaw 1
    have f2 := r6.thaw 2
    have f3 := r6.thaw 3
    have f4 := r6.thaw 4
    have f5 := r6.thaw 5
    have f6 := r6.thaw 6
    have f7 := r6.thaw 7
    obtain ⟨q0, q1, q2, q3, q4, q5, q6, q7⟩ := row8 r6
    have HZ := Lib.hid (set8_row (.int .i64 0) (.string ⟨#[]⟩) (.int .i64 0) (.int .i64 0) (.int .i64 0) (.int .i64 0) (.int .i64 0) (.slice none 0 0) r6)
    have HF := Lib.hid (set8_below (u0 := .int .i64 0) (u1 := .string ⟨#[]⟩) (u2 := .int .i64 0) (u3 := .int .i64 0) (u4 := .int .i64 0) (u5 := .int .i64 0) (u6 := .int .i64 0) (u7 := .slice none 0 0) b6 (Nat.le_refl _))
    clear r6 b6
    go_wp2_with fail
    clear f0 f1 f2 f3 f4 f5 f6 f7 q0 q1 q2 q3 q4 q5 q6 q7
    exact bodyPost_ret (v := .tuple #[repV 0 ⟨#[]⟩ 0 0 0 0 0 (.slice none 0 0), .int .i64 r]) (by obtain ⟨z0, z1, z2, z3, z4, z5, z6, z7⟩ := row8 HZ.out; simp [results, Tryz.results61, z0, z1, z2, z3, z4, z5, z6, z7, go_sem]) rfl (.inr ⟨HNO.out, r, HRN.out, rfl, HF.out⟩)
  have hw6 := hw3.under ((Below.refl _ _).alloc (Nat.le_refl _) (.cells #[.int .i64 F, .int .i64 A, .int .i64 B, .int .i64 C] 23))
  have HPL := Lib.hid hpl
  have HL := Lib.hid (fun W hw hE => readRs_any v' rs W hw hE (by have := hpl.sub.2; omega) (fun y hy => hsr.out y (hpl.sub.1 y hy)))
  clear g3 hw3 hpl
  go_upto_region 12 with fail
  generalize w3.alloc (.cells #[.int .i64 F, .int .i64 A, .int .i64 B, .int .i64 C] 23) = W6 at *
  generalize w3.heap.size = gp at *
  go_wp2_with fail
  refine (HL.out _ hw6 hE6).mono ?_
  rintro e w7 ⟨u, r, rfl, ⟨rfl, hok, hR7⟩ | ⟨hr, hbad, g7⟩⟩
  case inr =>
    have b7 := b6.trans (g7.mono b6.size)
    have r7 := r6.under g7
    have HNO := Lib.hid (show ∀ k' nm t F A B C L, ¬ Rdd (kw k :: x1 :: x2 :: rest) near k' nm t F A B C L from fun k' nm t F' A' B' C' L ⟨st, rest', rs', e, hk', _, hp, ho, _⟩ => by
      injection e with e1 e2
      injection e2 with e2 e3
      injection e3 with e3 e4
      subst e4
      rw [← kw_inj HKK.out hk' e1] at hp
      obtain ⟨y, hy, hyb⟩ := hbad
      rw [HPL.out.one hp] at hy
      exact hyb (ho y hy))
    have q : (r != 0) = true := by rw [bne_iff_ne]; exact hr
    have HRN := Lib.hid hr
    clear hr hbad g7 b6 r6 rp hE6 hw6 HL hne
    have f0 := r7.thaw 0
    have f1 := r7.thaw 1
    have f2 := r7.thaw 2
    have f3 := r7.thaw 3
    have f4 := r7.thaw 4
    have f5 := r7.thaw 5
    have f6 := r7.thaw 6
    have f7 := r7.thaw 7
    obtain ⟨q0, q1, q2, q3, q4, q5, q6, q7⟩ := row8 r7
    have HZ := Lib.hid (set8_row (.int .i64 0) (.string ⟨#[]⟩) (.int .i64 0) (.int .i64 0) (.int .i64 0) (.int .i64 0) (.int .i64 0) (.slice none 0 0) r7)
    have HF := Lib.hid (set8_below (u0 := .int .i64 0) (u1 := .string ⟨#[]⟩) (u2 := .int .i64 0) (u3 := .int .i64 0) (u4 := .int .i64 0) (u5 := .int .i64 0) (u6 := .int .i64 0) (u7 := .slice none 0 0) b7 (Nat.le_refl _))
    clear r7 b7
    go_wp2_with fail
    clear f0 f1 f2 f3 f4 f5 f6 f7 q0 q1 q2 q3 q4 q5 q6 q7
    exact bodyPost_ret (v := .tuple #[repV 0 ⟨#[]⟩ 0 0 0 0 0 (.slice none 0 0), .int .i64 r]) (by obtain ⟨z0, z1, z2, z3, z4, z5, z6, z7⟩ := row8 HZ.out; simp [results, Tryz.results61, z0, z1, z2, z3, z4, z5, z6, z7, go_sem]) rfl (.inr ⟨HNO.out, r, HRN.out, rfl, HF.out⟩)
  have g7 := hR7.below
  have b7 := b6.trans (g7.mono b6.size)
  have r7 := r6.under g7
  have rp7 := rp.under g7
  have d1 := (b7.cell (p := ⟨g, off + 1, none⟩) hg).trans C1.out
  have HYES := Lib.hid (show Rdd (kw k :: x1 :: x2 :: rest) near k x1 a F A B C (rs.map eRd) from ⟨x2, rest, rs, rfl, HKK.out, HST.out, HPL.out, hok, rfl⟩)
  clear hok
  generalize rs.map eRd = L at *
  have HRd : Hid (El.RdIn w7 u L) := Lib.hid (El.RdIn.own hR7.own)
  obtain ⟨Au, cu, rfl, -⟩ := id HRd.out
  have HO := Lib.hid (fun i (e : (Value.slice Au L.length cu).ownBlock = some i) => (show w.heap.size < i from (Nat.lt_of_lt_of_le r6.lt (hR7.own.lt i e).1)))
  clear b6 r6 rp hE6 hw6 g7 hR7 HL
  go_upto_region 15 with fail
  have f0 := r7.thaw 0
  have f1 := r7.thaw 1
  have f2 := r7.thaw 2
  have f3 := r7.thaw 3
  have f4 := r7.thaw 4
  have f5 := r7.thaw 5
  have f6 := r7.thaw 6
  have f7 := r7.thaw 7
  obtain ⟨q0, q1, q2, q3, q4, q5, q6, q7⟩ := row8 r7
  obtain ⟨p0, p1, p2, p3⟩ := row4 rp7
  have HZ := Lib.hid (set8_row (.int .i64 k) (.string nm) (.int .i64 a) (.int .i64 F) (.int .i64 A) (.int .i64 B) (.int .i64 C) (.slice Au L.length cu) r7).drew
  have HF := Lib.hid (set8_below (u0 := .int .i64 k) (u1 := .string nm) (u2 := .int .i64 a) (u3 := .int .i64 F) (u4 := .int .i64 A) (u5 := .int .i64 B) (u6 := .int .i64 C) (u7 := .slice Au L.length cu) b7 (Nat.le_refl _)).drew
  have HQ := Lib.hid (set8_far (.int .i64 k) (.string nm) (.int .i64 a) (.int .i64 F) (.int .i64 A) (.int .i64 B) (.int .i64 C) (.slice Au L.length cu) rp7 hne).drew
  have RP := Lib.hid rp7
  have B7 := Lib.hid b7
  have D1 := Lib.hid d1
  clear r7 rp7 b7
  have xw : IntKind.i64.wrap 1 = 1 := by decide
  have n7 : (1 : Int) < (rest.length : Int) + 3 := by omega
  refine wp_region_held_drew (S := fun w' : World => w'.cell? ⟨g, off + 1, none⟩ = some (.string nm) ∧ w'.cell? ⟨gp, 0, none⟩ = some (.int .i64 F) ∧ w'.cell? ⟨gp, 1, none⟩ = some (.int .i64 A) ∧ w'.cell? ⟨gp, 2, none⟩ = some (.int .i64 B) ∧ w'.cell? ⟨gp, 3, none⟩ = some (.int .i64 C)) (by kernel_rfl) ⟨d1, p0, p1, p2, p3⟩ (fun hHeld => ?_)
  refine wpAnyH_take (i := 0) (v := ?_) rfl (by kernel_rfl) (by kernel_rfl) (by kernel_rfl) (fun _ _ _ h => h) (Or.inl ⟨by rfl, ?_⟩) (by assumption) ?_
  case refine_2 => (intro wx hSx; (try dsimp only at hSx); go_simp; first | done | with_reducible rfl)
  try simp only [Act.put]
  refine wpAnyH_take (i := 1) (v := ?_) rfl (by kernel_rfl) (by kernel_rfl) (by kernel_rfl) (fun _ _ _ h => h) (Or.inl ⟨by rfl, ?_⟩) (by assumption) ?_
  case refine_2 => (intro wx hSx; (try dsimp only at hSx); go_simp; first | done | with_reducible rfl)
  try simp only [Act.put]
  refine wpAnyH_take (i := 2) (v := ?_) rfl (by kernel_rfl) (by kernel_rfl) (by kernel_rfl) (fun _ _ _ h => h) (Or.inl ⟨by rfl, ?_⟩) (by assumption) ?_
  case refine_2 => (intro wx hSx; (try dsimp only at hSx); go_simp; first | done | with_reducible rfl)
  try simp only [Act.put]
  refine wpAnyH_take (i := 3) (v := ?_) rfl (by kernel_rfl) (by kernel_rfl) (by kernel_rfl) (fun _ _ _ h => h) (Or.inl ⟨by rfl, ?_⟩) (by assumption) ?_
  case refine_2 => (intro wx hSx; (try dsimp only at hSx); go_simp; first | done | with_reducible rfl)
  try simp only [Act.put]
  refine wpAnyH_take (i := 4) (v := ?_) rfl (by kernel_rfl) (by kernel_rfl) (by kernel_rfl) (fun _ _ _ h => h) (Or.inl ⟨by rfl, ?_⟩) (by assumption) ?_
  case refine_2 => (intro wx hSx; (try dsimp only at hSx); go_simp; first | done | with_reducible rfl)
  try simp only [Act.put]
  refine wpAnyH_take (i := 5) (v := ?_) rfl (by kernel_rfl) (by kernel_rfl) (by kernel_rfl) (fun _ _ _ h => h) (Or.inl ⟨by rfl, ?_⟩) (by assumption) ?_
  case refine_2 => (intro wx hSx; (try dsimp only at hSx); go_simp; first | done | with_reducible rfl)
  try simp only [Act.put]
  refine wpAnyH_take (i := 6) (v := ?_) rfl (by kernel_rfl) (by kernel_rfl) (by kernel_rfl) (fun _ _ _ h => h) (Or.inl ⟨by rfl, ?_⟩) (by assumption) ?_
  case refine_2 => (intro wx hSx; (try dsimp only at hSx); go_simp; first | done | with_reducible rfl)
  try simp only [Act.put]
  refine wpAnyH_take (i := 7) (v := ?_) rfl (by kernel_rfl) (by kernel_rfl) (by kernel_rfl) (fun _ _ _ h => h) (Or.inl ⟨by rfl, ?_⟩) (by assumption) ?_
  case refine_2 => (intro wx hSx; (try dsimp only at hSx); go_simp; first | done | with_reducible rfl)
  try simp only [Act.put]
  refine wpAnyH_ready (rs := [8]) (by kernel_rfl) (by simp) ?_
  refine AllReadyH.cons (o := ⟨none, _, _, _, _, none⟩) rfl (fun K hK => ?_) AllReadyH.nil
  go_simp
  refine hK.out _ _ ⟨(HF.out.cell (p := ⟨g, off + 1, none⟩) hg).trans C1.out, row4 HQ.out⟩ (fun hHeld2 => ?_)
  clear hK K hHeld
  try simp only [Act.put]
  refine wpAnyH_take (i := 9) (oi := ⟨some 5, _, _, _, _, none⟩) (v := ?_) rfl (by kernel_rfl) (by kernel_rfl) (by kernel_rfl) (fun _ _ _ h => h) (Or.inl ⟨by rfl, ?_⟩) (by assumption) ?_
  case refine_2 => (intro wx hSx; (try dsimp only at hSx); go_simp; first | done | with_reducible rfl)
  try simp only [Act.put]
  refine wpAnyH_done (by kernel_rfl) ?_ _
  clear f0 f1 f2 f3 f4 f5 f6 f7 q0 q1 q2 q3 q4 q5 q6 q7 p0 p1 p2 p3 d1
  go_wp2_with fail
  refine bodyPost_ret (v := .tuple #[repV k nm a F A B C (.slice Au L.length cu), .int .i64 0]) (by obtain ⟨z0, z1, z2, z3, z4, z5, z6, z7⟩ := row8 HZ.out; simp [results, Tryz.results61, z0, z1, z2, z3, z4, z5, z6, z7, go_sem]) rfl (.inl ⟨k, x1, a, F, A, B, C, L, .slice Au L.length cu, HYES.out, by rw [HWN.out], rdIn_far HRd.out (fun i e => Nat.ne_of_gt (HO.out i e)) _ _ _ _ _ _ _ _, fun i e => Nat.le_of_lt (HO.out i e), HF.out⟩)
end Go.Proofs.YtneglkfcelpdgaaGreatDoor
namespace Go.Proofs.YtneglkfcelpdgaaGreatDoor
open Go.RowKit
open Ck (dig2)

theorem splitK_len : ∀ (k : Nat) (l : List UInt8), (Lib.splitK [32] 0 k l).length ≤ k + 1 ∧ ∀ x ∈ Lib.splitK [32] 0 k l, x.length ≤ l.length
  | 0, l => ⟨by simp [Lib.splitK], fun x hx => by rw [show Lib.splitK [32] 0 0 l = [l] from rfl, List.mem_singleton] at hx; rw [hx]; exact Nat.le_refl _⟩
  | k + 1, l => by
    rw [Lib.splitK]
    split
    · exact ⟨by simp, fun x hx => by rw [List.mem_singleton] at hx; rw [hx]; exact Nat.le_refl _⟩
    · obtain ⟨i1, i2⟩ := splitK_len k (l.drop ((Lib.index l [32]).toNat + [(32 : UInt8)].length))
      refine ⟨by rw [List.length_cons]; omega, fun x hx => ?_⟩
      rcases List.mem_cons.1 hx with rfl | hx
      · rw [List.length_take]; exact Nat.min_le_right _ _
      · exact Nat.le_trans (i2 x hx) (by rw [List.length_drop]; omega)
theorem wd_count : ∀ l : List UInt8, (Wrd.wd l).length ≤ l.length + 1
  | [] => by simp [Wrd.wd]
  | c :: l => by
    have ih := wd_count l
    unfold Wrd.wd
    split
    · simp; exact ih
    · cases h : Wrd.wd l with
      | nil => simp
      | cons x r => rw [h] at ih; simp at ih ⊢; omega
/-- The words of a text: the last of fifteen may have spaces. -/
def spl (s : List UInt8) : List (List UInt8) := Lib.splitK [32] 0 14 s
theorem spl_len (s : List UInt8) : (spl s).length ≤ 15 ∧ ∀ x ∈ spl s, x.length ≤ s.length := splitK_len 14 s
theorem spl_short {s : List UInt8} (h : s.length ≤ 14) : Lib.splitK [32] 0 s.length s = spl s := by
  have hc := wd_count s
  unfold spl
  rw [(Wrd.splitK_wd s s.length).1 hc, (Wrd.splitK_wd s 14).1 (by omega)]
theorem spl_two {s : List UInt8} (h : s.length ≤ 2) : (spl s).length < 3 ∨ ∀ x ∈ spl s, x = [] := by
  have hc := wd_count s
  unfold spl
  rw [(Wrd.splitK_wd s 14).1 (by omega)]
  match s, h with
  | [], _ => left; simp [Wrd.wd]
  | [a], _ => left; have := wd_count [a]; simp at this; omega
  | [a, b], _ =>
    by_cases h1 : a = 32
    · by_cases h2 : b = 32
      · right; subst h1; subst h2; simp [Wrd.wd]
      · left; subst h1; simp [Wrd.wd, h2]
    · left
      have := wd_count [b]
      unfold Wrd.wd
      rw [if_neg h1]
      cases hw : Wrd.wd [b] with
      | nil => simp
      | cons x r => rw [hw] at this; simp at this ⊢; omega
theorem split_any (s : List UInt8) (w : World) (hs : s.length ≤ 100000) (hE : Env w) :
    Calls Tryz.prog 62 #[.string (S s), .string ⟨#[32]⟩, .int .i64 15] w fun e w' => e = .returned (.slice (some ⟨w.heap.size, 0, none⟩) (spl s).length (min 15 (s.length + 1))) ∧ WIn w' (.slice (some ⟨w.heap.size, 0, none⟩) (spl s).length (min 15 (s.length + 1))) (spl s) ∧ Below w.heap.size w w' := by
  obtain ⟨m, hm⟩ := hE.ml
  have hsz : (S s).size = s.length := S_size _
  have hs := Tryz.strings_SplitN (S s) ⟨#[32]⟩ 15 m w (by rw [hsz]; omega) hm (by decide) (by decide) (by decide)
  rw [hsz] at hs
  have hp : Lib.splitB ⟨#[32]⟩ 0 (min 15 (s.length + 1) - 1) (S s) = (spl s).map S := by
    refine map_S ?_
    rw [Lib.splitB_data, S_list]
    by_cases h : s.length ≤ 14
    · rw [show min 15 (s.length + 1) - 1 = s.length by omega]; exact spl_short h
    · rw [show min 15 (s.length + 1) - 1 = 14 by omega]; rfl
  have hc15 : min 15 (s.length + 1) ≤ 15 := Nat.min_le_left _ _
  have hcap : (spl s).length ≤ min 15 (s.length + 1) := by
    by_cases h : s.length ≤ 14
    · rw [← spl_short h]; have := (splitK_len s.length s).1; omega
    · have := (spl_len s).1; omega
  rw [hp, List.length_map] at hs
  generalize min 15 (s.length + 1) = cap at *
  generalize spl s = ws at *
  refine hs.mono fun e w' ⟨he, hw⟩ => ⟨he, ?_, ?_⟩
  · subst hw
    refine ⟨_, cap, rfl, hcap, by omega, fun i hi => ⟨w.heap.size, 0, rfl, by simp, ?_⟩⟩
    have hb := heap_alloc_new w (.cells (Lib.cellsOf (ws.map S) cap) 9)
    unfold World.cell?
    rw [hb]
    have hc : (Lib.cellsOf (ws.map S) cap)[0 + i]? = some (.string (S ws[i])) := by
      unfold Lib.cellsOf
      rw [Nat.zero_add, List.getElem?_toArray, List.getElem?_append_left (by simpa using hi), List.getElem?_map, List.getElem?_map, List.getElem?_eq_getElem hi]
      rfl
    simpa using hc
  · subst hw
    exact (Below.refl _ _).alloc (Nat.le_refl _) _
theorem Stm.one {l : List UInt8} {near a b : Int} (h : Stm l near a) (h' : Stm l near b) : a = b := by
  obtain ⟨d, p, i, x1, x2, x3, rfl, x5⟩ := h
  obtain ⟨d', p', i', y1, y2, y3, e, y5⟩ := h'
  obtain ⟨rfl, rfl, rfl⟩ := six_inj x1 x2 x3 y1 y2 y3 e
  rw [x5] at y5
  exact Option.some.inj y5
theorem Plx.val {k : Int} {rest rs rs' : List (List UInt8)} {F A B C F' A' B' C' : Int} (h : Plx k rest F A B C rs) (h' : Plx k rest F' A' B' C' rs') : F = F' ∧ A = A' ∧ B = B' ∧ C = C' := by
  rcases h with ⟨e, rfl, rfl, rfl, rfl, -⟩ | ⟨e, x, rfl, h1⟩
  · rcases h' with ⟨-, rfl, rfl, rfl, rfl, -⟩ | ⟨e2, -⟩
    · exact ⟨rfl, rfl, rfl, rfl⟩
    · exact absurd e e2
  · rcases h' with ⟨e2, -⟩ | ⟨-, y, e3, h2⟩
    · exact absurd e2 e
    · injection e3 with e3 e4
      subst e3
      rw [h1] at h2
      simp only [Prod.mk.injEq] at h2
      exact ⟨h2.1, h2.2.1, h2.2.2.1, h2.2.2.2.1⟩
theorem Rdd.one {ws : List (List UInt8)} {near k k' t t' F A B C F' A' B' C' : Int} {nm nm' : List UInt8} {L L' : List El.Elt.R} (h : Rdd ws near k nm t F A B C L) (h' : Rdd ws near k' nm' t' F' A' B' C' L') :
    k = k' ∧ nm = nm' ∧ t = t' ∧ F = F' ∧ A = A' ∧ B = B' ∧ C = C' ∧ L = L' := by
  obtain ⟨st, rest, rs, rfl, hk, hst, hp, -, rfl⟩ := h
  obtain ⟨st', rest', rs', e, hk', hst', hp', -, rfl⟩ := h'
  injection e with e1 e2
  injection e2 with e2 e3
  injection e3 with e3 e4
  obtain rfl := kw_inj hk hk' e1
  subst e2; subst e3; subst e4
  obtain rfl := hp.one hp'
  obtain ⟨rfl, rfl, rfl, rfl⟩ := hp.val hp'
  exact ⟨rfl, rfl, hst.one hst', rfl, rfl, rfl, rfl, rfl⟩
/-- The answer of Parse is a report. -/
def Psd (s : List UInt8) (near k : Int) (nm : List UInt8) (t F A B C : Int) (L : List El.Elt.R) : Prop := Rdd (spl s) near k nm t F A B C L ∧ vcode k (S nm) t F A B C L = 0
/-- What Parse leaves. -/
def PsO (s : List UInt8) (near : Int) (w : World) (e : Ending) (w' : World) : Prop :=
  (∃ (k : Int) (nm : List UInt8) (t F A B C : Int) (L : List El.Elt.R) (u : Value), Psd s near k nm t F A B C L ∧ e = .returned (.tuple #[repV k (S nm) t F A B C u, .int .i64 0]) ∧ El.RdIn w' u L ∧ Below w.heap.size w w') ∨
  ((∀ k nm t F A B C L, ¬ Psd s near k nm t F A B C L) ∧ e = .returned (.tuple #[repV 0 ⟨#[]⟩ 0 0 0 0 0 (.slice none 0 0), .int .i64 3]) ∧ Below w.heap.size w w')
set_option maxRecDepth 100000 in
set_option maxHeartbeats 4000000 in
theorem parse_any (s : List UInt8) (near : Int) (w : World) (hE : Env w) (hn : 0 ≤ near ∧ near ≤ 52595999) (hs : s.length ≤ 100000) :
    Calls Tryz.prog 23 #[.string (S s), .int .i64 near] w (PsO s near w) := by
  have HSp := Lib.hid (fun w hE => split_any s w hs hE)
  have HRd := Lib.hid (fun g w hE hW => read_any (spl s) near g 0 (min 15 (s.length + 1)) w hE hn (by
    by_cases h2 : s.length ≤ 2
    · rcases spl_two h2 with h | h
      · exact .inr (.inl h)
      · exact .inr (.inr h)
    · exact .inl (by omega)) (spl_len s).1 (fun x hx => Nat.le_trans ((spl_len s).2 x hx) hs) hW)
  obtain ⟨n0, n1⟩ := hn
  have HPS := Lib.hid (show ∀ k nm t F A B C L, Psd s near k nm t F A B C L = (Rdd (spl s) near k nm t F A B C L ∧ vcode k (S nm) t F A B C L = 0) from fun _ _ _ _ _ _ _ _ => rfl)
  have hPO : ∀ e w', PsO s near w e w' = ((∃ (k : Int) (nm : List UInt8) (t F A B C : Int) (L : List El.Elt.R) (u : Value), Psd s near k nm t F A B C L ∧ e = .returned (.tuple #[repV k (S nm) t F A B C u, .int .i64 0]) ∧ El.RdIn w' u L ∧ Below w.heap.size w w') ∨
    ((∀ k nm t F A B C L, ¬ Psd s near k nm t F A B C L) ∧ e = .returned (.tuple #[repV 0 ⟨#[]⟩ 0 0 0 0 0 (.slice none 0 0), .int .i64 3]) ∧ Below w.heap.size w w')) := fun _ _ => rfl
  have HPO := Lib.hid hPO
  clear hPO
  generalize hq : PsO s near w = QQ at *
  generalize Psd s near = PP at *
  generalize spl s = ws at *
  generalize min 15 (s.length + 1) = cap at *
  generalize S s = sv at *
  clear hq hs
  have b4 := (Below.refl w.heap.size w).alloc (Nat.le_refl _) (.cells (repC 0 ⟨#[]⟩ 0 0 0 0 0 (.slice none 0 0)) 26)
  have r4 := Row.new w (repC 0 ⟨#[]⟩ 0 0 0 0 0 (.slice none 0 0)) 26
  have hE4 := hE.under b4
  go_enter Tryz.func23, Tryz.ntmps23
  go_wp2_with fail
  generalize w.alloc (.cells (repC 0 ⟨#[]⟩ 0 0 0 0 0 (.slice none 0 0)) 26) = W0 at *
  refine (HSp.out _ hE4).mono ?_
  rintro e w1 ⟨rfl, hw1, g1⟩
  have b5 := b4.trans (g1.mono b4.size)
  have r5 := r4.under g1
  have hE5 := hE4.under g1
  clear g1 b4 r4 hE4
  go_wp2_with fail
  refine (HRd.out _ _ hE5 hw1).mono ?_
  rintro e w2 (⟨k, nm, a, F, A, B, C, L, u, hrd, rfl, hR2, hO, g2⟩ | ⟨hno, r, hr, rfl, g2⟩)
  case inr =>
    have b6 := (b5.trans (g2.mono b5.size)).alloc (Nat.le_trans b5.size g2.size) (.cells (repC 0 ⟨#[]⟩ 0 0 0 0 0 (.slice none 0 0)) 26)
    have r6 := (r5.under g2).alloc (.cells (repC 0 ⟨#[]⟩ 0 0 0 0 0 (.slice none 0 0)) 26)
    have HNO := Lib.hid (show ∀ k nm t F A B C L, ¬ PP k nm t F A B C L from fun k nm t F A B C L h => by rw [HPS.out] at h; exact hno _ _ _ _ _ _ _ _ h.1)
    have q : (r != 0) = true := by rw [bne_iff_ne]; exact hr
    clear hno hr g2 b5 r5 hE5 hw1 HRd HSp
    go_upto_region 4 with fail
    generalize w2.alloc (.cells (repC 0 ⟨#[]⟩ 0 0 0 0 0 (.slice none 0 0)) 26) = W7 at *
    have f0 := r6.thaw 0
    have f1 := r6.thaw 1
    have f2 := r6.thaw 2
    have f3 := r6.thaw 3
    have f4 := r6.thaw 4
    have f5 := r6.thaw 5
    have f6 := r6.thaw 6
    have f7 := r6.thaw 7
    obtain ⟨q0, q1, q2, q3, q4, q5, q6, q7⟩ := row8 r6
    have HZ := Lib.hid (set8_row (.int .i64 0) (.string ⟨#[]⟩) (.int .i64 0) (.int .i64 0) (.int .i64 0) (.int .i64 0) (.int .i64 0) (.slice none 0 0) r6)
    have HF := Lib.hid (set8_below (u0 := .int .i64 0) (u1 := .string ⟨#[]⟩) (u2 := .int .i64 0) (u3 := .int .i64 0) (u4 := .int .i64 0) (u5 := .int .i64 0) (u6 := .int .i64 0) (u7 := .slice none 0 0) b6 (Nat.le_refl _))
    clear b6 r6
    go_wp2_with fail
    clear f0 f1 f2 f3 f4 f5 f6 f7 q0 q1 q2 q3 q4 q5 q6 q7
    exact bodyPost_ret (v := .tuple #[repV 0 ⟨#[]⟩ 0 0 0 0 0 (.slice none 0 0), .int .i64 3]) (by obtain ⟨z0, z1, z2, z3, z4, z5, z6, z7⟩ := row8 HZ.out; simp [results, Tryz.results23, z0, z1, z2, z3, z4, z5, z6, z7, go_sem]) rfl (by rw [HPO.out]; exact .inr ⟨HNO.out, rfl, HF.out⟩)
  have b6 := b5.trans (g2.mono b5.size)
  have r6 := r5.under g2
  have hE6 := hE5.under g2
  have hO' : ∀ i, u.ownBlock = some i → i ≠ w.heap.size := fun i e => Nat.ne_of_gt (Nat.lt_of_lt_of_le r5.lt (hO i e))
  obtain ⟨Au, cu, rfl, -⟩ := id hR2
  have hkn : ∀ nm' : ByteArray, S nm = nm' → True := fun _ _ => trivial
  generalize hnm : S nm = nb at *
  have HNM := Lib.hid hnm; clear hnm hkn
  have bx := (Below.refl w2.heap.size w2).alloc (Nat.le_refl _) (.cells (repC k nb a F A B C (.slice Au L.length cu)) 26)
  have rx := Row.new w2 (repC k nb a F A B C (.slice Au L.length cu)) 26
  have b7 := b6.trans (bx.mono b6.size)
  have r7 := r6.under bx
  have hE7 := hE6.under bx
  have hR7 := hR2.under bx
  have HO := Lib.hid hO'
  have HRD := Lib.hid hrd
  have HC := Lib.hid (fun W (h : El.RdIn W (.slice Au L.length cu) L) (hT : El.Tab W) => validate_any k nb a F A B C (.slice Au L.length cu) L W h hT)
  obtain ⟨vc, hvc⟩ : ∃ c, vcode k nb a F A B C L = c := ⟨_, rfl⟩
  rw [hvc] at HC
  have HVC := Lib.hid hvc
  clear hO hO' b5 r5 hE5 g2 b6 r6 hE6 hR2 bx HRd HSp hw1 hrd hvc
  go_upto_region 4 with fail
  generalize w2.alloc (.cells (repC k nb a F A B C (.slice Au L.length cu)) 26) = W7 at *
  generalize w2.heap.size = gx at *
  obtain ⟨p0, p1, p2, p3, p4, p5, p6, p7⟩ := row8 rx
  go_wp2_with fail
  refine (HC.out _ hR7 hE7.tab).mono ?_
  rintro e w8 ⟨rfl, g8⟩
  have b8 := b7.trans (g8.mono b7.size)
  have r8 := r7.under g8
  have hR8 := hR7.under g8
  have rx8 := rx.under g8
  clear p0 p1 p2 p3 p4 p5 p6 p7 b7 r7 hR7 rx g8 hE7 HC
  by_cases hv0 : vc = 0
  case neg =>
    have q : (vc != 0) = true := by rw [bne_iff_ne]; exact hv0
    have HNO := Lib.hid (show ∀ k nm t F A B C L, ¬ PP k nm t F A B C L from fun k' nm' t' F' A' B' C' L' h => by
      rw [HPS.out] at h
      obtain ⟨rfl, rfl, rfl, rfl, rfl, rfl, rfl, rfl⟩ := HRD.out.one h.1
      have := h.2
      rw [HNM.out, HVC.out] at this
      exact hv0 this)
    clear hv0 rx8 hR8
    have f0 := r8.thaw 0
    have f1 := r8.thaw 1
    have f2 := r8.thaw 2
    have f3 := r8.thaw 3
    have f4 := r8.thaw 4
    have f5 := r8.thaw 5
    have f6 := r8.thaw 6
    have f7 := r8.thaw 7
    obtain ⟨q0, q1, q2, q3, q4, q5, q6, q7⟩ := row8 r8
    have HZ := Lib.hid (set8_row (.int .i64 0) (.string ⟨#[]⟩) (.int .i64 0) (.int .i64 0) (.int .i64 0) (.int .i64 0) (.int .i64 0) (.slice none 0 0) r8)
    have HF := Lib.hid (set8_below (u0 := .int .i64 0) (u1 := .string ⟨#[]⟩) (u2 := .int .i64 0) (u3 := .int .i64 0) (u4 := .int .i64 0) (u5 := .int .i64 0) (u6 := .int .i64 0) (u7 := .slice none 0 0) b8 (Nat.le_refl _))
    clear r8 b8
    go_wp2_with fail
    clear f0 f1 f2 f3 f4 f5 f6 f7 q0 q1 q2 q3 q4 q5 q6 q7
    exact bodyPost_ret (v := .tuple #[repV 0 ⟨#[]⟩ 0 0 0 0 0 (.slice none 0 0), .int .i64 3]) (by obtain ⟨z0, z1, z2, z3, z4, z5, z6, z7⟩ := row8 HZ.out; simp [results, Tryz.results23, z0, z1, z2, z3, z4, z5, z6, z7, go_sem]) rfl (by rw [HPO.out]; exact .inr ⟨HNO.out, rfl, HF.out⟩)
  subst hv0
  have HYES := Lib.hid (show PP k nm a F A B C L by rw [HPS.out]; exact ⟨HRD.out, by rw [HNM.out]; exact HVC.out⟩)
  obtain ⟨p0, p1, p2, p3, p4, p5, p6, p7⟩ := row8 rx8
  have f0 := r8.thaw 0
  have f1 := r8.thaw 1
  have f2 := r8.thaw 2
  have f3 := r8.thaw 3
  have f4 := r8.thaw 4
  have f5 := r8.thaw 5
  have f6 := r8.thaw 6
  have f7 := r8.thaw 7
  obtain ⟨q0, q1, q2, q3, q4, q5, q6, q7⟩ := row8 r8
  have HZ := Lib.hid (set8_row (.int .i64 k) (.string nb) (.int .i64 a) (.int .i64 F) (.int .i64 A) (.int .i64 B) (.int .i64 C) (.slice Au L.length cu) r8)
  have HF := Lib.hid (set8_below (u0 := .int .i64 k) (u1 := .string nb) (u2 := .int .i64 a) (u3 := .int .i64 F) (u4 := .int .i64 A) (u5 := .int .i64 B) (u6 := .int .i64 C) (u7 := .slice Au L.length cu) b8 (Nat.le_refl _))
  have HR8 := Lib.hid hR8
  clear r8 b8 rx8 hR8
  go_wp2_with fail
  clear f0 f1 f2 f3 f4 f5 f6 f7 q0 q1 q2 q3 q4 q5 q6 q7 p0 p1 p2 p3 p4 p5 p6 p7
  exact bodyPost_ret (v := .tuple #[repV k nb a F A B C (.slice Au L.length cu), .int .i64 0]) (by obtain ⟨z0, z1, z2, z3, z4, z5, z6, z7⟩ := row8 HZ.out; simp [results, Tryz.results23, z0, z1, z2, z3, z4, z5, z6, z7, go_sem]) rfl (by
    rw [HPO.out]
    exact .inl ⟨k, nm, a, F, A, B, C, L, _, HYES.out, by rw [HNM.out], rdIn_set HR8.out HO.out _ _ _ _ _ _ _ _, HF.out⟩)
end Go.Proofs.YtneglkfcelpdgaaGreatDoor
