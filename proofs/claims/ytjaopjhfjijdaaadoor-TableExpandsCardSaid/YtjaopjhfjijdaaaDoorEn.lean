/- Contracts of absent, valueOf, Encode and Decode of the program. -/
import Derived.Test.YtjaopjhfjijdaaaDoorPb
namespace Go.Proofs.YtjaopjhfjijdaaaDoor
open Go.RowKit

theorem pw_bd {k : Nat} (h1 : 2 ≤ k) (h2 : k ≤ 24) : (4 : Int) ≤ 2 ^ k ∧ (2 : Int) ^ k ≤ 16777216 := by
  have : ∀ k : Fin 25, 2 ≤ k.val → (4 : Int) ≤ 2 ^ k.val ∧ (2 : Int) ^ k.val ≤ 16777216 := by decide +kernel
  exact this ⟨k, by omega⟩ h1
/-- What Encode and Decode answer. -/
def encA (e : En) (y : Int) : Int × Int := if okE e ∧ e.2.2.2.2 ≤ y ∧ y < e.2.2.2.2 + e.2.2.2.1 * (2 ^ e.2.2.1.toNat - 1) then ((y - e.2.2.2.2) / e.2.2.2.1, 0) else (0, 1)
def decA (e : En) (n : Int) : Int × Bool := if okE e ∧ 0 ≤ n ∧ n ≤ 2 ^ e.2.2.1.toNat - 2 then (e.2.2.2.2 + e.2.2.2.1 * n, true) else (0, false)
theorem encA_yes {e : En} {y : Int} (h : okE e) (h1 : e.2.2.2.2 ≤ y) (h2 : y < e.2.2.2.2 + e.2.2.2.1 * (2 ^ e.2.2.1.toNat - 1)) : encA e y = ((y - e.2.2.2.2) / e.2.2.2.1, 0) := if_pos ⟨h, h1, h2⟩
theorem encA_no {e : En} {y : Int} (h : ¬ (okE e ∧ e.2.2.2.2 ≤ y ∧ y < e.2.2.2.2 + e.2.2.2.1 * (2 ^ e.2.2.1.toNat - 1))) : encA e y = (0, 1) := if_neg h
theorem decA_yes {e : En} {n : Int} (h : okE e) (h1 : 0 ≤ n) (h2 : n ≤ 2 ^ e.2.2.1.toNat - 2) : decA e n = (e.2.2.2.2 + e.2.2.2.1 * n, true) := if_pos ⟨h, h1, h2⟩
theorem decA_no {e : En} {n : Int} (h : ¬ (okE e ∧ 0 ≤ n ∧ n ≤ 2 ^ e.2.2.1.toNat - 2)) : decA e n = (0, false) := if_neg h
theorem mul_bd {a b : Int} (h1 : 1 ≤ a) (h2 : a ≤ 1000) (h3 : 0 ≤ b) (h4 : b ≤ 16777216) : 0 ≤ a * b ∧ a * b ≤ 16777216000 := by
  have p := Int.mul_le_mul h2 h4 h3 (by omega)
  exact ⟨Int.mul_nonneg (by omega) h3, by omega⟩
set_option maxHeartbeats 400000 in
theorem absent_any (c el wd sc ls : Int) (w : World) (h1 : 2 ≤ wd) (h2 : wd ≤ 24) :
    Calls Tryd.prog 51 #[.agg #[.int .i64 c, .int .i64 el, .int .i64 wd, .int .i64 sc, .int .i64 ls]] w fun x w' => x = .returned (.int .i64 (2 ^ wd.toNat - 1)) ∧ Below w.heap.size w w' := by
  obtain ⟨k, rfl⟩ : ∃ k : Nat, wd = (k : Int) := ⟨wd.toNat, by omega⟩
  simp only [Int.toNat_natCast]
  go_enter Tryd.func51, Tryd.ntmps51
  go_wp2_with fail
  go_ret
  refine ⟨ret_i64 ?_, (Below.refl _ _).alloc (Nat.le_refl _) _⟩
  obtain ⟨p1, p2⟩ := pw_bd (k := k) (by omega) (by omega)
  generalize (2 : Int) ^ k = p at *
  rw [IntWalk.wrap64_in p ⟨by omega, by omega⟩, IntWalk.wrap64_in (p - 1) ⟨by omega, by omega⟩]
set_option maxHeartbeats 400000 in
theorem valueOf_any (c el wd sc ls n : Int) (w : World) (h1 : 1 ≤ sc) (h2 : sc ≤ 1000) (h3 : -100000 ≤ ls) (h4 : ls ≤ 100000) (h5 : 0 ≤ n) (h6 : n ≤ 16777216) :
    Calls Tryd.prog 50 #[.agg #[.int .i64 c, .int .i64 el, .int .i64 wd, .int .i64 sc, .int .i64 ls], .int .i64 n] w fun x w' => x = .returned (.int .i64 (ls + sc * n)) ∧ Below w.heap.size w w' := by
  go_enter Tryd.func50, Tryd.ntmps50
  go_wp2_with fail
  go_ret
  refine ⟨ret_i64 ?_, (Below.refl _ _).alloc (Nat.le_refl _) _⟩
  obtain ⟨p1, p2⟩ := mul_bd h1 h2 h5 h6
  generalize sc * n = p at *
  first
    | rfl
    | rw [IntWalk.wrap64_in p ⟨by omega, by omega⟩, IntWalk.wrap64_in (ls + p) ⟨by omega, by omega⟩]
    | rw [IntWalk.wrap64_in p ⟨by omega, by omega⟩]
    | rw [IntWalk.wrap64_in (ls + p) ⟨by omega, by omega⟩]
set_option maxRecDepth 100000 in
set_option maxHeartbeats 2000000 in
theorem encode_any (e : En) (y : Int) (w : World) (hT : Tab w) (hI : I64 e.1) :
    Calls Tryd.prog 25 #[enV e, .int .i64 y] w fun x w' => x = .returned (.tuple #[.int .i64 (encA e y).1, .int .i64 (encA e y).2]) ∧ Below w.heap.size w w' := by
  obtain ⟨a1, ea1⟩ : ∃ a, (encA e y).1 = a := ⟨_, rfl⟩
  obtain ⟨a2, ea2⟩ : ∃ a, (encA e y).2 = a := ⟨_, rfl⟩
  rw [ea1, ea2]
  have HA : Hid (encA e y = (a1, a2)) := Lib.hid (by rw [← ea1, ← ea2])
  clear ea1 ea2
  have HF := Lib.hid (fun W (h : Tab W) => isFaulty_any e W h hI)
  clear hI
  obtain ⟨c, el, wd, sc, ls⟩ := e
  simp only [enV] at HF ⊢
  have b1 : Below w.heap.size w (w.alloc (.cells #[.int .i64 c, .int .i64 el, .int .i64 wd, .int .i64 sc, .int .i64 ls] 47)) := (Below.refl _ _).alloc (Nat.le_refl _) _
  have r1 := Row.new w #[.int .i64 c, .int .i64 el, .int .i64 wd, .int .i64 sc, .int .i64 ls] 47
  have T1 := Lib.hid (hT.under b1)
  clear hT
  go_enter Tryd.func25, Tryd.ntmps25
  go_upto_region 1 with fail
  generalize w.alloc (.cells #[.int .i64 c, .int .i64 el, .int .i64 wd, .int .i64 sc, .int .i64 ls] 47) = W1 at *
  generalize w.heap.size = gb at r1 ⊢
  obtain ⟨p0, p1, p2, p3, p4⟩ := row5 r1
  have R1 := Lib.hid r1
  have B1 := Lib.hid b1
  clear r1 b1
  refine wp_region_held_drew (S := (fun w' : World => w'.cell? ⟨gb, 0, none⟩ = some (.int .i64 c) ∧ w'.cell? ⟨gb, 1, none⟩ = some (.int .i64 el) ∧ w'.cell? ⟨gb, 2, none⟩ = some (.int .i64 wd) ∧ w'.cell? ⟨gb, 3, none⟩ = some (.int .i64 sc) ∧ w'.cell? ⟨gb, 4, none⟩ = some (.int .i64 ls))) (by kernel_rfl) ⟨p0, p1, p2, p3, p4⟩ (fun hHeld => ?_)
  refine wpAnyH_take (i := 0) (oi := ⟨some 6, _, _, _, _, none⟩) (v := ?_) rfl (by kernel_rfl) (by kernel_rfl) (by kernel_rfl) (fun _ _ _ h => h) (Or.inl ⟨by rfl, ?_⟩) (by assumption) ?_
  case refine_2 => (intro wx hSx; (try dsimp only at hSx); go_simp; first | done | with_reducible rfl)
  ((try simp only [Act.put]); (try simp only [List.setIfInBounds_toArray]); (try simp only [List.set_cons_succ]); (try simp only [List.set_cons_zero]))
  clear p0 p1 p2 p3 p4
  refine wpAnyH_ready (rs := [1]) (by kernel_rfl) (by simp) ?_
  refine AllReadyH.cons (o := ⟨some 7, _, _, _, _, none⟩) rfl (fun K hK => ?_) AllReadyH.nil
  go_simp
  have T1d : Tab W1.drew := T1.out
  have HD := HF.out _ T1d
  clear T1d HF T1
  by_cases hok : okE (c, el, wd, sc, ls)
  case neg =>
    rw [decide_eq_true hok] at HD
    refine HD.mono ?_
    rintro x w2 ⟨rfl, g2⟩
    have G2 := Lib.hid (undrew g2)
    have B2 := Lib.hid (B1.out.trans (G2.out.mono B1.out.size))
    have HN : Hid (a1 = 0 ∧ a2 = 1) := Lib.hid (by have := HA.out; rw [encA_no (fun q => hok q.1)] at this; injection this with i1 i2; exact ⟨i1.symm, i2.symm⟩)
    clear g2 hok
    go_wp2_with fail
    refine hK.out _ _ (row5 (R1.out.under G2.out)) (fun hHeld2 => ?_)
    clear hK K hHeld
    ((try simp only [Act.put]); (try simp only [List.setIfInBounds_toArray]); (try simp only [List.set_cons_succ]); (try simp only [List.set_cons_zero]))
    refine wpAnyH_take (i := 2) (oi := ⟨some 8, _, _, _, _, none⟩) (v := ?_) rfl (by kernel_rfl) (by kernel_rfl) (by kernel_rfl) (fun _ _ _ h => h) (Or.inl ⟨by rfl, ?_⟩) (by assumption) ?_
    case refine_2 => (intro wx hSx; (try dsimp only at hSx); go_simp; first | done | with_reducible rfl)
    ((try simp only [Act.put]); (try simp only [List.setIfInBounds_toArray]); (try simp only [List.set_cons_succ]); (try simp only [List.set_cons_zero]))
    refine wpAnyH_take (i := 3) (oi := ⟨some 9, _, _, _, _, some _⟩) (v := undef) rfl (by kernel_rfl) (by kernel_rfl) (by kernel_rfl) (fun _ _ _ h => h) (Or.inr ⟨by rfl, rfl⟩) (by assumption) ?_
    ((try simp only [Act.put]); (try simp only [List.setIfInBounds_toArray]); (try simp only [List.set_cons_succ]); (try simp only [List.set_cons_zero]))
    refine wpAnyH_take (i := 4) (oi := ⟨some 10, _, _, _, _, some _⟩) (v := undef) rfl (by kernel_rfl) (by kernel_rfl) (by kernel_rfl) (fun _ _ _ h => h) (Or.inr ⟨by rfl, rfl⟩) (by assumption) ?_
    ((try simp only [Act.put]); (try simp only [List.setIfInBounds_toArray]); (try simp only [List.set_cons_succ]); (try simp only [List.set_cons_zero]))
    refine wpAnyH_take (i := 5) (oi := ⟨some 11, _, _, _, _, some _⟩) (v := undef) rfl (by kernel_rfl) (by kernel_rfl) (by kernel_rfl) (fun _ _ _ h => h) (Or.inr ⟨by rfl, rfl⟩) (by assumption) ?_
    ((try simp only [Act.put]); (try simp only [List.setIfInBounds_toArray]); (try simp only [List.set_cons_succ]); (try simp only [List.set_cons_zero]))
    refine wpAnyH_take (i := 6) (oi := ⟨some 12, _, _, _, _, some _⟩) (v := undef) rfl (by kernel_rfl) (by kernel_rfl) (by kernel_rfl) (fun _ _ _ h => h) (Or.inr ⟨by rfl, rfl⟩) (by assumption) ?_
    ((try simp only [Act.put]); (try simp only [List.setIfInBounds_toArray]); (try simp only [List.set_cons_succ]); (try simp only [List.set_cons_zero]))
    refine wpAnyH_take (i := 7) (oi := ⟨some 13, _, _, _, _, none⟩) (v := ?_) rfl (by kernel_rfl) (by kernel_rfl) (by kernel_rfl) (fun _ _ _ h => h) (Or.inl ⟨by rfl, ?_⟩) (by assumption) ?_
    case refine_2 => (intro wx hSx; (try dsimp only at hSx); go_simp; first | done | with_reducible rfl)
    ((try simp only [Act.put]); (try simp only [List.setIfInBounds_toArray]); (try simp only [List.set_cons_succ]); (try simp only [List.set_cons_zero]))
    refine wpAnyH_take (i := 8) (oi := ⟨some 14, _, _, _, _, none⟩) (v := ?_) rfl (by kernel_rfl) (by kernel_rfl) (by kernel_rfl) (fun _ _ _ h => h) (Or.inl ⟨by rfl, ?_⟩) (by assumption) ?_
    case refine_2 => (intro wx hSx; (try dsimp only at hSx); go_simp; first | done | with_reducible rfl)
    ((try simp only [Act.put]); (try simp only [List.setIfInBounds_toArray]); (try simp only [List.set_cons_succ]); (try simp only [List.set_cons_zero]))
    refine wpAnyH_take (i := 9) (oi := ⟨some 15, _, _, _, _, some _⟩) (v := undef) rfl (by kernel_rfl) (by kernel_rfl) (by kernel_rfl) (fun _ _ _ h => h) (Or.inr ⟨by rfl, rfl⟩) (by assumption) ?_
    ((try simp only [Act.put]); (try simp only [List.setIfInBounds_toArray]); (try simp only [List.set_cons_succ]); (try simp only [List.set_cons_zero]))
    refine wpAnyH_take (i := 10) (oi := ⟨some 16, _, _, _, _, some _⟩) (v := undef) rfl (by kernel_rfl) (by kernel_rfl) (by kernel_rfl) (fun _ _ _ h => h) (Or.inr ⟨by rfl, rfl⟩) (by assumption) ?_
    ((try simp only [Act.put]); (try simp only [List.setIfInBounds_toArray]); (try simp only [List.set_cons_succ]); (try simp only [List.set_cons_zero]))
    refine wpAnyH_take (i := 11) (oi := ⟨some 17, _, _, _, _, some _⟩) (v := undef) rfl (by kernel_rfl) (by kernel_rfl) (by kernel_rfl) (fun _ _ _ h => h) (Or.inr ⟨by rfl, rfl⟩) (by assumption) ?_
    ((try simp only [Act.put]); (try simp only [List.setIfInBounds_toArray]); (try simp only [List.set_cons_succ]); (try simp only [List.set_cons_zero]))
    refine wpAnyH_take (i := 12) (oi := ⟨some 18, _, _, _, _, some _⟩) (v := undef) rfl (by kernel_rfl) (by kernel_rfl) (by kernel_rfl) (fun _ _ _ h => h) (Or.inr ⟨by rfl, rfl⟩) (by assumption) ?_
    ((try simp only [Act.put]); (try simp only [List.setIfInBounds_toArray]); (try simp only [List.set_cons_succ]); (try simp only [List.set_cons_zero]))
    refine wpAnyH_take (i := 13) (oi := ⟨some 19, _, _, _, _, some _⟩) (v := undef) rfl (by kernel_rfl) (by kernel_rfl) (by kernel_rfl) (fun _ _ _ h => h) (Or.inr ⟨by rfl, rfl⟩) (by assumption) ?_
    ((try simp only [Act.put]); (try simp only [List.setIfInBounds_toArray]); (try simp only [List.set_cons_succ]); (try simp only [List.set_cons_zero]))
    refine wpAnyH_take (i := 14) (oi := ⟨some 20, _, _, _, _, some _⟩) (v := undef) rfl (by kernel_rfl) (by kernel_rfl) (by kernel_rfl) (fun _ _ _ h => h) (Or.inr ⟨by rfl, rfl⟩) (by assumption) ?_
    ((try simp only [Act.put]); (try simp only [List.setIfInBounds_toArray]); (try simp only [List.set_cons_succ]); (try simp only [List.set_cons_zero]))
    refine wpAnyH_take (i := 15) (oi := ⟨some 21, _, _, _, _, none⟩) (v := ?_) rfl (by kernel_rfl) (by kernel_rfl) (by kernel_rfl) (fun _ _ _ h => h) (Or.inl ⟨by rfl, ?_⟩) (by assumption) ?_
    case refine_2 => (intro wx hSx; (try dsimp only at hSx); go_simp; first | done | with_reducible rfl)
    ((try simp only [Act.put]); (try simp only [List.setIfInBounds_toArray]); (try simp only [List.set_cons_succ]); (try simp only [List.set_cons_zero]))
    refine wpAnyH_done (by kernel_rfl) ?_ _
    clear hHeld2
    go_wp2_with fail
    go_ret2
    exact ⟨by rw [HN.out.1, HN.out.2]; rfl, B2.out⟩
  rw [decide_eq_false (not_not_intro hok)] at HD
  obtain ⟨-, -, k1, k2, k3, k4, k5, k6⟩ := id hok
  simp only at k1 k2 k3 k4 k5 k6
  have PB := Lib.hid (pw_bd (k := wd.toNat) (by omega) (by omega))
  have HK := Lib.hid hok
  clear hok
  refine HD.mono ?_
  rintro x w2 ⟨rfl, g2⟩
  have G2 := Lib.hid (undrew g2)
  have B2 := Lib.hid (B1.out.trans (G2.out.mono B1.out.size))
  have R2 := Lib.hid (R1.out.under G2.out)
  clear g2 G2 R1 B1
  go_wp2_with fail
  refine hK.out _ _ (row5 R2.out) (fun hHeld2 => ?_)
  clear hK K hHeld
  ((try simp only [Act.put]); (try simp only [List.setIfInBounds_toArray]); (try simp only [List.set_cons_succ]); (try simp only [List.set_cons_zero]))
  refine wpAnyH_take (i := 2) (oi := ⟨some 8, _, _, _, _, none⟩) (v := ?_) rfl (by kernel_rfl) (by kernel_rfl) (by kernel_rfl) (fun _ _ _ h => h) (Or.inl ⟨by rfl, ?_⟩) (by assumption) ?_
  case refine_2 => (intro wx hSx; (try dsimp only at hSx); go_simp; first | done | with_reducible rfl)
  ((try simp only [Act.put]); (try simp only [List.setIfInBounds_toArray]); (try simp only [List.set_cons_succ]); (try simp only [List.set_cons_zero]))
  refine wpAnyH_take (i := 3) (oi := ⟨some 9, _, _, _, _, some _⟩) (v := ?_) rfl (by kernel_rfl) (by kernel_rfl) (by kernel_rfl) (fun _ _ _ h => h) (Or.inl ⟨by rfl, ?_⟩) (by assumption) ?_
  case refine_2 => (intro wx hSx; (try dsimp only at hSx); go_simp; first | done | with_reducible rfl)
  ((try simp only [Act.put]); (try simp only [List.setIfInBounds_toArray]); (try simp only [List.set_cons_succ]); (try simp only [List.set_cons_zero]))
  refine wpAnyH_take (i := 4) (oi := ⟨some 10, _, _, _, _, some _⟩) (v := ?_) rfl (by kernel_rfl) (by kernel_rfl) (by kernel_rfl) (fun _ _ _ h => h) (Or.inl ⟨by rfl, ?_⟩) (by assumption) ?_
  case refine_2 => (intro wx hSx; (try dsimp only at hSx); go_simp; first | done | with_reducible rfl)
  ((try simp only [Act.put]); (try simp only [List.setIfInBounds_toArray]); (try simp only [List.set_cons_succ]); (try simp only [List.set_cons_zero]))
  refine wpAnyH_take (i := 5) (oi := ⟨some 11, _, _, _, _, some _⟩) (v := ?_) rfl (by kernel_rfl) (by kernel_rfl) (by kernel_rfl) (fun _ _ _ h => h) (Or.inl ⟨by rfl, ?_⟩) (by assumption) ?_
  case refine_2 => (intro wx hSx; (try dsimp only at hSx); go_simp; first | done | with_reducible rfl)
  ((try simp only [Act.put]); (try simp only [List.setIfInBounds_toArray]); (try simp only [List.set_cons_succ]); (try simp only [List.set_cons_zero]))
  by_cases hlt : y < ls
  case pos =>
    have HN : Hid (a1 = 0 ∧ a2 = 1) := Lib.hid (by have := HA.out; rw [encA_no (fun q => by have := q.2.1; simp only at this; omega)] at this; injection this with i1 i2; exact ⟨i1.symm, i2.symm⟩)
    refine wpAnyH_take (i := 6) (oi := ⟨some 12, _, _, _, _, some _⟩) (v := ?_) rfl (by kernel_rfl) (by kernel_rfl) (by kernel_rfl) (fun _ _ _ h => h) (Or.inl ⟨by rfl, ?_⟩) (by assumption) ?_
    case refine_2 => (intro wx hSx; (try dsimp only at hSx); go_simp; first | done | with_reducible rfl)
    ((try simp only [Act.put]); (try simp only [List.setIfInBounds_toArray]); (try simp only [List.set_cons_succ]); (try simp only [List.set_cons_zero]))
    refine wpAnyH_take (i := 7) (oi := ⟨some 13, _, _, _, _, none⟩) (v := ?_) rfl (by kernel_rfl) (by kernel_rfl) (by kernel_rfl) (fun _ _ _ h => h) (Or.inl ⟨by rfl, ?_⟩) (by assumption) ?_
    case refine_2 => (intro wx hSx; (try dsimp only at hSx); go_simp; first | done | with_reducible rfl)
    ((try simp only [Act.put]); (try simp only [List.setIfInBounds_toArray]); (try simp only [List.set_cons_succ]); (try simp only [List.set_cons_zero]))
    refine wpAnyH_take (i := 8) (oi := ⟨some 14, _, _, _, _, none⟩) (v := ?_) rfl (by kernel_rfl) (by kernel_rfl) (by kernel_rfl) (fun _ _ _ h => h) (Or.inl ⟨by rfl, ?_⟩) (by assumption) ?_
    case refine_2 => (intro wx hSx; (try dsimp only at hSx); go_simp; first | done | with_reducible rfl)
    ((try simp only [Act.put]); (try simp only [List.setIfInBounds_toArray]); (try simp only [List.set_cons_succ]); (try simp only [List.set_cons_zero]))
    refine wpAnyH_take (i := 9) (oi := ⟨some 15, _, _, _, _, some _⟩) (v := undef) rfl (by kernel_rfl) (by kernel_rfl) (by kernel_rfl) (fun _ _ _ h => h) (Or.inr ⟨by rfl, rfl⟩) (by assumption) ?_
    ((try simp only [Act.put]); (try simp only [List.setIfInBounds_toArray]); (try simp only [List.set_cons_succ]); (try simp only [List.set_cons_zero]))
    refine wpAnyH_take (i := 10) (oi := ⟨some 16, _, _, _, _, some _⟩) (v := undef) rfl (by kernel_rfl) (by kernel_rfl) (by kernel_rfl) (fun _ _ _ h => h) (Or.inr ⟨by rfl, rfl⟩) (by assumption) ?_
    ((try simp only [Act.put]); (try simp only [List.setIfInBounds_toArray]); (try simp only [List.set_cons_succ]); (try simp only [List.set_cons_zero]))
    refine wpAnyH_take (i := 11) (oi := ⟨some 17, _, _, _, _, some _⟩) (v := undef) rfl (by kernel_rfl) (by kernel_rfl) (by kernel_rfl) (fun _ _ _ h => h) (Or.inr ⟨by rfl, rfl⟩) (by assumption) ?_
    ((try simp only [Act.put]); (try simp only [List.setIfInBounds_toArray]); (try simp only [List.set_cons_succ]); (try simp only [List.set_cons_zero]))
    refine wpAnyH_take (i := 12) (oi := ⟨some 18, _, _, _, _, some _⟩) (v := undef) rfl (by kernel_rfl) (by kernel_rfl) (by kernel_rfl) (fun _ _ _ h => h) (Or.inr ⟨by rfl, rfl⟩) (by assumption) ?_
    ((try simp only [Act.put]); (try simp only [List.setIfInBounds_toArray]); (try simp only [List.set_cons_succ]); (try simp only [List.set_cons_zero]))
    refine wpAnyH_take (i := 13) (oi := ⟨some 19, _, _, _, _, some _⟩) (v := undef) rfl (by kernel_rfl) (by kernel_rfl) (by kernel_rfl) (fun _ _ _ h => h) (Or.inr ⟨by rfl, rfl⟩) (by assumption) ?_
    ((try simp only [Act.put]); (try simp only [List.setIfInBounds_toArray]); (try simp only [List.set_cons_succ]); (try simp only [List.set_cons_zero]))
    refine wpAnyH_take (i := 14) (oi := ⟨some 20, _, _, _, _, some _⟩) (v := undef) rfl (by kernel_rfl) (by kernel_rfl) (by kernel_rfl) (fun _ _ _ h => h) (Or.inr ⟨by rfl, rfl⟩) (by assumption) ?_
    ((try simp only [Act.put]); (try simp only [List.setIfInBounds_toArray]); (try simp only [List.set_cons_succ]); (try simp only [List.set_cons_zero]))
    refine wpAnyH_take (i := 15) (oi := ⟨some 21, _, _, _, _, none⟩) (v := ?_) rfl (by kernel_rfl) (by kernel_rfl) (by kernel_rfl) (fun _ _ _ h => h) (Or.inl ⟨by rfl, ?_⟩) (by assumption) ?_
    case refine_2 => (intro wx hSx; (try dsimp only at hSx); go_simp; first | done | with_reducible rfl)
    ((try simp only [Act.put]); (try simp only [List.setIfInBounds_toArray]); (try simp only [List.set_cons_succ]); (try simp only [List.set_cons_zero]))
    refine wpAnyH_done (by kernel_rfl) ?_ _
    clear hHeld2
    go_wp2_with fail
    go_ret2
    exact ⟨by rw [HN.out.1, HN.out.2]; rfl, B2.out⟩
  refine wpAnyH_take (i := 6) (oi := ⟨some 12, _, _, _, _, some _⟩) (v := ?_) rfl (by kernel_rfl) (by kernel_rfl) (by kernel_rfl) (fun _ _ _ h => h) (Or.inl ⟨by rfl, ?_⟩) (by assumption) ?_
  case refine_2 => (intro wx hSx; (try dsimp only at hSx); go_simp; first | done | with_reducible rfl)
  ((try simp only [Act.put]); (try simp only [List.setIfInBounds_toArray]); (try simp only [List.set_cons_succ]); (try simp only [List.set_cons_zero]))
  refine wpAnyH_take (i := 7) (oi := ⟨some 13, _, _, _, _, none⟩) (v := ?_) rfl (by kernel_rfl) (by kernel_rfl) (by kernel_rfl) (fun _ _ _ h => h) (Or.inl ⟨by rfl, ?_⟩) (by assumption) ?_
  case refine_2 => (intro wx hSx; (try dsimp only at hSx); go_simp; first | done | with_reducible rfl)
  ((try simp only [Act.put]); (try simp only [List.setIfInBounds_toArray]); (try simp only [List.set_cons_succ]); (try simp only [List.set_cons_zero]))
  refine wpAnyH_take (i := 8) (oi := ⟨some 14, _, _, _, _, none⟩) (v := ?_) rfl (by kernel_rfl) (by kernel_rfl) (by kernel_rfl) (fun _ _ _ h => h) (Or.inl ⟨by rfl, ?_⟩) (by assumption) ?_
  case refine_2 => (intro wx hSx; (try dsimp only at hSx); go_simp; first | done | with_reducible rfl)
  ((try simp only [Act.put]); (try simp only [List.setIfInBounds_toArray]); (try simp only [List.set_cons_succ]); (try simp only [List.set_cons_zero]))
  refine wpAnyH_take (i := 9) (oi := ⟨some 15, _, _, _, _, some _⟩) (v := ?_) rfl (by kernel_rfl) (by kernel_rfl) (by kernel_rfl) (fun _ _ _ h => h) (Or.inl ⟨by rfl, ?_⟩) (by assumption) ?_
  case refine_2 => (intro wx hSx; (try dsimp only at hSx); go_simp; first | done | with_reducible rfl)
  ((try simp only [Act.put]); (try simp only [List.setIfInBounds_toArray]); (try simp only [List.set_cons_succ]); (try simp only [List.set_cons_zero]))
  refine wpAnyH_take (i := 10) (oi := ⟨some 16, _, _, _, _, some _⟩) (v := ?_) rfl (by kernel_rfl) (by kernel_rfl) (by kernel_rfl) (fun _ _ _ h => h) (Or.inl ⟨by rfl, ?_⟩) (by assumption) ?_
  case refine_2 => (intro wx hSx; (try dsimp only at hSx); go_simp; first | done | with_reducible rfl)
  ((try simp only [Act.put]); (try simp only [List.setIfInBounds_toArray]); (try simp only [List.set_cons_succ]); (try simp only [List.set_cons_zero]))
  refine wpAnyH_take (i := 11) (oi := ⟨some 17, _, _, _, _, some _⟩) (v := ?_) rfl (by kernel_rfl) (by kernel_rfl) (by kernel_rfl) (fun _ _ _ h => h) (Or.inl ⟨by rfl, ?_⟩) (by assumption) ?_
  case refine_2 => (intro wx hSx; (try dsimp only at hSx); go_simp; first | done | with_reducible rfl)
  ((try simp only [Act.put]); (try simp only [List.setIfInBounds_toArray]); (try simp only [List.set_cons_succ]); (try simp only [List.set_cons_zero]))
  have p0 := absent_any c el wd sc ls w2 k1 k2
  refine wpAnyH_ready (rs := [12]) (by kernel_rfl) (by simp) ?_
  refine AllReadyH.cons (o := ⟨some 18, _, _, _, _, some _⟩) rfl (fun K hK => ?_) AllReadyH.nil
  go_simp
  refine p0.mono ?_
  rintro x w3 ⟨rfl, g3⟩
  have B3 := Lib.hid (B2.out.trans (g3.mono B2.out.size))
  have R3 := Lib.hid (R2.out.under g3)
  clear g3 p0 B2 R2
  go_wp2_with fail
  refine hK.out _ _ (row5 R3.out) (fun hHeld3 => ?_)
  clear hK K hHeld2
  ((try simp only [Act.put]); (try simp only [List.setIfInBounds_toArray]); (try simp only [List.set_cons_succ]); (try simp only [List.set_cons_zero]))

  obtain ⟨q1, q2⟩ := PB.out
  obtain ⟨P, hP⟩ : ∃ P : Int, 2 ^ wd.toNat = P := ⟨_, rfl⟩
  have HP := Lib.hid hP
  rw [hP] at q1 q2 ⊢
  clear hP PB
  have p0 := valueOf_any c el wd sc ls (P - 1) w3 k3 k4 k5 k6 (by omega) (by omega)
  refine wpAnyH_ready (rs := [13]) (by kernel_rfl) (by simp) ?_
  refine AllReadyH.cons (o := ⟨some 19, _, _, _, _, some _⟩) rfl (fun K hK => ?_) AllReadyH.nil
  go_simp
  refine p0.mono ?_
  rintro x w4 ⟨rfl, g4⟩
  have B4 := Lib.hid (B3.out.trans (g4.mono B3.out.size))
  have R4 := Lib.hid (R3.out.under g4)
  clear g4 p0 B3 R3
  go_wp2_with fail
  refine hK.out _ _ (row5 R4.out) (fun hHeld4 => ?_)
  clear hK K hHeld3
  ((try simp only [Act.put]); (try simp only [List.setIfInBounds_toArray]); (try simp only [List.set_cons_succ]); (try simp only [List.set_cons_zero]))

  obtain ⟨m1, m2⟩ := mul_bd (a := sc) (b := P - 1) k3 k4 (by omega) (by omega)
  obtain ⟨M, hM⟩ : ∃ M : Int, sc * (P - 1) = M := ⟨_, rfl⟩
  have HM := Lib.hid hM
  rw [hM] at m1 m2 ⊢
  clear hM
  by_cases hge : ls + M ≤ y
  case pos =>
    have HN : Hid (a1 = 0 ∧ a2 = 1) := Lib.hid (by have := HA.out; rw [encA_no (fun q => by have := q.2.2; simp only at this; rw [HP.out, HM.out] at this; omega)] at this; injection this with i1 i2; exact ⟨i1.symm, i2.symm⟩)
    refine wpAnyH_take (i := 14) (oi := ⟨some 20, _, _, _, _, some _⟩) (v := ?_) rfl (by kernel_rfl) (by kernel_rfl) (by kernel_rfl) (fun _ _ _ h => h) (Or.inl ⟨by rfl, ?_⟩) (by assumption) ?_
    case refine_2 => (intro wx hSx; (try dsimp only at hSx); go_simp; first | done | with_reducible rfl)
    ((try simp only [Act.put]); (try simp only [List.setIfInBounds_toArray]); (try simp only [List.set_cons_succ]); (try simp only [List.set_cons_zero]))
    refine wpAnyH_take (i := 15) (oi := ⟨some 21, _, _, _, _, none⟩) (v := ?_) rfl (by kernel_rfl) (by kernel_rfl) (by kernel_rfl) (fun _ _ _ h => h) (Or.inl ⟨by rfl, ?_⟩) (by assumption) ?_
    case refine_2 => (intro wx hSx; (try dsimp only at hSx); go_simp; first | done | with_reducible rfl)
    ((try simp only [Act.put]); (try simp only [List.setIfInBounds_toArray]); (try simp only [List.set_cons_succ]); (try simp only [List.set_cons_zero]))
    refine wpAnyH_done (by kernel_rfl) ?_ _
    clear hHeld4
    go_wp2_with fail
    go_ret2
    exact ⟨by rw [HN.out.1, HN.out.2]; rfl, B4.out⟩
  have HN : Hid (a1 = (y - ls) / sc ∧ a2 = 0) := Lib.hid (by have := HA.out; rw [encA_yes HK.out (by simp only; omega) (by simp only; rw [HP.out, HM.out]; omega)] at this; injection this with i1 i2; exact ⟨i1.symm, i2.symm⟩)
  refine wpAnyH_take (i := 14) (oi := ⟨some 20, _, _, _, _, some _⟩) (v := ?_) rfl (by kernel_rfl) (by kernel_rfl) (by kernel_rfl) (fun _ _ _ h => h) (Or.inl ⟨by rfl, ?_⟩) (by assumption) ?_
  case refine_2 => (intro wx hSx; (try dsimp only at hSx); go_simp; first | done | with_reducible rfl)
  ((try simp only [Act.put]); (try simp only [List.setIfInBounds_toArray]); (try simp only [List.set_cons_succ]); (try simp only [List.set_cons_zero]))
  refine wpAnyH_take (i := 15) (oi := ⟨some 21, _, _, _, _, none⟩) (v := ?_) rfl (by kernel_rfl) (by kernel_rfl) (by kernel_rfl) (fun _ _ _ h => h) (Or.inl ⟨by rfl, ?_⟩) (by assumption) ?_
  case refine_2 => (intro wx hSx; (try dsimp only at hSx); go_simp; first | done | with_reducible rfl)
  ((try simp only [Act.put]); (try simp only [List.setIfInBounds_toArray]); (try simp only [List.set_cons_succ]); (try simp only [List.set_cons_zero]))
  refine wpAnyH_done (by kernel_rfl) ?_ _
  clear hHeld4
  obtain ⟨-, -, -, p3, p4⟩ := row5 R4.out
  go_wp2_with fail
  go_ret2
  exact ⟨by rw [HN.out.1, HN.out.2]; rfl, B4.out⟩
set_option maxRecDepth 100000 in
set_option maxHeartbeats 2000000 in
theorem decode_any (e : En) (y : Int) (w : World) (hT : Tab w) (hI : I64 e.1) :
    Calls Tryd.prog 27 #[enV e, .int .i64 y] w fun x w' => x = .returned (.tuple #[.int .i64 (decA e y).1, .bool (decA e y).2]) ∧ Below w.heap.size w w' := by
  obtain ⟨a1, ea1⟩ : ∃ a, (decA e y).1 = a := ⟨_, rfl⟩
  obtain ⟨a2, ea2⟩ : ∃ a, (decA e y).2 = a := ⟨_, rfl⟩
  rw [ea1, ea2]
  have HA : Hid (decA e y = (a1, a2)) := Lib.hid (by rw [← ea1, ← ea2])
  clear ea1 ea2
  have HF := Lib.hid (fun W (h : Tab W) => isFaulty_any e W h hI)
  clear hI
  obtain ⟨c, el, wd, sc, ls⟩ := e
  simp only [enV] at HF ⊢
  have b1 : Below w.heap.size w (w.alloc (.cells #[.int .i64 c, .int .i64 el, .int .i64 wd, .int .i64 sc, .int .i64 ls] 47)) := (Below.refl _ _).alloc (Nat.le_refl _) _
  have r1 := Row.new w #[.int .i64 c, .int .i64 el, .int .i64 wd, .int .i64 sc, .int .i64 ls] 47
  have T1 := Lib.hid (hT.under b1)
  clear hT
  go_enter Tryd.func27, Tryd.ntmps27
  go_upto_region 1 with fail
  generalize w.alloc (.cells #[.int .i64 c, .int .i64 el, .int .i64 wd, .int .i64 sc, .int .i64 ls] 47) = W1 at *
  generalize w.heap.size = gb at r1 ⊢
  obtain ⟨p0, p1, p2, p3, p4⟩ := row5 r1
  have R1 := Lib.hid r1
  have B1 := Lib.hid b1
  clear r1 b1
  have HD := HF.out _ T1.out
  clear HF T1
  by_cases hok : okE (c, el, wd, sc, ls)
  case neg =>
    rw [decide_eq_true hok] at HD
    go_wp2_with fail
    refine HD.mono ?_
    rintro x w2 ⟨rfl, g2⟩
    have G2 := Lib.hid g2
    have B2 := Lib.hid (B1.out.trans (G2.out.mono B1.out.size))
    have HN : Hid (a1 = 0 ∧ a2 = false) := Lib.hid (by have := HA.out; rw [decA_no (fun q => hok q.1)] at this; injection this with i1 i2; exact ⟨i1.symm, i2.symm⟩)
    clear g2 hok p0 p1 p2 p3 p4
    go_wp2_with fail
    go_ret2
    exact ⟨by rw [HN.out.1, HN.out.2]; rfl, B2.out⟩
  rw [decide_eq_false (not_not_intro hok)] at HD
  obtain ⟨-, -, k1, k2, k3, k4, k5, k6⟩ := id hok
  simp only at k1 k2 k3 k4 k5 k6
  have PB := Lib.hid (pw_bd (k := wd.toNat) (by omega) (by omega))
  have HK := Lib.hid hok
  clear hok
  go_wp2_with fail
  refine HD.mono ?_
  rintro x w2 ⟨rfl, g2⟩
  have B2 := Lib.hid (B1.out.trans (g2.mono B1.out.size))
  have R2 := Lib.hid (R1.out.under g2)
  clear g2 R1 B1 HD p0 p1 p2 p3 p4
  obtain ⟨p0, p1, p2, p3, p4⟩ := row5 R2.out
  have pa := Lib.hid (absent_any c el wd sc ls w2 k1 k2)
  go_wp2_with fail
  refine pa.out.mono ?_
  rintro x w3 ⟨rfl, g3⟩
  have B3 := Lib.hid (B2.out.trans (g3.mono B2.out.size))
  have R3 := Lib.hid (R2.out.under g3)
  clear g3 pa B2 R2 p0 p1 p2 p3 p4
  obtain ⟨q1, q2⟩ := PB.out
  obtain ⟨P, hP⟩ : ∃ P : Int, 2 ^ wd.toNat = P := ⟨_, rfl⟩
  have HP := Lib.hid hP
  rw [hP] at q1 q2 ⊢
  clear hP PB
  obtain ⟨d, hd⟩ : ∃ d, decide (0 ≤ y ∧ y ≤ P - 1 - 1) = d := ⟨_, rfl⟩
  have pa := within_any y 0 (P - 1 - 1) w3
  rw [hd] at pa
  have pa := Lib.hid pa
  have HD := Lib.hid hd
  clear hd
  go_wp2_with fail
  refine pa.out.mono ?_
  rintro x w4 ⟨rfl, rfl⟩
  clear pa
  cases d with
  | false =>
    have HN : Hid (a1 = 0 ∧ a2 = false) := Lib.hid (by have := HA.out; rw [decA_no (fun q => of_decide_eq_false HD.out (by have := q.2; simp only at this; rw [HP.out] at this; omega))] at this; injection this with i1 i2; exact ⟨i1.symm, i2.symm⟩)
    go_wp2_with fail
    go_ret2
    exact ⟨by rw [HN.out.1, HN.out.2]; rfl, B3.out⟩
  | true =>
    have hb := of_decide_eq_true HD.out
    have HN : Hid (a1 = ls + sc * y ∧ a2 = true) := Lib.hid (by have := HA.out; rw [decA_yes HK.out (by omega) (by simp only; rw [HP.out]; omega)] at this; injection this with i1 i2; exact ⟨i1.symm, i2.symm⟩)
    obtain ⟨p0, p1, p2, p3, p4⟩ := row5 R3.out
    have hv := Lib.hid (fun w => valueOf_any c el wd sc ls y w k3 k4 k5 k6 hb.1 (by omega))
    go_wp2_with fail
    refine (hv.out _).mono ?_
    rintro x w4 ⟨rfl, g4⟩
    have B4 := Lib.hid (B3.out.trans (g4.mono B3.out.size))
    clear g4 p0 p1 p2 p3 p4 hv
    go_wp2_with fail
    go_ret2
    exact ⟨by rw [HN.out.1, HN.out.2]; rfl, B4.out⟩
end Go.Proofs.YtjaopjhfjijdaaaDoor
