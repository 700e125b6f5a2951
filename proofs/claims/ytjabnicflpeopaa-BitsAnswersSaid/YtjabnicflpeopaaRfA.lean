/- Contracts of the reference's At and Valid; lists of numbers in memory. -/
import Derived.Test.YtjabnicflpeopaaBitE
namespace Go.Proofs.Ytjabnicflpeopaa
open Go.RowKit

/-- Numbers as cells. -/
def ic (X : List Int) : List Value := X.map fun x => .int .i64 x
theorem ic_len (X : List Int) : (ic X).length = X.length := by simp [ic]
theorem ic_at {X : List Int} {j : Nat} (h : j < X.length) : (ic X)[j]? = some (.int .i64 X[j]) := by simp [ic, List.getElem?_map, List.getElem?_eq_getElem h]
theorem ic_app (X Y : List Int) : ic (X ++ Y) = ic X ++ ic Y := by simp [ic]
theorem ic_one (X : List Int) : ∀ u ∈ ic X, u.oneCell' = true := by
  intro u hu
  obtain ⟨x, -, rfl⟩ := List.mem_map.1 hu
  rfl
/-- A slice of numbers that reads as X. -/
def Ins (w : World) (A : Option Addr) (c : Nat) (X : List Int) : Prop :=
  X.length ≤ c ∧ c ≤ 9223372036854775807 ∧ (A = none → X = [] ∧ c = 0) ∧ ∀ i (h : i < X.length), ∃ bk off, A = some ⟨bk, off, none⟩ ∧ bk < w.heap.size ∧ w.cell? ⟨bk, off + i, none⟩ = some (.int .i64 X[i])
theorem Ins.under {w w' : World} {A : Option Addr} {c : Nat} {X : List Int} (h : Ins w A c X) (hb : Below w.heap.size w w') : Ins w' A c X :=
  ⟨h.1, h.2.1, h.2.2.1, fun i hi => by
    obtain ⟨bk, off, e, hlt, hc⟩ := h.2.2.2 i hi
    exact ⟨bk, off, e, Nat.lt_of_lt_of_le hlt hb.size, (hb.cell (p := ⟨bk, off + i, none⟩) hlt).trans hc⟩⟩
/-- Numbers in memory of one's own. -/
abbrev OwnI (w : World) (base : Nat) (v : Value) (X : List Int) : Prop := w.ownsRow base 3 1 v X.length (ic X)
theorem OwnI.ins {w : World} {base : Nat} {v : Value} {X : List Int} (h : OwnI w base v X) : ∃ A c, v = .slice A X.length c ∧ Ins w A c X := by
  rcases h.2 with ⟨rfl, hn⟩ | ⟨g, cap, cur, rfl, hbg, hg, hnc, hcm, hcs, htake⟩
  · have hX : X = [] := List.eq_nil_of_length_eq_zero hn
    subst hX
    exact ⟨none, 0, rfl, by decide, by decide, fun _ => ⟨rfl, rfl⟩, fun i hi => by (cases hi)⟩
  · refine ⟨some ⟨g, 0, none⟩, cap, rfl, hnc, by unfold maxLen at hcm; exact hcm, fun e => by (cases e), fun i hi => ⟨g, 0, rfl, ?_, ?_⟩⟩
    · rcases Nat.lt_or_ge g w.heap.size with q | q
      · exact q
      · rw [Array.getElem?_eq_none q] at hg; cases hg
    · rw [Nat.zero_add, World.ownsRow.cellAt h i (by omega)]
      exact ic_at hi
theorem OwnI.nil (w : World) (base : Nat) : OwnI w base (.slice none 0 0) [] := ⟨rfl, .inl ⟨rfl, rfl⟩⟩
set_option maxHeartbeats 400000 in
theorem refAt_any (w : World) (A : Option Addr) (c : Nat) (L : List Nat) (n : Int) (i : Nat) (h : Bys w A c L) (hi : i / 8 < L.length) (hi2 : i ≤ 9000000) :
    Calls Try.prog 28 #[.agg #[.slice A L.length c, .int .i64 n], .int .i64 i] w fun e w' => e = .returned (.int .i64 ((bt L i).toNat : Int)) ∧ Below w.heap.size w w' := by
  obtain ⟨bk, off, rfl, hlt, hc⟩ := h.addr (by omega)
  have cx := hc (i / 8) hi
  have B := Lib.hid (bit_int hi)
  have hx := h.2.2.2.1 _ (List.getElem_mem hi)
  have hlc := h.1
  have hc2 := h.2.1
  generalize L[i / 8] = x at cx B hx
  have u0 : (0 : Int) ≤ (i : Int) / 8 := by omega
  have u1 : (i : Int) / 8 < (L.length : Int) := by omega
  have u3 : ((i : Int) / 8).toNat = i / 8 := by omega
  have u4 : (0 : Int) ≤ 7 - (i : Int) % 8 := by omega
  clear h hc
  go_enter Try.func28, Try.ntmps28
  go_wp2_with fail
  have hd0 : (0 : Int) ≤ (x : Int) / 2 ^ (7 - i % 8) := Int.ediv_nonneg (by omega) (Int.le_of_lt (Int.pow_pos (by decide)))
  have hd1 : (x : Int) / 2 ^ (7 - i % 8) < 256 := Int.lt_of_le_of_lt (Int.ediv_le_self _ (by omega)) (by omega)
  go_ret
  exact ⟨ret_i64 (by rw [IntWalk.wrap64_in _ ⟨by omega, by omega⟩, and_one_i64 _ hd0 (by omega), B.out]), (Below.refl _ _).alloc (Nat.le_refl _) _⟩
theorem vb_len {L : List Nat} {n : Nat} (h1 : n ≤ 40000) (h2 : L.length = (n + 7) / 8) (h3 : ∀ i, n ≤ i → i < 8 * L.length → bt L i = false) : vb L (n : Int) = true :=
  vb_yes ⟨by omega, by omega, by simpa using h2, fun i hi => by
    by_cases hl : i < 8 * L.length
    · exact h3 i (by simpa using hi) hl
    · exact bt_ge (by omega)⟩
set_option maxHeartbeats 1000000 in
theorem refValid_any (w : World) (A : Option Addr) (c : Nat) (L : List Nat) (n : Int) (h : Bys w A c L) (hn0 : -9223372036854775808 ≤ n) (hn1 : n ≤ 9223372036854775807) :
    Calls Try.prog 23 #[.agg #[.slice A L.length c, .int .i64 n]] w (AnsB (vb L n) w) := by
  have hc1 := h.1
  have hc2 := h.2.1
  by_cases h0 : 0 ≤ n
  · by_cases h1 : n ≤ 40000
    · obtain ⟨n, rfl⟩ := Int.eq_ofNat_of_zero_le h0
      have h1 : n ≤ 40000 := by omega
      by_cases h2 : L.length = (n + 7) / 8
      · have t1 : ((n : Int) + 7) / 8 = (L.length : Int) := by omega
        have hl : L.length ≤ 5001 := by omega
        have H := Lib.hid h
        have H2 := Lib.hid h2
        clear h2 h
        go_enter Try.func23, Try.ntmps23
        go_wp2_with fail
        have R0 : Hid (Row (w.alloc (.cells #[.slice A L.length c, .int .i64 (n : Int)] 24)) w.heap.size 24 #[.slice A L.length c, .int .i64 (n : Int)] ∧ Below w.heap.size w (w.alloc (.cells #[.slice A L.length c, .int .i64 (n : Int)] 24))) := Lib.hid ⟨Row.new _ _ _, (Below.refl _ _).alloc (Nat.le_refl _) _⟩
        clear t1
        go_loopw [3] (fun t Y => ∃ i : Nat, n ≤ i ∧ i ≤ 40008 ∧ t = .int .i64 i ∧ Hid (Row Y w.heap.size 24 #[.slice A L.length c, .int .i64 (n : Int)] ∧ Below w.heap.size w Y) ∧ Hid (∀ j, n ≤ j → j < i → bt L j = false)) (fun t _ => 8 * L.length - (intOf t).toNat)
        case atStart => exact ⟨n, Nat.le_refl _, by omega, rfl, R0, Lib.hid (fun j a b => by omega)⟩
        case round =>
          clear R0
          obtain ⟨i, hi, hi2, rfl, M, HN⟩ := hrel
          obtain ⟨p0, p1⟩ := row2 M.out.1
          by_cases hlt : i < 8 * L.length
          · have i0 : (0 : Int) ≤ (i : Int) := by omega
            have i1 : (i : Int) < 8 * (L.length : Int) := by omega
            have HC := Lib.hid (refAt_any wr A c L (n : Int) i (H.out.under M.out.2) (by omega) (by omega))
            by_cases hb : bt L i = true
            · have HV : Hid (vb L (n : Int) = false) := Lib.hid (vb_no (fun v => by have := v.2.2.2 i (by simpa using hi); rw [hb] at this; cases this))
              rw [hb] at HC
              clear hb
              go_wp2_with fail
              refine HC.out.mono ?_
              rintro e w2 ⟨rfl, g2⟩
              have B2 := Lib.hid (M.out.2.trans (g2.mono M.out.2.size))
              clear g2 HC p0 p1
              go_wp2
              go_ret
              exact ⟨ret_bool HV.out.symm, B2.out⟩
            · have hb : bt L i = false := by simpa using hb
              have HN2 : Hid (∀ j, n ≤ j → j < i + 1 → bt L j = false) := Lib.hid (fun j a b => by
                rcases Nat.lt_or_ge j i with q | q
                · exact HN.out j a q
                · obtain rfl : j = i := by omega
                  exact hb)
              rw [hb] at HC
              clear hb
              go_wp2_with fail
              refine HC.out.mono ?_
              rintro e w2 ⟨rfl, g2⟩
              have B2 := Lib.hid (show Row w2 w.heap.size 24 #[.slice A L.length c, .int .i64 (n : Int)] ∧ Below w.heap.size w w2 from ⟨M.out.1.under g2, M.out.2.trans (g2.mono M.out.2.size)⟩)
              clear g2 HC p0 p1
              go_wp2_with fail
              go_roundw
              case rel => exact ⟨i + 1, by omega, by omega, by go_num, B2, HN2⟩
              case measure => simp [intOf]; omega
          · have k1 : ¬ (i : Int) < 8 * (L.length : Int) := by omega
            have HV : Hid (vb L (n : Int) = true) := Lib.hid (vb_len h1 H2.out (fun j a b => HN.out j a (by omega)))
            go_wp2
            go_ret
            exact ⟨ret_bool HV.out.symm, M.out.2⟩
      · have HV : Hid (vb L (n : Int) = false) := Lib.hid (vb_no (fun h => h2 (by simpa using h.2.2.1)))
        have t1 : ((L.length : Int) == ((n : Int) + 7) / 8) = false := by simp; omega
        have t2 : ((L.length : Int) != ((n : Int) + 7) / 8) = true := by simp; omega
        clear h2 h
        go_enter Try.func23, Try.ntmps23
        go_wp2
        go_ret
        exact ⟨ret_bool HV.out.symm, ((Below.refl _ _).alloc (Nat.le_refl _) _)⟩
    · have HV : Hid (vb L n = false) := Lib.hid (vb_no (fun h => h1 h.2.1))
      clear h
      go_enter Try.func23, Try.ntmps23
      go_wp2
      go_ret
      exact ⟨ret_bool HV.out.symm, ((Below.refl _ _).alloc (Nat.le_refl _) _)⟩
  · have HV : Hid (vb L n = false) := Lib.hid (vb_no (fun h => h0 h.1))
    clear h
    go_enter Try.func23, Try.ntmps23
    go_wp2
    go_ret
    exact ⟨ret_bool HV.out.symm, ((Below.refl _ _).alloc (Nat.le_refl _) _)⟩
end Go.Proofs.Ytjabnicflpeopaa
