/- The contract of the reference's Validate. -/
import Derived.Test.YtjaopjhfjijdaaaDoorRk
namespace Go.Proofs.YtjaopjhfjijdaaaDoor
open Go.RowKit

theorem EnIn.elem {w Y : World} {A : Option Addr} {n cap : Nat} {es : List En} (h : EnIn w (.slice A n cap) es) (hb : Below w.heap.size w Y) {i : Nat} (hi : i < es.length) : ∃ g off, A = some ⟨g, off, none⟩ ∧ At5 Y g (off + i * 5) es[i] ∧ I64 (es[i]).1 := by
  obtain ⟨A', c, e, -, -, h4⟩ := h
  injection e with e
  subst e
  obtain ⟨g, off, a, b, c, d⟩ := h4 i hi
  exact ⟨g, off, a, c.under b hb, d⟩
theorem SqIn.elem {w Y : World} {A : Option Addr} {n cap : Nat} {ss : List Sq} (h : SqIn w (.slice A n cap) ss) (hb : Below w.heap.size w Y) {i : Nat} (hi : i < ss.length) : ∃ g off B c, A = some ⟨g, off, none⟩ ∧ Y.cell? ⟨g, off + i * 2, none⟩ = some (.int .i64 (ss[i]).1) ∧ Y.cell? ⟨g, off + i * 2 + 1, none⟩ = some (.slice B (ss[i]).2.length c) ∧ NmIn Y (.slice B (ss[i]).2.length c) (ss[i]).2 ∧ I64 (ss[i]).1 := by
  obtain ⟨A', c, e, -, -, h4⟩ := h
  injection e with e
  subst e
  obtain ⟨g, off, u, a, b, c, d, e, f⟩ := h4 i hi
  have e' := e.under (hb.mono (Nat.le_refl _))
  obtain ⟨B, cc, eu, -⟩ := id e
  subst eu
  exact ⟨g, off, B, cc, a, (hb.cell (p := ⟨g, off + i * 2, none⟩) b).trans c, (hb.cell (p := ⟨g, off + i * 2 + 1, none⟩) b).trans d, e', f⟩
theorem SqIn.elem' {w Y : World} {g off n cap : Nat} {ss : List Sq} (h : SqIn w (.slice (some ⟨g, off, none⟩) n cap) ss) (hb : Below w.heap.size w Y) {i : Nat} (hi : i < ss.length) : ∃ B c, Y.cell? ⟨g, off + i * 2, none⟩ = some (.int .i64 (ss[i]).1) ∧ Y.cell? ⟨g, off + i * 2 + 1, none⟩ = some (.slice B (ss[i]).2.length c) ∧ NmIn Y (.slice B (ss[i]).2.length c) (ss[i]).2 ∧ I64 (ss[i]).1 := by
  obtain ⟨g', off', B, c, e, h⟩ := h.elem hb hi
  injection e with e
  injection e with e1 e2
  subst e1; subst e2
  exact ⟨B, c, h⟩
theorem NmIn.elem {Y : World} {B : Option Addr} {n c : Nat} {C : List Int} (h : NmIn Y (.slice B n c) C) {i : Nat} (hi : i < C.length) : ∃ g off, B = some ⟨g, off, none⟩ ∧ Y.cell? ⟨g, off + i, none⟩ = some (.int .i64 C[i]) ∧ I64 C[i] := by
  obtain ⟨A', c, e, -, -, h4⟩ := h
  injection e with e
  subst e
  obtain ⟨g, off, a, -, b, c⟩ := h4 i hi
  exact ⟨g, off, a, b, c⟩
theorem all_mem {α : Type} {L : List α} {p : α → Prop} (h : ∀ j (hj : j < L.length), p L[j]) : ∀ x ∈ L, p x := fun x hx => by
  obtain ⟨j, hj, rfl⟩ := List.getElem_of_mem hx
  exact h j hj
theorem nodup_all {α : Type} {L : List α} {f : α → Int} (h : ∀ i (hi : i < L.length) j (hj : j < L.length), j < i → f L[i] ≠ f L[j]) : (L.map f).Nodup := by
  refine List.pairwise_iff_getElem.2 fun i j hi hj hij => ?_
  rw [List.length_map] at hi hj
  rw [List.getElem_map, List.getElem_map]
  exact Ne.symm (h j hj i hi hij)
theorem nodup_not {α : Type} {L : List α} {f : α → Int} {i j : Nat} (hi : i < L.length) (hj : j < L.length) (hij : j < i) (h : f L[i] = f L[j]) : ¬ (L.map f).Nodup := fun q => by
  have := List.pairwise_iff_getElem.1 q j i (by rw [List.length_map]; exact hj) (by rw [List.length_map]; exact hi) hij
  rw [List.getElem_map, List.getElem_map] at this
  exact this h.symm
set_option maxRecDepth 100000 in
set_option maxHeartbeats 4000000 in
theorem refValidate_any (tv : Value) (v : Int) (es : List En) (ss : List Sq) (w : World) (hT : TbIn w tv v es ss) :
    Calls Tryd.prog 19 #[tv] w fun e w' => e = .returned (.int .i64 (tbl v es ss)) ∧ Below w.heap.size w w' := by
  obtain ⟨z, hz⟩ : ∃ z, tbl v es ss = z := ⟨_, rfl⟩
  rw [hz]
  have HZ := Lib.hid hz; clear hz
  obtain ⟨a, b, rfl, hE, hS⟩ := hT
  have HE := Lib.hid hE
  have HS := Lib.hid hS
  obtain ⟨A, cap, rfl, -, -, -⟩ := hE
  obtain ⟨B, cbp, rfl, -, -, -⟩ := hS
  have HJ0 := Lib.hid (⟨Row.new w #[.int .i64 v, .slice A es.length cap, .slice B ss.length cbp] 25, (Below.refl _ _).alloc (Nat.le_refl _) _⟩ : Row (w.alloc (.cells #[.int .i64 v, .slice A es.length cap, .slice B ss.length cbp] 25)) w.heap.size 25 #[.int .i64 v, .slice A es.length cap, .slice B ss.length cbp] ∧ Below w.heap.size w (w.alloc (.cells #[.int .i64 v, .slice A es.length cap, .slice B ss.length cbp] 25)))
  go_enter Tryd.func19, Tryd.ntmps19
  go_upto_region 1 with fail
  refine forget (fun Y => Hid (Row Y w.heap.size 25 #[.int .i64 v, .slice A es.length cap, .slice B ss.length cbp] ∧ Below w.heap.size w Y)) HJ0 ?_
  clear HJ0
  intro Y0 HJ
  obtain ⟨q0, q1, q2⟩ := row3 HJ.out.1
  by_cases a1 : v < 1
  · have HN : Hid (z = 1) := Lib.hid (HZ.out.symm.trans (tbl_range (by omega)))
    go_wp2_with fail
    go_ret
    exact ⟨ret_i64 HN.out.symm, HJ.out.2⟩
  by_cases a2 : 99 < v
  · have HN : Hid (z = 1) := Lib.hid (HZ.out.symm.trans (tbl_range (by omega)))
    go_wp2_with fail
    go_ret
    exact ⟨ret_i64 HN.out.symm, HJ.out.2⟩
  have hver : 1 ≤ v ∧ v ≤ 99 := ⟨by omega, by omega⟩
  have HV := Lib.hid hver
  clear hver
  by_cases a3 : 40 < es.length
  · have a4 : (40 : Int) < (es.length : Int) := by omega
    have HN : Hid (z = 2) := Lib.hid (HZ.out.symm.trans (tbl_limit HV.out (.inl a3)))
    go_wp2_with fail
    go_ret
    exact ⟨ret_i64 HN.out.symm, HJ.out.2⟩
  have a4 : ¬ (40 : Int) < (es.length : Int) := by omega
  by_cases a5 : 40 < ss.length
  · have a6 : (40 : Int) < (ss.length : Int) := by omega
    have HN : Hid (z = 2) := Lib.hid (HZ.out.symm.trans (tbl_limit HV.out (.inr (.inl a5))))
    go_wp2_with fail
    go_ret
    exact ⟨ret_i64 HN.out.symm, HJ.out.2⟩
  have a6 : ¬ (40 : Int) < (ss.length : Int) := by omega
  go_wp2_with fail
  clear q0 q1 q2 a1 a2
  go_loopw [3] (fun t Y => ∃ k : Nat, k ≤ ss.length ∧ t = .int .i64 k ∧ Hid ((Row Y w.heap.size 25 #[.int .i64 v, .slice A es.length cap, .slice B ss.length cbp] ∧ Below w.heap.size w Y) ∧ ∀ j (h : j < ss.length), j < k → (ss[j]).2.length ≤ 20)) (fun t _ => ss.length - (intOf t).toNat)
  case atStart => exact ⟨0, Nat.zero_le _, rfl, Lib.hid ⟨HJ.out, fun j h q => absurd q (Nat.not_lt_zero _)⟩⟩
  case round =>
    clear HJ
    obtain ⟨k, hk, rfl, HJ1⟩ := hrel
    obtain ⟨q0, q1, q2⟩ := row3 HJ1.out.1.1
    have HJ := Lib.hid HJ1.out.1
    by_cases hlt : k < ss.length
    · have k0 : (0 : Int) ≤ (k : Int) := by omega
      have k1 : (k : Int) < (ss.length : Int) := by omega
      obtain ⟨g, off, Bc, cc, rfl, c0, c1, -, -⟩ := HS.out.elem HJ.out.2 hlt
      by_cases a7 : 20 < (ss[k]).2.length
      · have a8 : (20 : Int) < ((ss[k]).2.length : Int) := by omega
        have HN : Hid (z = 2) := Lib.hid (HZ.out.symm.trans (tbl_limit HV.out (.inr (.inr ⟨_, List.getElem_mem hlt, a7⟩))))
        go_wp2_with fail
        go_ret
        exact ⟨ret_i64 HN.out.symm, HJ.out.2⟩
      · have a8 : ¬ (20 : Int) < ((ss[k]).2.length : Int) := by omega
        have HN : Hid ((Row wr w.heap.size 25 #[.int .i64 v, .slice _ es.length cap, .slice _ ss.length cbp] ∧ Below w.heap.size w wr) ∧ ∀ j (h : j < ss.length), j < k + 1 → (ss[j]).2.length ≤ 20) := Lib.hid ⟨HJ.out, fun j h q => by
          by_cases e : j = k
          · subst e; omega
          · exact HJ1.out.2 j h (by omega)⟩
        clear HJ1
        go_wp2_with fail
        go_roundw
        case rel => exact ⟨k + 1, by omega, by go_num, HN⟩
        case measure => simp [intOf]; omega
    · have k1 : ¬ (k : Int) < (ss.length : Int) := by omega
      have HL1 : Hid (∀ s ∈ ss, s.2.length ≤ 20) := Lib.hid (all_mem fun j h => HJ1.out.2 j h (by omega))
      clear HJ1 hlt hk
      have HL : Hid (¬ (40 < es.length ∨ 40 < ss.length ∨ ∃ s ∈ ss, 20 < s.2.length)) := Lib.hid (by rintro (q | q | ⟨s, hs, q⟩) <;> first | omega | (have := HL1.out s hs; omega))
      go_wp2_with fail
      have b40 : es.length ≤ 40 := by omega
      have s40 : ss.length ≤ 40 := by omega
      clear q0 q1 q2 k1 a3 a4 a5 a6
      go_loopw [4] (fun t Y => ∃ k : Nat, k ≤ es.length ∧ t = .int .i64 k ∧ Hid ((Row Y w.heap.size 25 #[.int .i64 v, .slice A es.length cap, .slice B ss.length cbp] ∧ Below w.heap.size w Y) ∧ ∀ j (h : j < es.length), j < k → Elt.Ex (es[j]).2.1)) (fun t _ => es.length - (intOf t).toNat)
      case atStart => exact ⟨0, Nat.zero_le _, rfl, Lib.hid ⟨HJ.out, fun j h q => absurd q (Nat.not_lt_zero _)⟩⟩
      case round =>
        clear HJ
        obtain ⟨k, hk, rfl, HJ1⟩ := hrel
        obtain ⟨q0, q1, q2⟩ := row3 HJ1.out.1.1
        have HJ := Lib.hid HJ1.out.1
        by_cases hlt : k < es.length
        · have k0 : (0 : Int) ≤ (k : Int) := by omega
          have k1 : (k : Int) < (es.length : Int) := by omega
          obtain ⟨g, off, rfl, ⟨c0, c1, c2, c3, c4⟩, -⟩ := HE.out.elem HJ.out.2 hlt
          by_cases a7 : Elt.Ex (es[k]).2.1
          · have HD := Lib.hid (refDescribe_yes (es[k]).2.1 wr a7)
            have HN0 : Hid (∀ j (h : j < es.length), j < k + 1 → Elt.Ex (es[j]).2.1) := Lib.hid fun j h q => by
              by_cases e : j = k
              · subst e; exact a7
              · exact HJ1.out.2 j h (by omega)
            clear HJ1 a7
            go_wp2_with fail
            refine HD.out.mono ?_
            rintro e w1 ⟨rfl, g1⟩
            have HN : Hid ((Row w1 w.heap.size 25 #[.int .i64 v, .slice _ es.length cap, .slice _ ss.length cbp] ∧ Below w.heap.size w w1) ∧ ∀ j (h : j < es.length), j < k + 1 → Elt.Ex (es[j]).2.1) := Lib.hid ⟨⟨HJ.out.1.under g1, HJ.out.2.trans (g1.mono HJ.out.2.size)⟩, HN0.out⟩
            clear g1 HD HJ HN0 q0 q1 q2 c0 c1 c2 c3 c4
            simp only [infoV]
            go_wp2_with fail
            go_roundw
            case rel => exact ⟨k + 1, by omega, by go_num, Lib.hid ⟨⟨HN.out.1.1.alloc _, alloc_below HN.out.1.2 HN.out.1.2.size _⟩, HN.out.2⟩⟩
            case measure => simp [intOf]; omega
          · have HD := Lib.hid (refDescribe_no (es[k]).2.1 wr a7)
            have HN : Hid (z = 4) := Lib.hid (HZ.out.symm.trans (tbl_kind HV.out HL.out ⟨_, List.getElem_mem hlt, a7⟩))
            clear a7
            go_wp2_with fail
            refine HD.out.mono ?_
            rintro e w1 ⟨rfl, g1⟩
            have HBF := Lib.hid (HJ.out.2.trans (g1.mono HJ.out.2.size))
            clear g1 HD
            go_wp2_with fail
            go_ret
            exact ⟨ret_i64 HN.out.symm, by first | exact HBF.out | exact alloc_below HBF.out HBF.out.size _⟩
        · have k1 : ¬ (k : Int) < (es.length : Int) := by omega
          have HL2 : Hid (¬ ∃ e ∈ es, ¬ Elt.Ex e.2.1) := Lib.hid (fun ⟨e, he, q⟩ => q (all_mem (p := fun e : En => Elt.Ex e.2.1) (fun j h => HJ1.out.2 j h (by omega)) e he))
          clear HJ1 hlt hk
          go_wp2_with fail
          clear q0 q1 q2 k1
          go_loopw [7, 8] (fun o t Y => ∃ (k : Nat) (p : Bool), k ≤ es.length ∧ o = .bool p ∧ t = .int .i64 k ∧ Hid ((Row Y w.heap.size 25 #[.int .i64 v, .slice A es.length cap, .slice B ss.length cbp] ∧ Below w.heap.size w Y) ∧ (p = true ↔ ∀ j (h : j < es.length), j < k → vE es[j]))) (fun _ t _ => es.length - (intOf t).toNat)
          case atStart => exact ⟨0, true, Nat.zero_le _, rfl, rfl, Lib.hid ⟨HJ.out, ⟨fun _ j h q => absurd q (Nat.not_lt_zero _), fun _ => rfl⟩⟩⟩
          case round =>
            clear HJ
            obtain ⟨k, p, hk, rfl, rfl, HJ1⟩ := hrel
            obtain ⟨q0, q1, q2⟩ := row3 HJ1.out.1.1
            have HJ := Lib.hid HJ1.out.1
            by_cases hlt : k < es.length
            · have k0 : (0 : Int) ≤ (k : Int) := by omega
              have k1 : (k : Int) < (es.length : Int) := by omega
              obtain ⟨g, off, rfl, ⟨c0, c1, c2, c3, c4⟩, hI⟩ := HE.out.elem HJ.out.2 hlt
              cases p with
              | false =>
                have HN : Hid ((Row wr w.heap.size 25 #[.int .i64 v, .slice _ es.length cap, .slice _ ss.length cbp] ∧ Below w.heap.size w wr) ∧ (false = true ↔ ∀ j (h : j < es.length), j < k + 1 → vE es[j])) := Lib.hid ⟨HJ.out, ⟨fun q => (by cases q), fun q => HJ1.out.2.2 fun j h q' => q j h (by omega)⟩⟩
                clear HJ1
                go_wp2_with fail
                go_roundw
                case rel => exact ⟨k + 1, false, by omega, rfl, by go_num, HN⟩
                case measure => simp [intOf]; omega
              | true =>
                have HD := Lib.hid (refValid_any es[k] wr hI)
                have HN0 : Hid (decide (vE es[k]) = true ↔ ∀ j (h : j < es.length), j < k + 1 → vE es[j]) := Lib.hid ⟨fun q j h q' => by
                  by_cases e : j = k
                  · subst e; exact of_decide_eq_true q
                  · exact HJ1.out.2.1 rfl j h (by omega), fun q => decide_eq_true (q k hlt (by omega))⟩
                generalize decide (vE es[k]) = r at HD HN0
                clear HJ1 hI
                go_wp2_with fail
                refine HD.out.mono ?_
                rintro e w1 ⟨rfl, g1⟩
                have HN : Hid ((Row w1 w.heap.size 25 #[.int .i64 v, .slice _ es.length cap, .slice _ ss.length cbp] ∧ Below w.heap.size w w1) ∧ (r = true ↔ ∀ j (h : j < es.length), j < k + 1 → vE es[j])) := Lib.hid ⟨⟨HJ.out.1.under g1, HJ.out.2.trans (g1.mono HJ.out.2.size)⟩, HN0.out⟩
                clear g1 HD HJ HN0 q0 q1 q2 c0 c1 c2 c3 c4
                go_wp2_with fail
                go_roundw
                case rel => exact ⟨k + 1, r, by omega, rfl, by go_num, HN⟩
                case measure => simp [intOf]; omega
            · have k1 : ¬ (k : Int) < (es.length : Int) := by omega
              have HL3 : Hid (p = true ↔ ∀ e ∈ es, vE e) := Lib.hid ⟨fun q => all_mem fun j h => HJ1.out.2.1 q j h (by omega), fun q => HJ1.out.2.2 fun j h _ => q _ (List.getElem_mem h)⟩
              clear HJ1 hlt hk
              go_wp2_with fail
              clear q0 q1 q2 k1
              go_loopw [7, 9] (fun o t Y => ∃ (k : Nat) (p : Bool), k ≤ ss.length ∧ o = .bool p ∧ t = .int .i64 k ∧ Hid ((Row Y w.heap.size 25 #[.int .i64 v, .slice A es.length cap, .slice B ss.length cbp] ∧ Below w.heap.size w Y) ∧ (p = true ↔ (∀ e ∈ es, vE e) ∧ ∀ j (h : j < ss.length), j < k → ¬ badS ss[j]))) (fun _ t _ => ss.length - (intOf t).toNat)
              case atStart => exact ⟨0, p, Nat.zero_le _, rfl, rfl, Lib.hid ⟨HJ.out, ⟨fun q => ⟨HL3.out.1 q, fun j h q => absurd q (Nat.not_lt_zero _)⟩, fun q => HL3.out.2 q.1⟩⟩⟩
              case round =>
                clear HJ HL3
                obtain ⟨k, p, hk, rfl, rfl, HJ1⟩ := hrel
                obtain ⟨q0, q1, q2⟩ := row3 HJ1.out.1.1
                have HJ := Lib.hid HJ1.out.1
                by_cases hlt : k < ss.length
                · have k0 : (0 : Int) ≤ (k : Int) := by omega
                  have k1 : (k : Int) < (ss.length : Int) := by omega
                  obtain ⟨g, off, Bc, cc, rfl, c0, c1, hnm, hI⟩ := HS.out.elem HJ.out.2 hlt
                  have l20 : (ss[k]).2.length ≤ 20 := HL1.out _ (List.getElem_mem hlt)
                  go_upto_region 24 with fail
                  go_cut [7] from 83 to 100 (fun o Y => ∃ r : Bool, o = .bool r ∧ Hid ((Row Y w.heap.size 25 #[.int .i64 v, .slice A es.length cap, .slice (some ⟨g, off, none⟩) ss.length cbp] ∧ Below w.heap.size w Y) ∧ (r = true ↔ p = true ∧ knd (ss[k]).1 = 2)))
                  case first =>
                    cases p with
                    | false =>
                      go_wp2_with fail
                      go_meet
                      exact ⟨false, rfl, Lib.hid ⟨HJ.out, ⟨fun q => (by cases q), fun q => (by cases q.1)⟩⟩⟩
                    | true =>
                      have HD := Lib.hid (refKind_any (ss[k]).1 wr hI)
                      go_wp2_with fail
                      refine HD.out.mono ?_
                      rintro e w1 ⟨rfl, rfl⟩
                      go_wp2_with fail
                      go_meet
                      exact ⟨_, rfl, Lib.hid ⟨HJ.out, by simp⟩⟩
                  case rest =>
                    obtain ⟨r, rfl, HR⟩ := hcut
                    have HP : Hid (p = true ↔ (∀ e ∈ es, vE e) ∧ ∀ j (h : j < ss.length), j < k → ¬ badS ss[j]) := Lib.hid HJ1.out.2
                    clear HJ HJ1 q0 q1 q2 c0 c1 hnm
                    go_wp2_with fail
                    go_loopw [7, 10] (fun o t Y => ∃ (m : Nat) (p' : Bool), m ≤ (ss[k]).2.length ∧ o = .bool p' ∧ t = .int .i64 m ∧ Hid ((Row Y w.heap.size 25 #[.int .i64 v, .slice A es.length cap, .slice (some ⟨g, off, none⟩) ss.length cbp] ∧ Below w.heap.size w Y) ∧ (p' = true ↔ (p = true ∧ knd (ss[k]).1 = 2) ∧ ∀ j (h : j < (ss[k]).2.length), j < m → knd (ss[k]).2[j] ≠ 0))) (fun _ t _ => (ss[k]).2.length - (intOf t).toNat)
                    case atStart => exact ⟨0, r, Nat.zero_le _, rfl, rfl, Lib.hid ⟨HR.out.1, ⟨fun q => ⟨HR.out.2.1 q, fun j h q => absurd q (Nat.not_lt_zero _)⟩, fun q => HR.out.2.2 q.1⟩⟩⟩
                    case round =>
                      clear HR
                      obtain ⟨m, p', hm, rfl, rfl, HM⟩ := hrel
                      obtain ⟨q0, q1, q2⟩ := row3 HM.out.1.1
                      obtain ⟨B2, cc2, c0, c1, hnm, -⟩ := HS.out.elem' HM.out.1.2 hlt
                      by_cases hlt2 : m < (ss[k]).2.length
                      · have m0 : (0 : Int) ≤ (m : Int) := by omega
                        have m1 : (m : Int) < ((ss[k]).2.length : Int) := by omega
                        obtain ⟨g3, off3, rfl, d0, hI3⟩ := hnm.elem hlt2
                        cases p' with
                        | false =>
                          have HN : Hid ((Row wr w.heap.size 25 #[.int .i64 v, .slice A es.length cap, .slice (some ⟨g, off, none⟩) ss.length cbp] ∧ Below w.heap.size w wr) ∧ (false = true ↔ (p = true ∧ knd (ss[k]).1 = 2) ∧ ∀ j (h : j < (ss[k]).2.length), j < m + 1 → knd (ss[k]).2[j] ≠ 0)) := Lib.hid ⟨HM.out.1, ⟨fun q => (by cases q), fun q => HM.out.2.2 ⟨q.1, fun j h q' => q.2 j h (by omega)⟩⟩⟩
                          clear HM
                          go_wp2_with fail
                          go_roundw
                          case rel => exact ⟨m + 1, false, by omega, rfl, by go_num, HN⟩
                          case measure => simp [intOf]; omega
                        | true =>
                          have HD := Lib.hid (refKind_any (ss[k]).2[m] wr hI3)
                          have HN : Hid ((Row wr w.heap.size 25 #[.int .i64 v, .slice A es.length cap, .slice (some ⟨g, off, none⟩) ss.length cbp] ∧ Below w.heap.size w wr) ∧ ((!(knd (ss[k]).2[m] == 0)) = true ↔ (p = true ∧ knd (ss[k]).1 = 2) ∧ ∀ j (h : j < (ss[k]).2.length), j < m + 1 → knd (ss[k]).2[j] ≠ 0)) := Lib.hid ⟨HM.out.1, ⟨fun q => ⟨(HM.out.2.1 rfl).1, fun j h q' => by
                            by_cases e : j = m
                            · subst e; simpa using q
                            · exact (HM.out.2.1 rfl).2 j h (by omega)⟩, fun q => by have := q.2 m hlt2 (by omega); simpa using this⟩⟩
                          clear HM hI3
                          go_wp2_with fail
                          refine HD.out.mono ?_
                          rintro e w1 ⟨rfl, rfl⟩
                          go_wp2_with fail
                          go_roundw
                          case rel => exact ⟨m + 1, _, by omega, rfl, by go_num, HN⟩
                          case measure => simp [intOf]; omega
                      · have m1 : ¬ (m : Int) < ((ss[k]).2.length : Int) := by omega
                        have HN : Hid ((Row wr w.heap.size 25 #[.int .i64 v, .slice A es.length cap, .slice (some ⟨g, off, none⟩) ss.length cbp] ∧ Below w.heap.size w wr) ∧ (p' = true ↔ (∀ e ∈ es, vE e) ∧ ∀ j (h : j < ss.length), j < k + 1 → ¬ badS ss[j])) := Lib.hid ⟨HM.out.1, HM.out.2.trans ⟨fun q => ⟨(HP.out.1 q.1.1).1, fun j h q' => by
                          by_cases e : j = k
                          · subst e
                            rintro (z | ⟨c, hc, z⟩)
                            · exact z q.1.2
                            · obtain ⟨i, hi, rfl⟩ := List.getElem_of_mem hc
                              exact q.2 i hi (by omega) z
                          · exact (HP.out.1 q.1.1).2 j h (by omega)⟩, fun q => ⟨⟨HP.out.2 ⟨q.1, fun j h q' => q.2 j h (by omega)⟩, Decidable.byContradiction fun z => q.2 k hlt (by omega) (.inl z)⟩, fun j h _ z => q.2 k hlt (by omega) (.inr ⟨_, List.getElem_mem h, z⟩)⟩⟩⟩
                        clear HM hnm
                        go_wp2_with fail
                        go_roundw
                        case rel => exact ⟨k + 1, p', by omega, rfl, by go_num, HN⟩
                        case measure => simp [intOf]; omega
                · have k1 : ¬ (k : Int) < (ss.length : Int) := by omega
                  have HL4 : Hid (p = true ↔ (∀ e ∈ es, vE e) ∧ ∀ s ∈ ss, ¬ badS s) := Lib.hid (HJ1.out.2.trans ⟨fun q => ⟨q.1, all_mem fun j h => q.2 j h (by omega)⟩, fun q => ⟨q.1, fun j h _ => q.2 _ (List.getElem_mem h)⟩⟩)
                  clear HJ1 hlt hk
                  cases p with
                  | false =>
                    have HN : Hid (z = 1) := Lib.hid (HZ.out.symm.trans (tbl_range2 HV.out HL.out HL2.out (Decidable.byContradiction fun q => by have := HL4.out.2 ⟨fun e he => Decidable.byContradiction fun h => q (.inl ⟨e, he, h⟩), fun s hs h => q (.inr ⟨s, hs, h⟩)⟩; cases this)))
                    go_wp2_with fail
                    go_ret
                    exact ⟨ret_i64 HN.out.symm, HJ.out.2⟩
                  | true =>
                    have HL5 : Hid (¬ ((∃ e ∈ es, ¬ vE e) ∨ ∃ s ∈ ss, badS s)) := Lib.hid (fun q => q.elim (fun ⟨e, he, h⟩ => h ((HL4.out.1 rfl).1 e he)) (fun ⟨s, hs, h⟩ => (HL4.out.1 rfl).2 s hs h))
                    clear HL4
                    go_wp2_with fail
                    clear q0 q1 q2 k1
                    go_loopw [11] (fun t Y => ∃ k : Nat, k ≤ es.length ∧ t = .int .i64 k ∧ Hid ((Row Y w.heap.size 25 #[.int .i64 v, .slice A es.length cap, .slice B ss.length cbp] ∧ Below w.heap.size w Y) ∧ ∀ i (hi : i < es.length) j (hj : j < es.length), i < k → j < i → (es[i]).1 ≠ (es[j]).1)) (fun t _ => es.length - (intOf t).toNat)
                    case atStart => exact ⟨0, Nat.zero_le _, rfl, Lib.hid ⟨HJ.out, fun i _ j _ q => absurd q (Nat.not_lt_zero _)⟩⟩
                    case round =>
                      clear HJ
                      obtain ⟨k, hk, rfl, HJ1⟩ := hrel
                      obtain ⟨q0, q1, q2⟩ := row3 HJ1.out.1.1
                      have HJ := Lib.hid HJ1.out.1
                      by_cases hlt : k < es.length
                      · have k0 : (0 : Int) ≤ (k : Int) := by omega
                        have k1 : (k : Int) < (es.length : Int) := by omega
                        obtain ⟨g, off, rfl, -, -⟩ := HE.out.elem HJ.out.2 hlt
                        have HK : Hid (∀ i (hi : i < es.length) j (hj : j < es.length), i < k → j < i → (es[i]).1 ≠ (es[j]).1) := Lib.hid HJ1.out.2
                        clear HJ1
                        go_wp2_with fail
                        clear q0 q1 q2
                        go_loopw [12] (fun t Y => ∃ m : Nat, m ≤ k ∧ t = .int .i64 m ∧ Hid ((Row Y w.heap.size 25 #[.int .i64 v, .slice (some ⟨g, off, none⟩) es.length cap, .slice B ss.length cbp] ∧ Below w.heap.size w Y) ∧ ∀ j (hj : j < es.length), j < m → (es[k]).1 ≠ (es[j]).1)) (fun t _ => k - (intOf t).toNat)
                        case atStart => exact ⟨0, Nat.zero_le _, rfl, Lib.hid ⟨HJ.out, fun j _ q => absurd q (Nat.not_lt_zero _)⟩⟩
                        case round =>
                          clear HJ
                          obtain ⟨m, hm, rfl, HM⟩ := hrel
                          obtain ⟨q0, q1, q2⟩ := row3 HM.out.1.1
                          have HJ := Lib.hid HM.out.1
                          by_cases hlt2 : m < k
                          · have m0 : (0 : Int) ≤ (m : Int) := by omega
                            have m1 : (m : Int) < (k : Int) := by omega
                            have m2 : (m : Int) < (es.length : Int) := by omega
                            have hml : m < es.length := by omega
                            have hc0 : wr.cell? ⟨g, off + k * 5, none⟩ = some (.int .i64 (es[k]).1) := (by obtain ⟨g', off', e, h, -⟩ := HE.out.elem HJ.out.2 hlt; injection e with e; injection e with e1 e2; subst e1; subst e2; exact h.1)
                            have hd0 : wr.cell? ⟨g, off + m * 5, none⟩ = some (.int .i64 (es[m]).1) := (by obtain ⟨g', off', e, h, -⟩ := HE.out.elem HJ.out.2 hml; injection e with e; injection e with e1 e2; subst e1; subst e2; exact h.1)
                            have x9 : IntKind.i64.wrap (k : Int) = (k : Int) := IntWalk.i64_in _ (by omega)
                            have x8 : IntKind.i64.wrap (m : Int) = (m : Int) := IntWalk.i64_in _ (by omega)
                            go_upto_region 37 with fail
                            refine wp_region_held_drew (S := fun Y : World => (Y.cell? ⟨w.heap.size, 1, none⟩ = some (.slice (some ⟨g, off, none⟩) es.length cap) ∧ Y.cell? ⟨w.heap.size, 2, none⟩ = some (.slice B ss.length cbp)) ∧ Y.cell? ⟨g, off + k * 5, none⟩ = some (.int .i64 (es[k]).1) ∧ Y.cell? ⟨g, off + m * 5, none⟩ = some (.int .i64 (es[m]).1)) (by kernel_rfl) ⟨⟨q1, q2⟩, hc0, hd0⟩ (fun hHeld => ?_)
                            refine wpAnyH_take (i := 0) (oi := ⟨some 140, _, _, _, _, none⟩) (v := ?_) rfl (by kernel_rfl) (by kernel_rfl) (by kernel_rfl) (fun _ _ _ h => h) (Or.inl ⟨by rfl, ?_⟩) (by assumption) ?_
                            case refine_2 => (intro wx hSx; (try dsimp only at hSx); go_simp; first | done | with_reducible rfl)
                            ((try simp only [Act.put]); (try simp only [List.setIfInBounds_toArray]); (try simp only [List.set_cons_succ]); (try simp only [List.set_cons_zero]))
                            refine wpAnyH_take (i := 1) (oi := ⟨some 141, _, _, _, _, none⟩) (v := ?_) rfl (by kernel_rfl) (by kernel_rfl) (by kernel_rfl) (fun _ _ _ h => h) (Or.inl ⟨by rfl, ?_⟩) (by assumption) ?_
                            case refine_2 => (intro wx hSx; (try dsimp only at hSx); go_simp; first | done | with_reducible rfl)
                            ((try simp only [Act.put]); (try simp only [List.setIfInBounds_toArray]); (try simp only [List.set_cons_succ]); (try simp only [List.set_cons_zero]))
                            refine wpAnyH_take (i := 2) (oi := ⟨some 142, _, _, _, _, none⟩) (v := ?_) rfl (by kernel_rfl) (by kernel_rfl) (by kernel_rfl) (fun _ _ _ h => h) (Or.inl ⟨by rfl, ?_⟩) (by assumption) ?_
                            case refine_2 => (intro wx hSx; (try dsimp only at hSx); go_simp; first | done | with_reducible rfl)
                            ((try simp only [Act.put]); (try simp only [List.setIfInBounds_toArray]); (try simp only [List.set_cons_succ]); (try simp only [List.set_cons_zero]))
                            refine wpAnyH_take (i := 3) (oi := ⟨some 143, _, _, _, _, none⟩) (v := ?_) rfl (by kernel_rfl) (by kernel_rfl) (by kernel_rfl) (fun _ _ _ h => h) (Or.inl ⟨by rfl, ?_⟩) (by assumption) ?_
                            case refine_2 => (intro wx hSx; (try dsimp only at hSx); go_simp; first | done | with_reducible rfl)
                            ((try simp only [Act.put]); (try simp only [List.setIfInBounds_toArray]); (try simp only [List.set_cons_succ]); (try simp only [List.set_cons_zero]))
                            refine wpAnyH_take (i := 4) (oi := ⟨some 144, _, _, _, _, none⟩) (v := ?_) rfl (by kernel_rfl) (by kernel_rfl) (by kernel_rfl) (fun _ _ _ h => h) (Or.inl ⟨by rfl, ?_⟩) (by assumption) ?_
                            case refine_2 => (intro wx hSx; (try dsimp only at hSx); go_simp; first | done | with_reducible rfl)
                            ((try simp only [Act.put]); (try simp only [List.setIfInBounds_toArray]); (try simp only [List.set_cons_succ]); (try simp only [List.set_cons_zero]))
                            refine wpAnyH_take (i := 5) (oi := ⟨some 145, _, _, _, _, none⟩) (v := ?_) rfl (by kernel_rfl) (by kernel_rfl) (by kernel_rfl) (fun _ _ _ h => h) (Or.inl ⟨by rfl, ?_⟩) (by assumption) ?_
                            case refine_2 => (intro wx hSx; (try dsimp only at hSx); go_simp; first | done | with_reducible rfl)
                            ((try simp only [Act.put]); (try simp only [List.setIfInBounds_toArray]); (try simp only [List.set_cons_succ]); (try simp only [List.set_cons_zero]))
                            refine wpAnyH_take (i := 6) (oi := ⟨some 146, _, _, _, _, none⟩) (v := ?_) rfl (by kernel_rfl) (by kernel_rfl) (by kernel_rfl) (fun _ _ _ h => h) (Or.inl ⟨by rfl, ?_⟩) (by assumption) ?_
                            case refine_2 => (intro wx hSx; (try dsimp only at hSx); go_simp; first | done | with_reducible rfl)
                            ((try simp only [Act.put]); (try simp only [List.setIfInBounds_toArray]); (try simp only [List.set_cons_succ]); (try simp only [List.set_cons_zero]))
                            refine wpAnyH_take (i := 7) (oi := ⟨some 147, _, _, _, _, none⟩) (v := ?_) rfl (by kernel_rfl) (by kernel_rfl) (by kernel_rfl) (fun _ _ _ h => h) (Or.inl ⟨by rfl, ?_⟩) (by assumption) ?_
                            case refine_2 => (intro wx hSx; (try dsimp only at hSx); go_simp; first | done | with_reducible rfl)
                            ((try simp only [Act.put]); (try simp only [List.setIfInBounds_toArray]); (try simp only [List.set_cons_succ]); (try simp only [List.set_cons_zero]))
                            refine wpAnyH_take (i := 8) (oi := ⟨some 148, _, _, _, _, none⟩) (v := ?_) rfl (by kernel_rfl) (by kernel_rfl) (by kernel_rfl) (fun _ _ _ h => h) (Or.inl ⟨by rfl, ?_⟩) (by assumption) ?_
                            case refine_2 => (intro wx hSx; (try dsimp only at hSx); go_simp; first | done | with_reducible rfl)
                            ((try simp only [Act.put]); (try simp only [List.setIfInBounds_toArray]); (try simp only [List.set_cons_succ]); (try simp only [List.set_cons_zero]))
                            refine wpAnyH_take (i := 9) (oi := ⟨some 149, _, _, _, _, none⟩) (v := ?_) rfl (by kernel_rfl) (by kernel_rfl) (by kernel_rfl) (fun _ _ _ h => h) (Or.inl ⟨by rfl, ?_⟩) (by assumption) ?_
                            case refine_2 => (intro wx hSx; (try dsimp only at hSx); go_simp; first | done | with_reducible rfl)
                            ((try simp only [Act.put]); (try simp only [List.setIfInBounds_toArray]); (try simp only [List.set_cons_succ]); (try simp only [List.set_cons_zero]))
                            refine wpAnyH_take (i := 10) (oi := ⟨some 150, _, _, _, _, none⟩) (v := ?_) rfl (by kernel_rfl) (by kernel_rfl) (by kernel_rfl) (fun _ _ _ h => h) (Or.inl ⟨by rfl, ?_⟩) (by assumption) ?_
                            case refine_2 => (intro wx hSx; (try dsimp only at hSx); go_simp; first | done | with_reducible rfl)
                            ((try simp only [Act.put]); (try simp only [List.setIfInBounds_toArray]); (try simp only [List.set_cons_succ]); (try simp only [List.set_cons_zero]))
                            refine wpAnyH_take (i := 11) (oi := ⟨some 151, _, _, _, _, none⟩) (v := ?_) rfl (by kernel_rfl) (by kernel_rfl) (by kernel_rfl) (fun _ _ _ h => h) (Or.inl ⟨by rfl, ?_⟩) (by assumption) ?_
                            case refine_2 => (intro wx hSx; (try dsimp only at hSx); go_simp; first | done | with_reducible rfl)
                            ((try simp only [Act.put]); (try simp only [List.setIfInBounds_toArray]); (try simp only [List.set_cons_succ]); (try simp only [List.set_cons_zero]))
                            refine wpAnyH_take (i := 12) (oi := ⟨some 152, _, _, _, _, none⟩) (v := ?_) rfl (by kernel_rfl) (by kernel_rfl) (by kernel_rfl) (fun _ _ _ h => h) (Or.inl ⟨by rfl, ?_⟩) (by assumption) ?_
                            case refine_2 => (intro wx hSx; (try dsimp only at hSx); go_simp; first | done | with_reducible rfl)
                            ((try simp only [Act.put]); (try simp only [List.setIfInBounds_toArray]); (try simp only [List.set_cons_succ]); (try simp only [List.set_cons_zero]))
                            refine wpAnyH_done (by kernel_rfl) ?_ _
                            clear hHeld q0 q1 q2 hc0 hd0 x8 x9
                            by_cases hq : (es[k]).1 = (es[m]).1
                            · have hq1 : ((es[k]).1 == (es[m]).1) = true := by simpa using hq
                              have HN : Hid (z = 5) := Lib.hid (HZ.out.symm.trans (tbl_dup HV.out HL.out HL2.out HL5.out (.inl (nodup_not (f := fun x => x.1) hlt hml hlt2 hq))))
                              clear hq
                              go_wp2_with fail
                              go_ret
                              exact ⟨ret_i64 HN.out.symm, HJ.out.2.drew⟩
                            · have hq1 : ((es[k]).1 == (es[m]).1) = false := by simpa using hq
                              have HN : Hid ((Row wr.drew w.heap.size 25 #[.int .i64 v, .slice (some ⟨g, off, none⟩) es.length cap, .slice B ss.length cbp] ∧ Below w.heap.size w wr.drew) ∧ ∀ j (hj : j < es.length), j < m + 1 → (es[k]).1 ≠ (es[j]).1) := Lib.hid ⟨⟨HJ.out.1.drew, HJ.out.2.drew⟩, fun j h q => by
                                by_cases e : j = m
                                · subst e; exact hq
                                · exact HM.out.2 j h (by omega)⟩
                              clear HM hq
                              go_wp2_with fail
                              go_roundw
                              case rel => exact ⟨m + 1, by omega, by go_num, HN⟩
                              case measure => simp [intOf]; omega
                          · have m1 : ¬ (m : Int) < (k : Int) := by omega
                            have HN : Hid ((Row wr w.heap.size 25 #[.int .i64 v, .slice _ es.length cap, .slice _ ss.length cbp] ∧ Below w.heap.size w wr) ∧ ∀ i (hi : i < es.length) j (hj : j < es.length), i < k + 1 → j < i → (es[i]).1 ≠ (es[j]).1) := Lib.hid ⟨HJ.out, fun i hi j hj q q' => by
                              by_cases e : i = k
                              · subst e; exact HM.out.2 j hj (by omega)
                              · exact HK.out i hi j hj (by omega) q'⟩
                            clear HM
                            go_wp2_with fail
                            go_roundw
                            case rel => exact ⟨k + 1, by omega, by go_num, HN⟩
                            case measure => simp [intOf]; omega
                      · have k1 : ¬ (k : Int) < (es.length : Int) := by omega
                        have HN1 : Hid ((es.map (·.1)).Nodup) := Lib.hid (nodup_all (f := fun x => x.1) fun i hi j hj q => HJ1.out.2 i hi j hj (by omega) q)
                        clear HJ1 hlt hk
                        go_wp2_with fail
                        clear q0 q1 q2 k1
                        go_loopw [13] (fun t Y => ∃ k : Nat, k ≤ ss.length ∧ t = .int .i64 k ∧ Hid ((Row Y w.heap.size 25 #[.int .i64 v, .slice A es.length cap, .slice B ss.length cbp] ∧ Below w.heap.size w Y) ∧ ∀ i (hi : i < ss.length) j (hj : j < ss.length), i < k → j < i → (ss[i]).1 ≠ (ss[j]).1)) (fun t _ => ss.length - (intOf t).toNat)
                        case atStart => exact ⟨0, Nat.zero_le _, rfl, Lib.hid ⟨HJ.out, fun i _ j _ q => absurd q (Nat.not_lt_zero _)⟩⟩
                        case round =>
                          clear HJ
                          obtain ⟨k, hk, rfl, HJ1⟩ := hrel
                          obtain ⟨q0, q1, q2⟩ := row3 HJ1.out.1.1
                          have HJ := Lib.hid HJ1.out.1
                          by_cases hlt : k < ss.length
                          · have k0 : (0 : Int) ≤ (k : Int) := by omega
                            have k1 : (k : Int) < (ss.length : Int) := by omega
                            obtain ⟨g, off, _, _, rfl, -⟩ := HS.out.elem HJ.out.2 hlt
                            have HK : Hid (∀ i (hi : i < ss.length) j (hj : j < ss.length), i < k → j < i → (ss[i]).1 ≠ (ss[j]).1) := Lib.hid HJ1.out.2
                            clear HJ1
                            go_wp2_with fail
                            clear q0 q1 q2
                            go_loopw [14] (fun t Y => ∃ m : Nat, m ≤ k ∧ t = .int .i64 m ∧ Hid ((Row Y w.heap.size 25 #[.int .i64 v, .slice A es.length cap, .slice (some ⟨g, off, none⟩) ss.length cbp] ∧ Below w.heap.size w Y) ∧ ∀ j (hj : j < ss.length), j < m → (ss[k]).1 ≠ (ss[j]).1)) (fun t _ => k - (intOf t).toNat)
                            case atStart => exact ⟨0, Nat.zero_le _, rfl, Lib.hid ⟨HJ.out, fun j _ q => absurd q (Nat.not_lt_zero _)⟩⟩
                            case round =>
                              clear HJ
                              obtain ⟨m, hm, rfl, HM⟩ := hrel
                              obtain ⟨q0, q1, q2⟩ := row3 HM.out.1.1
                              have HJ := Lib.hid HM.out.1
                              by_cases hlt2 : m < k
                              · have m0 : (0 : Int) ≤ (m : Int) := by omega
                                have m1 : (m : Int) < (k : Int) := by omega
                                have m2 : (m : Int) < (ss.length : Int) := by omega
                                have hml : m < ss.length := by omega
                                have hc0 : wr.cell? ⟨g, off + k * 2, none⟩ = some (.int .i64 (ss[k]).1) := (HS.out.elem' HJ.out.2 hlt).choose_spec.choose_spec.1
                                have hd0 : wr.cell? ⟨g, off + m * 2, none⟩ = some (.int .i64 (ss[m]).1) := (HS.out.elem' HJ.out.2 hml).choose_spec.choose_spec.1
                                have x9 : IntKind.i64.wrap (k : Int) = (k : Int) := IntWalk.i64_in _ (by omega)
                                have x8 : IntKind.i64.wrap (m : Int) = (m : Int) := IntWalk.i64_in _ (by omega)
                                go_upto_region 45 with fail
                                refine wp_region_held_drew (S := fun Y : World => (Y.cell? ⟨w.heap.size, 1, none⟩ = some (.slice A es.length cap) ∧ Y.cell? ⟨w.heap.size, 2, none⟩ = some (.slice (some ⟨g, off, none⟩) ss.length cbp)) ∧ Y.cell? ⟨g, off + k * 2, none⟩ = some (.int .i64 (ss[k]).1) ∧ Y.cell? ⟨g, off + m * 2, none⟩ = some (.int .i64 (ss[m]).1)) (by kernel_rfl) ⟨⟨q1, q2⟩, hc0, hd0⟩ (fun hHeld => ?_)
                                refine wpAnyH_take (i := 0) (oi := ⟨some 165, _, _, _, _, none⟩) (v := ?_) rfl (by kernel_rfl) (by kernel_rfl) (by kernel_rfl) (fun _ _ _ h => h) (Or.inl ⟨by rfl, ?_⟩) (by assumption) ?_
                                case refine_2 => (intro wx hSx; (try dsimp only at hSx); go_simp; first | done | with_reducible rfl)
                                ((try simp only [Act.put]); (try simp only [List.setIfInBounds_toArray]); (try simp only [List.set_cons_succ]); (try simp only [List.set_cons_zero]))
                                refine wpAnyH_take (i := 1) (oi := ⟨some 166, _, _, _, _, none⟩) (v := ?_) rfl (by kernel_rfl) (by kernel_rfl) (by kernel_rfl) (fun _ _ _ h => h) (Or.inl ⟨by rfl, ?_⟩) (by assumption) ?_
                                case refine_2 => (intro wx hSx; (try dsimp only at hSx); go_simp; first | done | with_reducible rfl)
                                ((try simp only [Act.put]); (try simp only [List.setIfInBounds_toArray]); (try simp only [List.set_cons_succ]); (try simp only [List.set_cons_zero]))
                                refine wpAnyH_take (i := 2) (oi := ⟨some 167, _, _, _, _, none⟩) (v := ?_) rfl (by kernel_rfl) (by kernel_rfl) (by kernel_rfl) (fun _ _ _ h => h) (Or.inl ⟨by rfl, ?_⟩) (by assumption) ?_
                                case refine_2 => (intro wx hSx; (try dsimp only at hSx); go_simp; first | done | with_reducible rfl)
                                ((try simp only [Act.put]); (try simp only [List.setIfInBounds_toArray]); (try simp only [List.set_cons_succ]); (try simp only [List.set_cons_zero]))
                                refine wpAnyH_take (i := 3) (oi := ⟨some 168, _, _, _, _, none⟩) (v := ?_) rfl (by kernel_rfl) (by kernel_rfl) (by kernel_rfl) (fun _ _ _ h => h) (Or.inl ⟨by rfl, ?_⟩) (by assumption) ?_
                                case refine_2 => (intro wx hSx; (try dsimp only at hSx); go_simp; first | done | with_reducible rfl)
                                ((try simp only [Act.put]); (try simp only [List.setIfInBounds_toArray]); (try simp only [List.set_cons_succ]); (try simp only [List.set_cons_zero]))
                                refine wpAnyH_take (i := 4) (oi := ⟨some 169, _, _, _, _, none⟩) (v := ?_) rfl (by kernel_rfl) (by kernel_rfl) (by kernel_rfl) (fun _ _ _ h => h) (Or.inl ⟨by rfl, ?_⟩) (by assumption) ?_
                                case refine_2 => (intro wx hSx; (try dsimp only at hSx); go_simp; first | done | with_reducible rfl)
                                ((try simp only [Act.put]); (try simp only [List.setIfInBounds_toArray]); (try simp only [List.set_cons_succ]); (try simp only [List.set_cons_zero]))
                                refine wpAnyH_take (i := 5) (oi := ⟨some 170, _, _, _, _, none⟩) (v := ?_) rfl (by kernel_rfl) (by kernel_rfl) (by kernel_rfl) (fun _ _ _ h => h) (Or.inl ⟨by rfl, ?_⟩) (by assumption) ?_
                                case refine_2 => (intro wx hSx; (try dsimp only at hSx); go_simp; first | done | with_reducible rfl)
                                ((try simp only [Act.put]); (try simp only [List.setIfInBounds_toArray]); (try simp only [List.set_cons_succ]); (try simp only [List.set_cons_zero]))
                                refine wpAnyH_take (i := 6) (oi := ⟨some 171, _, _, _, _, none⟩) (v := ?_) rfl (by kernel_rfl) (by kernel_rfl) (by kernel_rfl) (fun _ _ _ h => h) (Or.inl ⟨by rfl, ?_⟩) (by assumption) ?_
                                case refine_2 => (intro wx hSx; (try dsimp only at hSx); go_simp; first | done | with_reducible rfl)
                                ((try simp only [Act.put]); (try simp only [List.setIfInBounds_toArray]); (try simp only [List.set_cons_succ]); (try simp only [List.set_cons_zero]))
                                refine wpAnyH_take (i := 7) (oi := ⟨some 172, _, _, _, _, none⟩) (v := ?_) rfl (by kernel_rfl) (by kernel_rfl) (by kernel_rfl) (fun _ _ _ h => h) (Or.inl ⟨by rfl, ?_⟩) (by assumption) ?_
                                case refine_2 => (intro wx hSx; (try dsimp only at hSx); go_simp; first | done | with_reducible rfl)
                                ((try simp only [Act.put]); (try simp only [List.setIfInBounds_toArray]); (try simp only [List.set_cons_succ]); (try simp only [List.set_cons_zero]))
                                refine wpAnyH_take (i := 8) (oi := ⟨some 173, _, _, _, _, none⟩) (v := ?_) rfl (by kernel_rfl) (by kernel_rfl) (by kernel_rfl) (fun _ _ _ h => h) (Or.inl ⟨by rfl, ?_⟩) (by assumption) ?_
                                case refine_2 => (intro wx hSx; (try dsimp only at hSx); go_simp; first | done | with_reducible rfl)
                                ((try simp only [Act.put]); (try simp only [List.setIfInBounds_toArray]); (try simp only [List.set_cons_succ]); (try simp only [List.set_cons_zero]))
                                refine wpAnyH_take (i := 9) (oi := ⟨some 174, _, _, _, _, none⟩) (v := ?_) rfl (by kernel_rfl) (by kernel_rfl) (by kernel_rfl) (fun _ _ _ h => h) (Or.inl ⟨by rfl, ?_⟩) (by assumption) ?_
                                case refine_2 => (intro wx hSx; (try dsimp only at hSx); go_simp; first | done | with_reducible rfl)
                                ((try simp only [Act.put]); (try simp only [List.setIfInBounds_toArray]); (try simp only [List.set_cons_succ]); (try simp only [List.set_cons_zero]))
                                refine wpAnyH_take (i := 10) (oi := ⟨some 175, _, _, _, _, none⟩) (v := ?_) rfl (by kernel_rfl) (by kernel_rfl) (by kernel_rfl) (fun _ _ _ h => h) (Or.inl ⟨by rfl, ?_⟩) (by assumption) ?_
                                case refine_2 => (intro wx hSx; (try dsimp only at hSx); go_simp; first | done | with_reducible rfl)
                                ((try simp only [Act.put]); (try simp only [List.setIfInBounds_toArray]); (try simp only [List.set_cons_succ]); (try simp only [List.set_cons_zero]))
                                refine wpAnyH_take (i := 11) (oi := ⟨some 176, _, _, _, _, none⟩) (v := ?_) rfl (by kernel_rfl) (by kernel_rfl) (by kernel_rfl) (fun _ _ _ h => h) (Or.inl ⟨by rfl, ?_⟩) (by assumption) ?_
                                case refine_2 => (intro wx hSx; (try dsimp only at hSx); go_simp; first | done | with_reducible rfl)
                                ((try simp only [Act.put]); (try simp only [List.setIfInBounds_toArray]); (try simp only [List.set_cons_succ]); (try simp only [List.set_cons_zero]))
                                refine wpAnyH_take (i := 12) (oi := ⟨some 177, _, _, _, _, none⟩) (v := ?_) rfl (by kernel_rfl) (by kernel_rfl) (by kernel_rfl) (fun _ _ _ h => h) (Or.inl ⟨by rfl, ?_⟩) (by assumption) ?_
                                case refine_2 => (intro wx hSx; (try dsimp only at hSx); go_simp; first | done | with_reducible rfl)
                                ((try simp only [Act.put]); (try simp only [List.setIfInBounds_toArray]); (try simp only [List.set_cons_succ]); (try simp only [List.set_cons_zero]))
                                refine wpAnyH_done (by kernel_rfl) ?_ _
                                clear hHeld q0 q1 q2 hc0 hd0 x8 x9
                                by_cases hq : (ss[k]).1 = (ss[m]).1
                                · have hq1 : ((ss[k]).1 == (ss[m]).1) = true := by simpa using hq
                                  have HN : Hid (z = 5) := Lib.hid (HZ.out.symm.trans (tbl_dup HV.out HL.out HL2.out HL5.out (.inr (nodup_not (f := fun x => x.1) hlt hml hlt2 hq))))
                                  clear hq
                                  go_wp2_with fail
                                  go_ret
                                  exact ⟨ret_i64 HN.out.symm, HJ.out.2.drew⟩
                                · have hq1 : ((ss[k]).1 == (ss[m]).1) = false := by simpa using hq
                                  have HN : Hid ((Row wr.drew w.heap.size 25 #[.int .i64 v, .slice A es.length cap, .slice (some ⟨g, off, none⟩) ss.length cbp] ∧ Below w.heap.size w wr.drew) ∧ ∀ j (hj : j < ss.length), j < m + 1 → (ss[k]).1 ≠ (ss[j]).1) := Lib.hid ⟨⟨HJ.out.1.drew, HJ.out.2.drew⟩, fun j h q => by
                                    by_cases e : j = m
                                    · subst e; exact hq
                                    · exact HM.out.2 j h (by omega)⟩
                                  clear HM hq
                                  go_wp2_with fail
                                  go_roundw
                                  case rel => exact ⟨m + 1, by omega, by go_num, HN⟩
                                  case measure => simp [intOf]; omega
                              · have m1 : ¬ (m : Int) < (k : Int) := by omega
                                have HN : Hid ((Row wr w.heap.size 25 #[.int .i64 v, .slice _ es.length cap, .slice _ ss.length cbp] ∧ Below w.heap.size w wr) ∧ ∀ i (hi : i < ss.length) j (hj : j < ss.length), i < k + 1 → j < i → (ss[i]).1 ≠ (ss[j]).1) := Lib.hid ⟨HJ.out, fun i hi j hj q q' => by
                                  by_cases e : i = k
                                  · subst e; exact HM.out.2 j hj (by omega)
                                  · exact HK.out i hi j hj (by omega) q'⟩
                                clear HM
                                go_wp2_with fail
                                go_roundw
                                case rel => exact ⟨k + 1, by omega, by go_num, HN⟩
                                case measure => simp [intOf]; omega
                          · have k1 : ¬ (k : Int) < (ss.length : Int) := by omega
                            have HN2 : Hid ((ss.map (·.1)).Nodup) := Lib.hid (nodup_all (f := fun x => x.1) fun i hi j hj q => HJ1.out.2 i hi j hj (by omega) q)
                            clear HJ1 hlt hk
                            have HN : Hid (z = 0) := Lib.hid (HZ.out.symm.trans (tbl_ok HV.out HL.out HL2.out HL5.out (fun q => q.elim (fun q => q HN1.out) (fun q => q HN2.out))))
                            go_wp2_with fail
                            go_ret
                            exact ⟨ret_i64 HN.out.symm, HJ.out.2⟩
end Go.Proofs.YtjaopjhfjijdaaaDoor
