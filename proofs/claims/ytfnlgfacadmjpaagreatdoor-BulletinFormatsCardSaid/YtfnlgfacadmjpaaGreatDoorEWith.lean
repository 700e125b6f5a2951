/- The contracts of the reference's number and Parse. The words of a report's text; contracts of the program's twoDigits and stamp.Format. The chapter's examples hold: the contract of the sanity check that every statement of the layer calls. Contracts of number and Parse of the program. Contracts of the program's kindOf, number and resolve at the words of valid reports. Contract of the program's resolve at the word of a day, an hour and a minute. The contract of Without of the program. -/
import Derived.Test.YtfnlgfacadmjpaaGreatDoorCParse
import Derived.Laws.BytesArg
import Derived.Test.YtfnlgfacadmjpaaGreatDoorShelf
import Derived.Deep.RegionHeld3
import Derived.Test.YtfnlgfacadmjpaaGreatDoorEVal2
namespace Go.Proofs.YtfnlgfacadmjpaaGreatDoor.Ck
open Go.RowKit

/-- All bytes are digits. -/
def digs (l : List UInt8) : Bool := l.all fun c => decide (48 ≤ c.toNat) && decide (c.toNat ≤ 57)
/-- The number of digits; -1 if another byte is among them. -/
def rnum (l : List UInt8) : Int := if digs l then numv l else -1
theorem digs_snoc (l : List UInt8) (c : UInt8) : digs (l ++ [c]) = (digs l && (decide (48 ≤ c.toNat) && decide (c.toNat ≤ 57))) := by simp [digs]
theorem digs_take {l : List UInt8} (k : Nat) (h : digs (l.take k) = false) : digs l = false := by
  have e : digs l = (digs (l.take k) && digs (l.drop k)) := by
    unfold digs; rw [← List.all_append, List.take_append_drop]
  rw [e, h]; rfl
theorem rnum_bad {l : List UInt8} (k : Nat) (h : digs (l.take k) = false) : rnum l = -1 := by unfold rnum; rw [digs_take k h]; rfl
theorem rnum_good {l : List UInt8} (h : digs l = true) : rnum l = numv l := by unfold rnum; rw [h]; rfl
/-- The number in the bytes from a to b, as the reference reads it. -/
def rfld (s : ByteArray) (a b : Nat) : Int := rnum (s.extract a b).data.toList
set_option maxHeartbeats 400000 in
theorem refNumber_any (s : ByteArray) (w : World) (hs : s.size ≤ 4) :
    Calls Tryz.prog 61 #[.string s] w fun e w' => e = .returned (.int .i64 (rnum s.data.toList)) ∧ w = w' := by
  go_enter Tryz.func61, Tryz.ntmps61
  go_wp2
  go_loop [3, 4] (fun n i => ∃ k : Nat, k ≤ s.size ∧ i = .int .i64 k ∧ n = .int .i64 (numv (s.data.toList.take k)) ∧ Hid (digs (s.data.toList.take k) = true)) (fun _ i => s.size - (intOf i).toNat)
  case atStart => exact ⟨0, Nat.zero_le _, rfl, rfl, Lib.hid rfl⟩
  case round =>
    obtain ⟨k, hk, rfl, rfl, hd⟩ := hrel
    have hl : (s.data.toList.take k).length = k := by rw [List.length_take]; simp only [Array.length_toList]; have : s.data.size = s.size := rfl; omega
    have hb := numv_bd k _ hl (by omega)
    by_cases hlt : k < s.size
    · have hts := take_snoc s k hlt
      have H := Lib.hid (show numv (s.data.toList.take (k + 1)) = 10 * numv (s.data.toList.take k) + (s[k].toNat : Int) - 48 by rw [hts]; exact numv_snoc _ _)
      have G := Lib.hid (show digs (s.data.toList.take (k + 1)) = (decide (48 ≤ s[k].toNat) && decide (s[k].toNat ≤ 57)) by rw [hts, digs_snoc, hd.out]; rfl)
      have hc := s[k].toNat_lt
      clear hts hl
      by_cases c1 : 48 ≤ s[k].toNat
      · by_cases c2 : s[k].toNat ≤ 57
        · have c3 : (48 : Int) ≤ (s[k].toNat : Int) := by omega
          have c4 : (s[k].toNat : Int) ≤ 57 := by omega
          go_wp2
          go_round
          case rel => exact ⟨k + 1, by omega, by go_num, by rw [H.out]; go_num, Lib.hid (by rw [G.out]; simp [c1, c2])⟩
          case measure => simp [intOf]; omega
        · have c4 : ¬ (s[k].toNat : Int) ≤ 57 := by omega
          have c3 : (48 : Int) ≤ (s[k].toNat : Int) := by omega
          go_wp2
          go_ret
          exact ⟨ret_i64 (rnum_bad (k + 1) (by rw [G.out]; simp [c2])).symm, rfl⟩
      · have c3 : ¬ (48 : Int) ≤ (s[k].toNat : Int) := by omega
        go_wp2
        go_ret
        exact ⟨ret_i64 (rnum_bad (k + 1) (by rw [G.out]; simp [c1])).symm, rfl⟩
    · have ht : s.data.toList.take k = s.data.toList := List.take_of_length_le (by simp; omega)
      have T := Lib.hid ht; clear ht
      go_wp2
      go_ret
      exact ⟨ret_i64 (by have := hd.out; rw [T.out] at this ⊢; exact (rnum_good this).symm), rfl⟩
theorem rnum_bd {l : List UInt8} (h : l.length ≤ 4) : -60000 ≤ rnum l ∧ rnum l ≤ 300000 := by
  have := numv_bd _ l rfl h
  unfold rnum; split <;> omega
theorem refNumber_fld (s : ByteArray) (a b : Nat) (w : World) (h : b - a ≤ 4) :
    Calls Tryz.prog 61 #[.string (s.extract a b)] w fun e w' => e = .returned (.int .i64 (rfld s a b)) ∧ w = w' :=
  refNumber_any _ w (by rw [ByteArray.size_extract]; omega)
/-- The separators. -/
def seps (s : ByteArray) (hs : s.size = 16) : Prop := s[4].toNat = 45 ∧ s[7].toNat = 45 ∧ s[10].toNat = 32 ∧ s[13].toNat = 58
theorem refParse_len (s : ByteArray) (w : World) (hs : s.size ≠ 16) :
    Calls Tryz.prog 30 #[.string s] w fun e w' => e = .returned (.tuple #[.int .i64 0, .int .i64 3]) ∧ w' = w := by
  go_enter Tryz.func30, Tryz.ntmps30
  go_wp2
  go_ret2
  exact ⟨rfl, rfl⟩
theorem u8_ne {c : UInt8} {n : Nat} (h : ¬ c.toNat = n) : ((c.toNat : Int) == (n : Int)) = false := by
  rw [beq_eq_false_iff_ne]; omega
set_option maxHeartbeats 400000 in
theorem refParse_sep (s : ByteArray) (w : World) (hs : s.size = 16) (h : ¬ seps s hs) :
    Calls Tryz.prog 30 #[.string s] w fun e w' => e = .returned (.tuple #[.int .i64 0, .int .i64 3]) ∧ w' = w := by
  unfold seps at h
  by_cases a1 : s[4].toNat = 45
  · by_cases a2 : s[7].toNat = 45
    · by_cases a3 : s[10].toNat = 32
      · have a4 : ¬ s[13].toNat = 58 := fun e => h ⟨a1, a2, a3, e⟩
        clear h
        go_enter Tryz.func30, Tryz.ntmps30
        go_wp2
        go_ret2
        exact ⟨rfl, rfl⟩
      · clear h
        go_enter Tryz.func30, Tryz.ntmps30
        go_wp2
        go_ret2
        exact ⟨rfl, rfl⟩
    · clear h
      go_enter Tryz.func30, Tryz.ntmps30
      go_wp2
      go_ret2
      exact ⟨rfl, rfl⟩
  · clear h
    go_enter Tryz.func30, Tryz.ntmps30
    go_wp2
    go_ret2
    exact ⟨rfl, rfl⟩
theorem rfld_bd (s : ByteArray) (a b : Nat) (h : b - a ≤ 4) : -60000 ≤ rfld s a b ∧ rfld s a b ≤ 300000 :=
  rnum_bd (by rw [Array.length_toList]; show (s.extract a b).size ≤ 4; rw [ByteArray.size_extract]; omega)
set_option maxHeartbeats 1000000 in
theorem refParse_no (s : ByteArray) (w : World) (hs : s.size = 16) (h : seps s hs) (hv : Cal.vld (rfld s 0 4) (rfld s 5 7) (rfld s 8 10) (rfld s 11 13) (rfld s 14 16) = false) :
    Calls Tryz.prog 30 #[.string s] w fun e w' => e = .returned (.tuple #[.int .i64 0, .int .i64 3]) ∧ Below w.heap.size w w' := by
  obtain ⟨a1, a2, a3, a4⟩ := h
  go_enter Tryz.func30, Tryz.ntmps30
  go_wp2
  go_region_held3 (fun _ => True) (trivial)
    (first | (go_at_call 61; refine (refNumber_fld _ _ _ _ (by omega)).mono ?_; rintro e w2 ⟨rfl, rfl⟩) | (go_at_call 60; refine (refMinutes_no _ _ _ _ _ _ hv).mono ?_; rintro e w3 ⟨rfl, hb3⟩))
  go_wp2
  go_ret2
  exact ⟨rfl, undrew hb3⟩
set_option maxHeartbeats 1000000 in
theorem refParse_yes (s : ByteArray) (w : World) (hs : s.size = 16) (h : seps s hs) (hv : Cal.vld (rfld s 0 4) (rfld s 5 7) (rfld s 8 10) (rfld s 11 13) (rfld s 14 16) = true) :
    Calls Tryz.prog 30 #[.string s] w fun e w' => e = .returned (.tuple #[.int .i64 (Cal.num (rfld s 0 4) (rfld s 5 7) (rfld s 8 10) (rfld s 11 13) (rfld s 14 16)), .int .i64 0]) ∧ Below w.heap.size w w' := by
  obtain ⟨a1, a2, a3, a4⟩ := h
  go_enter Tryz.func30, Tryz.ntmps30
  go_wp2
  go_region_held3 (fun _ => True) (trivial)
    (first | (go_at_call 61; refine (refNumber_fld _ _ _ _ (by omega)).mono ?_; rintro e w2 ⟨rfl, rfl⟩) | (go_at_call 60; refine (refMinutes_yes _ _ _ _ _ _ hv).mono ?_; rintro e w3 ⟨rfl, hb3⟩))
  go_wp2
  go_ret2
  exact ⟨rfl, undrew hb3⟩
end Go.Proofs.YtfnlgfacadmjpaaGreatDoor.Ck
namespace Go.Proofs.YtfnlgfacadmjpaaGreatDoor
open Go.RowKit
open Ck (dig2 b10)

theorem conv_two (w : World) (c d : Int) (h1 : 0 ≤ c) (h2 : c ≤ 9) (h3 : 0 ≤ d) (h4 : d ≤ 9) :
    (convert 40 9 (.slice (some ⟨w.heap.size, 0, none⟩) 2 2)).run Tryz.prog (w.alloc (.cells #[.int .u8 (48 + c), .int .u8 (48 + d)] 5)) = .ok (.string (S [b10 c, b10 d])) (w.alloc (.cells #[.int .u8 (48 + c), .int .u8 (48 + d)] 5)) := by
  have h := run_convert_bytes_arg (P := Tryz.prog) (w.alloc (.cells #[.int .u8 (48 + c), .int .u8 (48 + d)] 5)) 40 5 Tryz.underlying40 Tryz.underlying5 w.heap.size 0 2 2 [48 + c, 48 + d] rfl
    (fun i hi => by
      have hw := heap_alloc_new w (.cells #[.int .u8 (48 + c), .int .u8 (48 + d)] 5)
      rcases (by omega : i = 0 ∨ i = 1) with rfl | rfl
      · unfold World.cell?; rw [hw]; rfl
      · unfold World.cell?; rw [hw]; rfl) 9 Tryz.underlying9
  rw [h]
  rw [show strOfNums [48 + c, 48 + d] = S [b10 c, b10 d] by
    unfold strOfNums S b10
    simp only [List.map_cons, List.map_nil]
    rw [show (48 + c).toNat = 48 + c.toNat by omega, show (48 + d).toNat = 48 + d.toNat by omega]]
set_option maxHeartbeats 400000 in
theorem twoDigits_any (n : Int) (w : World) (h1 : 0 ≤ n) (h2 : n ≤ 99) :
    Calls Tryz.prog 103 #[.int .i64 n] w fun e w' => e = .returned (.string (S (dig2 n))) ∧ Below w.heap.size w w' := by
  have kc := conv_two w (n / 10) (n % 10) (by omega) (by omega) (by omega) (by omega)
  go_enter Tryz.func103, Tryz.ntmps103
  go_wp2
  go_ret
  exact ⟨rfl, (Below.refl _ _).alloc (Nat.le_refl _) _⟩
/-- The word of a minute. -/
noncomputable def stp (t : Int) : List UInt8 := dig2 (dayOf t) ++ dig2 (hourOf t) ++ dig2 (minOf t)
theorem twoDigits_from (n : Int) (w0 w : World) (h1 : 0 ≤ n) (h2 : n ≤ 99) (hb : Below w0.heap.size w0 w) :
    Calls Tryz.prog 103 #[.int .i64 n] w fun e w' => e = .returned (.string (S (dig2 n))) ∧ Below w0.heap.size w0 w' :=
  (twoDigits_any n w h1 h2).mono fun _ _ ⟨he, hg⟩ => ⟨he, hb.trans (hg.mono hb.size)⟩
theorem row5 {w : World} {b : Nat} {t : TypeId} {x0 x1 x2 x3 x4 : Value} (h : Row w b t #[x0, x1, x2, x3, x4]) :
    w.cell? ⟨b, 0, none⟩ = some x0 ∧ w.cell? ⟨b, 1, none⟩ = some x1 ∧ w.cell? ⟨b, 2, none⟩ = some x2 ∧ w.cell? ⟨b, 3, none⟩ = some x3 ∧ w.cell? ⟨b, 4, none⟩ = some x4 :=
  ⟨(h.cell 0).trans rfl, (h.cell 1).trans rfl, (h.cell 2).trans rfl, (h.cell 3).trans rfl, (h.cell 4).trans rfl⟩
theorem dig2_len (n : Int) : (dig2 n).length = 2 := rfl
theorem cells3 {Y X : World} {g : Nat} {ty : TypeId} {x0 x1 x2 x3 x4 : Value} (r : Row Y g ty #[x0, x1, x2, x3, x4]) (hb : Below Y.drew.heap.size Y.drew X) :
    X.cell? ⟨g, 2, none⟩ = some x2 ∧ X.cell? ⟨g, 3, none⟩ = some x3 ∧ X.cell? ⟨g, 4, none⟩ = some x4 := by
  obtain ⟨-, -, c2, c3, c4⟩ := row5 (r.drew.under hb)
  exact ⟨c2, c3, c4⟩
attribute [local go_sem] S_add S_size dig2_len
set_option maxHeartbeats 2000000 in
theorem stamp_any (t : Int) (w : World) (hT : Ck.Tab w) (h : 0 ≤ t ∧ t ≤ 52595999) :
    Calls Tryz.prog 64 #[.int .i64 t] w fun e w' => e = .returned (.tuple #[.string (S (stp t)), .int .i64 0]) ∧ Below w.heap.size w w' := by
  obtain ⟨td, th, tm⟩ := dt_bd h
  have HS := Lib.hid (show stp t = dig2 (dayOf t) ++ dig2 (hourOf t) ++ dig2 (minOf t) from rfl)
  have HD := Lib.hid (date_is t w hT h)
  generalize dayOf t = d at *
  generalize hourOf t = p at *
  generalize minOf t = q at *
  go_enter Tryz.func64, Tryz.ntmps64
  go_wp2_with fail
  refine HD.out.mono ?_
  rintro e w2 ⟨⟨y, m, rfl⟩, g2⟩
  go_upto_region 4 with fail
  refine forget (fun Y => Below w.heap.size w Y ∧ Row Y w2.heap.size 95 #[.int .i64 y, .int .i64 m, .int .i64 d, .int .i64 p, .int .i64 q]) ⟨g2.alloc g2.size _, Row.new _ _ _⟩ ?_
  rintro Y ⟨bY, r⟩
  generalize w2.heap.size = g at *
  have h0 := r.lt
  have BY := Lib.hid bY
  have R := Lib.hid r
  have hb2 := Below.refl Y.drew.heap.size Y.drew
  obtain ⟨c2, c3, c4⟩ := cells3 r hb2
  clear r bY g2 HD
  go_region_held3 (fun w' => w'.cell? ⟨g, 2, none⟩ = some (.int .i64 d) ∧ w'.cell? ⟨g, 3, none⟩ = some (.int .i64 p) ∧ w'.cell? ⟨g, 4, none⟩ = some (.int .i64 q))
    (first | go_keep | exact cells3 R.out hb2)
    (first | (go_at_call 103; refine (twoDigits_from _ Y.drew _ (by omega) (by omega) hb2).mono ?_; clear hb2; rintro e w2 ⟨rfl, hb2⟩))
  go_wp2_with fail
  go_ret2
  exact ⟨ret_str2 (by rw [HS.out]; simp), BY.out.trans ((undrew hb2).mono BY.out.size)⟩
/-- The words of a report's text. -/
noncomputable def wds (k : Int) (nm : ByteArray) (t F A B : Int) (L : List El.Elt.R) : List (List UInt8) :=
  [kw k, nm.data.toList, stp t] ++ (if k = 1 then [] else [Pl.txt F.toNat A B]) ++ L.map fun r => El.Elt.txt r.1 r.2
/-- The text. -/
noncomputable def gtx (k : Int) (nm : ByteArray) (t F A B : Int) (L : List El.Elt.R) : List UInt8 := Lib.join (wds k nm t F A B L) [32]
theorem vld_zero {L : List El.Elt.R} (h : El.Elt.vld L = 0) : (∀ r ∈ L, El.Elt.Val r.1 r.2) ∧ El.Elt.Asc L := by
  by_cases h4 : ∃ r ∈ L, El.Elt.chk r.1 r.2 = 4
  · rw [El.Elt.vld_kind h4] at h; omega
  · by_cases h1 : ∃ r ∈ L, El.Elt.chk r.1 r.2 = 1
    · rw [El.Elt.vld_range h4 h1] at h; omega
    · by_cases ha : El.Elt.Asc L
      · refine ⟨fun r hr => ?_, ha⟩
        rcases El.Elt.chk_cases r.1 r.2 with ⟨hv, -⟩ | ⟨-, -, e⟩ | ⟨-, e⟩
        · exact hv
        · exact absurd ⟨r, hr, e⟩ h1
        · exact absurd ⟨r, hr, e⟩ h4
      · rw [(El.Elt.vld_sort h4 h1).2 ha] at h; omega
theorem vld_len {L : List El.Elt.R} (h : El.Elt.vld L = 0) : L.length ≤ 11 := by
  obtain ⟨hv, ha⟩ := vld_zero h
  have key : ∀ j (hj : j < L.length), (j : Int) + 1 ≤ (L[j]).1 := by
    intro j
    induction j with
    | zero => intro hj; have := (hv _ (List.getElem_mem hj)).1.1; omega
    | succ j ih => intro hj; have := ih (by omega); have := ha j hj; omega
  rcases Nat.lt_or_ge 11 L.length with hl | hl
  · have h1 := key 11 hl
    have := (hv _ (List.getElem_mem hl)).1.2
    omega
  · exact hl
end Go.Proofs.YtfnlgfacadmjpaaGreatDoor
namespace Go.Proofs.YtfnlgfacadmjpaaGreatDoor.Pl
open Go.RowKit

theorem ex1 : Ico.Vld 1 0 840 0 := by unfold Ico.Vld; omega
theorem ex2 : Ico.Vld 5 420 420 0 := by unfold Ico.Vld; omega
def t54 : ByteArray := ⟨#[48, 53, 52, 50, 48, 52, 50, 48]⟩
theorem t54_eq : S (txt 5 420 420) = t54 := by decide +kernel
theorem t54_same : (t54.toList == [48, 53, 52, 50, 48, 52, 50, 48]) = true := by rw [ByteArray.toList_eq]; rfl
theorem normal_ex (w : World) :
    Calls Tryz.prog 125 #[.agg #[.int .i64 1, .int .i64 0, .int .i64 840, .int .i64 0]] w fun e w' => e = .returned (.tuple #[.agg #[.int .i64 0, .int .i64 0, .int .i64 0, .int .i64 840], .int .i64 0]) ∧ Below w.heap.size w w' := by
  have h := normal_yes 1 0 840 0 w ex1
  rw [show Ico.nf 1 0 840 0 = 0 by decide +kernel, show nw 1 0 840 0 0 = 0 by decide +kernel, show nw 1 0 840 0 1 = 0 by decide +kernel, show nw 1 0 840 0 2 = 840 by decide +kernel] at h
  exact h
theorem format_ex (w : World) (hE : Env w) :
    Calls Tryz.prog 67 #[.agg #[.int .i64 5, .int .i64 420, .int .i64 420, .int .i64 0]] w fun e w' => e = .returned (.tuple #[.string t54, .int .i64 0]) ∧ Below w.heap.size w w' := by
  have h := format_yes 5 420 420 0 w hE ex2
  rw [t54_eq] at h
  exact h
theorem fcs_ex : Ico.fcs 5 420 420 0 20 = [5, 14] := by decide +kernel
theorem addresses_ex (w : World) :
    Calls Tryz.prog 156 #[.agg #[.int .i64 5, .int .i64 420, .int .i64 420, .int .i64 0]] w fun e w' => ∃ g cap, e = .returned (.tuple #[.slice (some ⟨g, 0, none⟩) 2 cap, .int .i64 0]) ∧ Below w.heap.size w w' ∧
      w.heap.size ≤ g ∧ g < w'.heap.size ∧ 2 ≤ cap ∧ cap ≤ 9223372036854775807 ∧ w'.cell? ⟨g, 4, none⟩ = some (.int .i64 14) ∧ w'.cell? ⟨g, 5, none⟩ = some (.int .i64 0) ∧ w'.cell? ⟨g, 6, none⟩ = some (.int .i64 420) ∧ w'.cell? ⟨g, 7, none⟩ = some (.int .i64 420) :=
  (addresses_open 5 420 420 0 w ex2).mono fun e w' ⟨g, cap, he, hb, h1, h2, h3, h4, hH⟩ => by
    have hl : (Ico.fcs 5 420 420 0 20).length = 2 := by rw [fcs_ex]; rfl
    have hx := hH 1 (by rw [hl]; omega)
    have e1 : (Ico.fcs 5 420 420 0 20)[1]'(by rw [hl]; omega) = 14 := by simp [fcs_ex]
    rw [e1] at hx
    rw [hl] at he h3
    rw [show Ico.wt 5 420 420 0 (Ico.cor 14 0) = 0 by decide +kernel, show Ico.wt 5 420 420 0 (Ico.cor 14 1) = 420 by decide +kernel, show Ico.wt 5 420 420 0 (Ico.cor 14 2) = 420 by decide +kernel] at hx
    exact ⟨g, cap, he, hb, h1, h2, h3, h4, hx⟩
attribute [local go_sem] eq_place
end Go.Proofs.YtfnlgfacadmjpaaGreatDoor.Pl
namespace Go.Proofs.YtfnlgfacadmjpaaGreatDoor.Pl
open Go.RowKit

/-- All bytes are digits. -/
def digs (l : List UInt8) : Bool := l.all fun c => decide (48 ≤ c.toNat) && decide (c.toNat ≤ 57)
/-- The value of digits. -/
def numv (l : List UInt8) : Int := l.foldl (fun n c => 10 * n + (c.toNat : Int) - 48) 0
theorem numv_snoc (l : List UInt8) (c : UInt8) : numv (l ++ [c]) = 10 * numv l + (c.toNat : Int) - 48 := by unfold numv; rw [List.foldl_append]; rfl
theorem digs_snoc (l : List UInt8) (c : UInt8) : digs (l ++ [c]) = (digs l && (decide (48 ≤ c.toNat) && decide (c.toNat ≤ 57))) := by simp [digs]
theorem digs_cons (c : UInt8) (l : List UInt8) : digs (c :: l) = true ↔ (48 ≤ c.toNat ∧ c.toNat ≤ 57) ∧ digs l = true := by simp [digs]
theorem numv_bd : ∀ (l : List UInt8), digs l = true → l.length ≤ 3 → 0 ≤ numv l ∧ numv l ≤ 999 ∧ (l.length ≤ 2 → numv l ≤ 99) := by
  intro l hd hk
  match l, hd, hk with
  | [], _, _ => exact ⟨by decide, by decide, fun _ => by decide⟩
  | [a], hd, _ => simp only [digs_cons] at hd; simp only [numv, List.foldl, List.length_singleton]; omega
  | [a, b], hd, _ => simp only [digs_cons] at hd; simp only [numv, List.foldl, List.length_cons, List.length_nil]; omega
  | [a, b, c], hd, _ => simp only [digs_cons] at hd; simp only [numv, List.foldl, List.length_cons, List.length_nil]; omega
  | _ :: _ :: _ :: _ :: l, _, h => simp only [List.length_cons] at h; omega
theorem take_snoc (s : ByteArray) (k : Nat) (h : k < s.size) : s.data.toList.take (k + 1) = s.data.toList.take k ++ [s[k]] := by
  rw [List.take_succ_eq_append_getElem (by simpa using h)]; rfl
theorem digs_take {l : List UInt8} (k : Nat) (h : digs l = true) : digs (l.take k) = true := by
  have e : digs l = (digs (l.take k) && digs (l.drop k)) := by unfold digs; rw [← List.all_append, List.take_append_drop]
  rw [e] at h; simp only [Bool.and_eq_true] at h; exact h.1
theorem digs_drop {l : List UInt8} (k : Nat) (h : digs l = true) : digs (l.drop k) = true := by
  have e : digs l = (digs (l.take k) && digs (l.drop k)) := by unfold digs; rw [← List.all_append, List.take_append_drop]
  rw [e] at h; simp only [Bool.and_eq_true] at h; exact h.2
theorem digs_at {s : ByteArray} {k : Nat} (h : digs s.data.toList = true) (hk : k < s.size) : 48 ≤ s[k].toNat ∧ s[k].toNat ≤ 57 := by
  have := List.all_eq_true.1 h s[k] (by
    have : s[k] = s.data.toList[k]'(by simpa using hk) := rfl
    rw [this]; exact List.getElem_mem _)
  simpa using this
set_option maxHeartbeats 400000 in
theorem number_any (s : ByteArray) (w : World) (hd : digs s.data.toList = true) (hs : s.size ≤ 3) :
    Calls Tryz.prog 197 #[.string s] w fun e w' => e = .returned (.int .i64 (numv s.data.toList)) ∧ w = w' := by
  have HD := Lib.hid hd; clear hd
  go_enter Tryz.func197, Tryz.ntmps197
  go_wp2
  go_loop [3, 7] (fun n i => ∃ k : Nat, k ≤ s.size ∧ i = .int .i64 k ∧ n = .int .i64 (numv (s.data.toList.take k))) (fun _ i => s.size - (intOf i).toNat)
  case atStart => exact ⟨0, Nat.zero_le _, rfl, rfl⟩
  case round =>
    obtain ⟨k, hk, rfl, rfl⟩ := hrel
    have hl : (s.data.toList.take k).length = k := by rw [List.length_take]; simp only [Array.length_toList]; have : s.data.size = s.size := rfl; omega
    obtain ⟨hb1, hb2, -⟩ := numv_bd _ (digs_take k HD.out) (by omega)
    by_cases hlt : k < s.size
    · have hts := take_snoc s k hlt
      have H := Lib.hid (show numv (s.data.toList.take (k + 1)) = 10 * numv (s.data.toList.take k) + ((s[k].toNat : Int) - 48) by rw [hts, numv_snoc]; omega)
      obtain ⟨hc1, hc2⟩ := digs_at HD.out hlt
      have hc3 : (48 : Int) ≤ (s[k].toNat : Int) := by omega
      have hc4 : (s[k].toNat : Int) ≤ 57 := by omega
      clear hts hl
      go_wp2
      go_round
      case rel => exact ⟨k + 1, by omega, by go_num, by rw [H.out]⟩
      case measure => simp [intOf]; omega
    · have T := Lib.hid (show s.data.toList.take k = s.data.toList from List.take_of_length_le (by simp; omega))
      clear hl
      go_wp2
      go_ret
      exact ⟨ret_i64 (by rw [T.out]), rfl⟩
/-- The number in the bytes from a to b. -/
def fld (s : ByteArray) (a b : Nat) : Int := numv (s.extract a b).data.toList
theorem extract_list (s : ByteArray) (a b : Nat) : (s.extract a b).data.toList = (s.data.toList.drop a).take (b - a) := by
  simp [ByteArray.data_extract, List.extract_eq_take_drop]
theorem fld_bd (s : ByteArray) (a b : Nat) (h : digs s.data.toList = true) (hb : b - a ≤ 3) : 0 ≤ fld s a b ∧ fld s a b ≤ 999 := by
  have := numv_bd (s.extract a b).data.toList (by rw [extract_list]; exact digs_take _ (digs_drop _ h)) (by rw [extract_list, List.length_take]; omega)
  exact ⟨this.1, this.2.1⟩
theorem number_fld (s : ByteArray) (a b : Nat) (w : World) (h : digs s.data.toList = true) (hb : b - a ≤ 3) :
    Calls Tryz.prog 197 #[.string (s.extract a b)] w fun e w' => e = .returned (.int .i64 (fld s a b)) ∧ w = w' :=
  number_any _ w (by rw [extract_list]; exact digs_take _ (digs_drop _ h)) (by rw [ByteArray.size_extract]; omega)
/-- The cutset. -/
def ten : ByteArray := ⟨#[48, 49, 50, 51, 52, 53, 54, 55, 56, 57]⟩
theorem ten_has (c : UInt8) : ten.data.toList.contains c = (decide (48 ≤ c.toNat) && decide (c.toNat ≤ 57)) := by
  have : ∀ n : Fin 256, ten.data.toList.contains (UInt8.ofNat n.val) = (decide (48 ≤ (UInt8.ofNat n.val).toNat) && decide ((UInt8.ofNat n.val).toNat ≤ 57)) := by decide +kernel
  have h := this ⟨c.toNat, c.toNat_lt⟩
  rw [UInt8.ofNat_toNat] at h
  exact h
theorem drop_all {p : UInt8 → Bool} : ∀ l : List UInt8, (∀ c ∈ l, p c = true) → l.dropWhile p = []
  | [], _ => rfl
  | x :: l, h => by rw [List.dropWhile_cons, if_pos (h x (by simp))]; exact drop_all l fun c hc => h c (by simp [hc])
theorem drop_mem {p : UInt8 → Bool} {c : UInt8} (hn : p c = false) : ∀ l : List UInt8, c ∈ l → c ∈ l.dropWhile p
  | [], h => by cases h
  | x :: l, h => by
    rw [List.dropWhile_cons]
    split
    · rename_i hcx
      rcases List.mem_cons.1 h with rfl | hx
      · rw [hn] at hcx; cases hcx
      · exact drop_mem hn l hx
    · exact h
theorem trim_digs {l : List UInt8} (h : digs l = true) : Lib.trimS l ten.data.toList = [] := by
  have hr : Lib.trimRightS l ten.data.toList = [] := by
    unfold Lib.trimRightS
    rw [drop_all _ fun c hc => by
      rw [ten_has]
      exact List.all_eq_true.1 h c (List.mem_reverse.1 hc)]
    rfl
  unfold Lib.trimS; rw [hr]; rfl
theorem trim_other {l : List UInt8} (h : digs l = false) : Lib.trimS l ten.data.toList ≠ [] := by
  intro e
  obtain ⟨c, hc, hn⟩ : ∃ c ∈ l, ten.data.toList.contains c = false := by
    have h2 := h
    unfold digs at h2
    rw [List.all_eq_false] at h2
    obtain ⟨c, hc, hn⟩ := h2
    exact ⟨c, hc, by rw [ten_has]; simpa using hn⟩
  have hm : c ∈ Lib.trimS l ten.data.toList := by
    unfold Lib.trimS Lib.trimLeftS Lib.trimRightS
    exact drop_mem hn _ (List.mem_reverse.2 (drop_mem hn _ (List.mem_reverse.2 hc)))
  rw [e] at hm
  cases hm
theorem trim_any (s : ByteArray) (w : World) (hs : s.size = 8) :
    Calls Tryz.prog 74 #[.string s, .string ⟨#[48, 49, 50, 51, 52, 53, 54, 55, 56, 57]⟩] w fun e w' => e = .returned (.string ⟨(Lib.trimS s.data.toList ten.data.toList).toArray⟩) ∧ Below w.heap.size w w' :=
  (Any.strings_Trim_set Tryz.lays160 (fun _ => by kernel_rfl) (by kernel_rfl) s ten w (by decide) (by omega) (by omega) (by decide) (by
    intro j b hb
    have : ∀ c ∈ ten.data.toList, c.toNat < 128 := by decide
    exact this b (List.mem_of_getElem? hb))).mono fun e w' ⟨he, q, hw⟩ => ⟨he, hw ▸ below_drewN (((Below.refl _ _).alloc (Nat.le_refl _) _).alloc (by simp) _) q⟩
set_option maxHeartbeats 1000000 in
theorem parse_len (s : ByteArray) (w : World) (hs : s.size ≠ 8) :
    Calls Tryz.prog 189 #[.string s] w fun e w' => e = .returned (.tuple #[.agg #[.int .i64 0, .int .i64 0, .int .i64 0, .int .i64 0], .int .i64 3]) ∧ Below w.heap.size w w' := by
  have q : ((s.size : Int) != 8) = true := by rw [bne_iff_ne]; omega
  clear hs
  go_enter Tryz.func189, Tryz.ntmps189
  go_wp2_with fail
  exact bodyPost_ret (v := .tuple #[.agg #[.int .i64 0, .int .i64 0, .int .i64 0, .int .i64 0], .int .i64 3]) (by simp [results, Tryz.results189, go_sem]) rfl ⟨rfl, (Below.refl _ _).alloc (Nat.le_refl _) _⟩
end Go.Proofs.YtfnlgfacadmjpaaGreatDoor.Pl
namespace Go.Proofs.YtfnlgfacadmjpaaGreatDoor
open Go.RowKit
open Ck (dig2 b10)

theorem kw_ne : ∀ i j : Fin 3, i ≠ j → kws.getD i [] ≠ kws.getD j [] := by decide
theorem load_kinds (w : World) (hE : Env w) : w.cell? ⟨0, 0, none⟩ = some (.string (S (kw 1))) ∧ w.cell? ⟨0, 1, none⟩ = some (.string (S (kw 2))) ∧ w.cell? ⟨0, 2, none⟩ = some (.string (S (kw 3))) :=
  ⟨hE.kd 0 (by omega), hE.kd 1 (by omega), hE.kd 2 (by omega)⟩
set_option maxHeartbeats 1000000 in
theorem kindOf_yes (k : Int) (hk : 1 ≤ k ∧ k ≤ 3) (w : World) (hE : Env w) :
    Calls Tryz.prog 168 #[.string (S (kw k))] w fun e w' => e = .returned (.tuple #[.int .i64 k, .int .i64 0]) ∧ w' = w := by
  obtain ⟨c0, c1, c2⟩ := load_kinds w hE
  clear hE
  have e12 : ((S (kw 1)).toList == (S (kw 2)).toList) = false := toList_ne fun e => absurd (S_inj e) (by decide)
  have e13 : ((S (kw 1)).toList == (S (kw 3)).toList) = false := toList_ne fun e => absurd (S_inj e) (by decide)
  have e23 : ((S (kw 2)).toList == (S (kw 3)).toList) = false := toList_ne fun e => absurd (S_inj e) (by decide)
  have e11 : ((S (kw 1)).toList == (S (kw 1)).toList) = true := beq_self_eq_true _
  have e22 : ((S (kw 2)).toList == (S (kw 2)).toList) = true := beq_self_eq_true _
  have e33 : ((S (kw 3)).toList == (S (kw 3)).toList) = true := beq_self_eq_true _
  have j0 : ∀ w, (Instr.index 103 (.agg #[.string (S (kw 1)), .string (S (kw 2)), .string (S (kw 3))]) (.int .i64 0)).run Tryz.prog w = .ok (.string (S (kw 1))) w := fun _ => by kernel_rfl
  have j1 : ∀ w, (Instr.index 103 (.agg #[.string (S (kw 1)), .string (S (kw 2)), .string (S (kw 3))]) (.int .i64 1)).run Tryz.prog w = .ok (.string (S (kw 2))) w := fun _ => by kernel_rfl
  have j2 : ∀ w, (Instr.index 103 (.agg #[.string (S (kw 1)), .string (S (kw 2)), .string (S (kw 3))]) (.int .i64 2)).run Tryz.prog w = .ok (.string (S (kw 3))) w := fun _ => by kernel_rfl
  rcases (by omega : k = 1 ∨ k = 2 ∨ k = 3) with rfl | rfl | rfl
  · generalize S (kw 1) = s1 at *
    generalize S (kw 2) = s2 at *
    generalize S (kw 3) = s3 at *
    go_enter Tryz.func168, Tryz.ntmps168
    go_wp2_with fail
    go_loop [4, 5, 7] (fun _ _ t => t = .int .i64 0) (fun _ _ t => (3 - intOf t).toNat)
    case atStart => rfl
    case round =>
      obtain rfl := hrel
      go_wp2_with fail
      go_ret2
      exact ⟨rfl, rfl⟩
  · generalize S (kw 1) = s1 at *
    generalize S (kw 2) = s2 at *
    generalize S (kw 3) = s3 at *
    go_enter Tryz.func168, Tryz.ntmps168
    go_wp2_with fail
    go_loop [4, 5, 7] (fun _ _ t => t = .int .i64 0 ∨ t = .int .i64 1) (fun _ _ t => (3 - intOf t).toNat)
    case atStart => exact .inl rfl
    case round =>
      rcases hrel with rfl | rfl
      · go_wp2_with fail
        go_round
        case rel => exact .inr rfl
        case measure => simp [intOf]
      · go_wp2_with fail
        go_ret2
        exact ⟨rfl, rfl⟩
  · generalize S (kw 1) = s1 at *
    generalize S (kw 2) = s2 at *
    generalize S (kw 3) = s3 at *
    go_enter Tryz.func168, Tryz.ntmps168
    go_wp2_with fail
    go_loop [4, 5, 7] (fun _ _ t => t = .int .i64 0 ∨ t = .int .i64 1 ∨ t = .int .i64 2) (fun _ _ t => (3 - intOf t).toNat)
    case atStart => exact .inl rfl
    case round =>
      rcases hrel with rfl | rfl | rfl
      · go_wp2_with fail
        go_round
        case rel => exact .inr (.inl rfl)
        case measure => simp [intOf]
      · go_wp2_with fail
        go_round
        case rel => exact .inr (.inr rfl)
        case measure => simp [intOf]
      · go_wp2_with fail
        go_ret2
        exact ⟨rfl, rfl⟩
set_option maxHeartbeats 400000 in
theorem number_any (s : ByteArray) (w : World) (hd : Pl.digs s.data.toList = true) (hs : s.size ≤ 3) :
    Calls Tryz.prog 137 #[.string s] w fun e w' => e = .returned (.int .i64 (Pl.numv s.data.toList)) ∧ w = w' := by
  have HD := Lib.hid hd; clear hd
  go_enter Tryz.func137, Tryz.ntmps137
  go_wp2
  go_loop [3, 7] (fun n i => ∃ k : Nat, k ≤ s.size ∧ i = .int .i64 k ∧ n = .int .i64 (Pl.numv (s.data.toList.take k))) (fun _ i => s.size - (intOf i).toNat)
  case atStart => exact ⟨0, Nat.zero_le _, rfl, rfl⟩
  case round =>
    obtain ⟨k, hk, rfl, rfl⟩ := hrel
    have hl : (s.data.toList.take k).length = k := by rw [List.length_take]; simp only [Array.length_toList]; have : s.data.size = s.size := rfl; omega
    obtain ⟨hb1, hb2, -⟩ := Pl.numv_bd _ (Pl.digs_take k HD.out) (by omega)
    by_cases hlt : k < s.size
    · have hts := Pl.take_snoc s k hlt
      have H := Lib.hid (show Pl.numv (s.data.toList.take (k + 1)) = 10 * Pl.numv (s.data.toList.take k) + ((s[k].toNat : Int) - 48) by rw [hts, Pl.numv_snoc]; omega)
      obtain ⟨hc1, hc2⟩ := Pl.digs_at HD.out hlt
      have hc3 : (48 : Int) ≤ (s[k].toNat : Int) := by omega
      have hc4 : (s[k].toNat : Int) ≤ 57 := by omega
      clear hts hl
      go_wp2
      go_round
      case rel => exact ⟨k + 1, by omega, by go_num, by rw [H.out]⟩
      case measure => simp [intOf]; omega
    · have T := Lib.hid (show s.data.toList.take k = s.data.toList from List.take_of_length_le (by simp; omega))
      clear hl
      go_wp2
      go_ret
      exact ⟨ret_i64 (by rw [T.out]), rfl⟩

end Go.Proofs.YtfnlgfacadmjpaaGreatDoor
namespace Go.Proofs.YtfnlgfacadmjpaaGreatDoor
open Go.RowKit
open Ck (dig2 b10)

theorem b10_toNat {x : Int} (h1 : 0 ≤ x) (h2 : x ≤ 9) : ((b10 x).toNat : Int) = 48 + x := by
  unfold b10
  rw [UInt8.toNat_ofNat_of_lt' (by simp only [UInt8.size]; omega)]; omega
theorem digs_dig2 {n : Int} (h1 : 0 ≤ n) (h2 : n ≤ 99) : Pl.digs (dig2 n) = true := by
  have a := b10_toNat (x := n / 10) (by omega) (by omega)
  have b := b10_toNat (x := n % 10) (by omega) (by omega)
  unfold dig2
  rw [Pl.digs_cons, Pl.digs_cons]
  exact ⟨⟨by omega, by omega⟩, ⟨by omega, by omega⟩, rfl⟩
theorem numv_dig2 {n : Int} (h1 : 0 ≤ n) (h2 : n ≤ 99) : Pl.numv (dig2 n) = n := by
  have a := b10_toNat (x := n / 10) (by omega) (by omega)
  have b := b10_toNat (x := n % 10) (by omega) (by omega)
  simp only [Pl.numv, dig2, List.foldl]; omega
theorem digs_app (a b : List UInt8) : Pl.digs (a ++ b) = (Pl.digs a && Pl.digs b) := by simp [Pl.digs]
theorem extract_S (l : List UInt8) (a b : Nat) : (S l).extract a b = S ((l.drop a).take (b - a)) := by
  have : ((S l).extract a b).data.toList = (l.drop a).take (b - a) := by
    unfold S; simp [ByteArray.data_extract, List.extract]
  rw [← S_of ((S l).extract a b), this]
theorem number_two (n : Int) (w : World) (h1 : 0 ≤ n) (h2 : n ≤ 99) :
    Calls Tryz.prog 137 #[.string (S (dig2 n))] w fun e w' => e = .returned (.int .i64 n) ∧ w = w' := by
  have h := number_any (S (dig2 n)) w (by rw [S_list]; exact digs_dig2 h1 h2) (by rw [S_size]; exact Nat.le_succ 2)
  rw [S_list, numv_dig2 h1 h2] at h
  exact h
theorem number_from (n : Int) (w0 w : World) (h1 : 0 ≤ n) (h2 : n ≤ 99) (hb : Below w0.heap.size w0 w) :
    Calls Tryz.prog 137 #[.string (S (dig2 n))] w fun e w' => e = .returned (.int .i64 n) ∧ Below w0.heap.size w0 w' :=
  (number_two n w h1 h2).mono fun _ _ ⟨he, hw⟩ => ⟨he, hw ▸ hb⟩
theorem resolve_from (d h i near a : Int) (w0 w : World) (hT : Ck.Tab w0) (hr : rsv d h i near = some a) (hb : Below w0.heap.size w0 w) :
    Calls Tryz.prog 79 #[.int .i64 d, .int .i64 h, .int .i64 i, .int .i64 near] w fun e w' => e = .returned (.tuple #[.int .i64 a, .int .i64 0]) ∧ Below w0.heap.size w0 w' :=
  (resolve_is d h i near w (hT.under hb)).mono fun _ _ ⟨hc, hg⟩ => by
    rcases hc with ⟨-, b, hb2, rfl⟩ | ⟨-, hn, -⟩
    · rw [hr] at hb2
      obtain rfl := Option.some.inj hb2
      exact ⟨rfl, hb.trans (hg.mono hb.size)⟩
    · rw [hr] at hn; cases hn
set_option maxHeartbeats 1000000 in
set_option maxHeartbeats 400000 in
set_option maxRecDepth 100000 in
theorem res_yes (d h i near a : Int) (w : World) (hT : Ck.Tab w) (h1 : 0 ≤ d ∧ d ≤ 99) (h2 : 0 ≤ h ∧ h ≤ 99) (h3 : 0 ≤ i ∧ i ≤ 99) (hr : rsv d h i near = some a) :
    Calls Tryz.prog 88 #[.string (S (dig2 d ++ dig2 h ++ dig2 i)), .int .i64 near] w fun e w' => e = .returned (.tuple #[.int .i64 a, .int .i64 0]) ∧ Below w.heap.size w w' := by
  obtain ⟨near1, near2⟩ : 0 ≤ near ∧ near ≤ 52595999 := by
    have h := (rsv_some hr).1.2.2
    unfold Ck.Cal.rng at h
    exact of_decide_eq_true h
  have sz : (S (dig2 d ++ dig2 h ++ dig2 i)).size = 6 := by rw [S_size]; rfl
  have q : (((S (dig2 d ++ dig2 h ++ dig2 i)).size : Int) != 6) = false := by rw [sz]; rfl
  have x1 : (S (dig2 d ++ dig2 h ++ dig2 i)).extract 0 2 = S (dig2 d) := by rw [extract_S]; rfl
  have x2 : (S (dig2 d ++ dig2 h ++ dig2 i)).extract 2 4 = S (dig2 h) := by rw [extract_S]; rfl
  have x3 : (S (dig2 d ++ dig2 h ++ dig2 i)).extract 4 6 = S (dig2 i) := by rw [extract_S]; rfl
  have hd : Pl.digs (S (dig2 d ++ dig2 h ++ dig2 i)).data.toList = true := by
    rw [S_list, digs_app, digs_app, digs_dig2 h1.1 h1.2, digs_dig2 h2.1 h2.2, digs_dig2 h3.1 h3.2]; rfl
  have TA := Lib.hid (fun w => trim_any (S (dig2 d ++ dig2 h ++ dig2 i)) Pl.ten w (by omega) (by omega) (by decide) (by decide) (by decide))
  rw [Pl.trim_digs hd] at TA
  have e0 := empty_eq
  have RS := Lib.hid (fun w0 w hT hb => resolve_from d h i near a w0 w hT hr hb)
  generalize S (dig2 d ++ dig2 h ++ dig2 i) = s at *
  generalize hy : (⟨([] : List UInt8).toArray⟩ : ByteArray) = y at *
  have HY := Lib.hid hy
  clear hy hd hr
  go_enter Tryz.func88, Tryz.ntmps88
  go_wp2_with fail
  refine (TA.out _).mono ?_
  rintro e w1 ⟨rfl, g1⟩
  have G1 := Lib.hid g1
  have T1 := Lib.hid (hT.under g1)
  clear g1 hT TA
  go_upto_region 5 with fail
  have hb2 := Below.refl w1.drew.heap.size w1.drew
  have T1 : Hid (Ck.Tab w1.drew) := Lib.hid T1.out.drew
  go_region_held3 (fun _ => True) (trivial)
    (first | (go_at_call 137; refine (number_from _ w1.drew _ (by omega) (by omega) hb2).mono ?_; clear hb2; rintro e w2 ⟨rfl, hb2⟩) | (go_at_call 79; refine (RS.out w1.drew _ T1.out hb2).mono ?_; clear hb2; rintro e w2 ⟨rfl, hb2⟩))
  go_wp2_with fail
  go_ret2
  exact ⟨rfl, G1.out.trans ((undrew hb2).mono G1.out.size)⟩
end Go.Proofs.YtfnlgfacadmjpaaGreatDoor
namespace Go.Proofs.YtfnlgfacadmjpaaGreatDoor.El
open Go.RowKit

theorem infoReading : (Tryz.prog.info? 99).map (fun i => (i.zero, i.size, i.bytes)) = some (some (.agg #[.int .i64 0, .int .i64 0]), 2, 16) := by kernel_rfl
/-- What is known while the list is gone through. -/
structure Wt (W : World) (M : List Elt.R) (u : Value) (w : World) : Prop where
  below : Below W.heap.size W w
  own : w.ownsRow W.heap.size 99 2 u M.length (rdc M)
theorem Wt.under {W w w' : World} {M : List Elt.R} {u : Value} (h : Wt W M u w) (hb : Below w.heap.size w w') : Wt W M u w' := ⟨h.below.trans (hb.mono h.below.size), own_under h.own hb⟩
theorem Wt.more {W w w' : World} {M : List Elt.R} {u : Value} {g' cap' : Nat} {x : Elt.R} (h : Wt W M u w)
    (hown : w'.ownsRow W.heap.size 99 2 (.slice (some ⟨g', 0, none⟩) (M.length + 1) cap') (M.length + 1) (rdc M ++ [.int .i64 x.1, .int .i64 x.2])) (hg : w.grownBy w' u.ownBlock) : Wt W (M ++ [x]) (.slice (some ⟨g', 0, none⟩) (M.length + 1) cap') w' :=
  ⟨below_own h.below h.below.size h.own hg, by rw [rdc_snoc]; simpa using hown⟩
theorem wout_snoc (L : List Elt.R) (C : List Int) (k : Nat) (h : k < L.length) : Elt.wout (L.take (k + 1)) C = Elt.wout (L.take k) C ++ (if C.contains (L[k]).1 then [] else [L[k]]) := by
  unfold Elt.wout
  rw [List.take_succ_eq_append_getElem h, List.filter_append]
  congr 1
  cases hc : C.contains (L[k]).1 <;> (rw [List.filter_cons, List.filter_nil]; simp only [hc]; rfl)
theorem wout_len (L : List Elt.R) (C : List Int) (k : Nat) : (Elt.wout (L.take k) C).length ≤ L.length := by
  unfold Elt.wout
  have h1 := List.length_filter_le (fun r : Elt.R => !C.contains r.1) (L.take k)
  have h2 : (L.take k).length ≤ L.length := by rw [List.length_take]; omega
  omega
end Go.Proofs.YtfnlgfacadmjpaaGreatDoor.El
